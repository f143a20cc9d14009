import Derived.Test.YtkhodpknpligpaaGreatAl
import Derived.Test.YtkhodpknpligpaaGreatMrgL
import Derived.Test.YtkhodpknpligpaaGreatMrgAA
import Derived.Test.YtkhodpknpligpaaGreatMrgV
import Derived.Test.YtkhodpknpligpaaGreatMrgAC
import Derived.Test.YtkhodpknpligpaaGreatMrgZ
set_option linter.unusedVariables false
set_option linter.unusedSimpArgs false
namespace Go.Proofs.YtkhodpknpligpaaGreat
open Go Go.RowKit Copyhold
theorem Zh8 (l:List (Int × Bool)) (sq:Int) (yes:Bool):(insD l sq yes).length=l.length+1:=by
 have h:=Qd5 (l.map (·.1)) sq;rw [W0a] at h;unfold insD;rw [W0e,W0e,W0g,W0p];simp;omega
def Qbk (rs:List TRow) (n:Int):Option TRow:=rs.find? (fun r=>r.client==n)
theorem Qc1 (r:TRow) (rs:List TRow) (n:Int):Qbk (r :: rs) n=if r.client=n then some r else Qbk rs n:=by
 unfold Qbk;rw [W1e];by_cases h:r.client=n
 ·simp [h]
 ·have:(r.client==n)=false:=by simpa using h
  rw [this,W1w h]
theorem Qh4 {rs:List TRow} {n:Int} (h:∀ r∈rs,n<r.client):Qbk rs n=none:=by
 unfold Qbk;rw [W10];intro r hr;have:=h r hr;simp;omega
theorem Qco {rs:List TRow} {n:Int} {r:TRow} (h:Qbk rs n=some r):r.client=n∧r∈rs:=by
 unfold Qbk at h;exact ⟨by simpa using List.find?_some h,W1n h⟩
theorem Qmg:∀ (rs:List TRow) (n:Int),SrtC rs→((Qax (rs.map (·.client)) n).2=(Qbk rs n).isSome)∧((Qax (rs.map (·.client)) n).2=true→rs[(Qax (rs.map (·.client)) n).1]?=Qbk rs n)
 | [],n,_=>by simp [Qax,Qbk]
 | r :: rs,n,h=>by
  have hp:=W1k.1 h;have ih:=Qmg rs n hp.2;rw [W1t,Qax,Qc1];by_cases hle:n≤r.client
  ·rw [W1x hle];by_cases he:r.client=n
   ·rw [W1x he];simp [he]
   ·rw [W1w he,Qh4 (fun q hq=>by have:=hp.1 q hq;omega)];simp [he]
  ·rw [W1w hle,W1w (show ¬ r.client=n by omega)];simpa using ih
theorem Qpx (rs:List TRow) (n ep sq:Int) (h:SrtC rs):ownF rs n ep sq=if n<0∨ep<1∨sq<1 then ((none,1):Option TRow × Int) else match Qbk rs n with
  | none=>(none,6)
  | some r=>if ep<r.epoch then (none,17) else if r.epoch<ep then (none,6) else (some r,0):=by
 obtain ⟨h1,h2⟩:=Qmg rs n h;unfold ownF
 split
 ·rfl
 ·cases hr:Qbk rs n with
  | none=>
   rw [hr] at h1;rw [W1x (by rw [h1];rfl)]
  | some r=>
   rw [hr] at h1 h2;have ht:(Qax (rs.map (·.client)) n).2=true:=by rw [h1];rfl
   rw [W1w (by rw [ht];decide),h2 ht]
def Qbz:List TRow→TRow→List TRow
 | [],x=>[x]
 | r :: rs,x=>if x.client<r.client then x :: r :: rs else if x.client=r.client then x :: rs else r :: Qbz rs x
theorem Qo7 (f:TRow→TRow) (hf:∀ r,(f r).client=r.client) (n ep:Int):∀ (rs:List TRow),SrtC rs→Qb5 rs n ep f=Qbz rs (f (match Qbk rs n with | none=>⟨n,ep,0,[]⟩ | some r=>if r.epoch=ep then r else ⟨n,ep,0,[]⟩))
 | [],_=>by simp [Qb5,Qax,Qbk,Qbz]
 | r :: rs,h=>by
  have hp:=W1k.1 h;have ih:=Qo7 f hf n ep rs hp.2;unfold Qb5 at ih ⊢;rw [W1t,Qax,Qc1];by_cases hle:n≤r.client
  ·rw [W1x hle];by_cases he:r.client=n
   ·subst he;simp only [beq_self_eq_true,Bool.true_eq_false,if_false,List.getElem?_cons_zero,if_true,List.take_zero,W1v,List.drop_succ_cons,List.drop_zero];have hput:∀ x:TRow,x.client=r.client→Qbz (r :: rs) (f x)=f x :: rs:=fun x hx=>by
     have hfx:=hf x;rw [Qbz,W1w (by omega),W1x (by omega)]
    by_cases he2:r.epoch=ep
    ·simp only [he2,if_true];rw [hput _ rfl]
    ·simp only [W1w he2];exact (hput ⟨r.client,ep,0,[]⟩ rfl).symm
   ·rw [W1w he,Qh4 (fun q hq=>by have:=hp.1 q hq;omega)];have hb:(r.client==n)=false:=by simpa using he
    simp only [hb,if_true,List.take_zero,W1v,List.drop_zero];rw [Qbz,hf];simp only;rw [W1x (by omega)]
  ·rw [W1w hle,W1w (show ¬ r.client=n by omega)];have hc:∀ x:TRow,x.client=n→Qbz (r :: rs) x=r :: Qbz rs x:=fun x hx=>by rw [Qbz,W1w (by omega),W1w (by omega)]
   rw [hc _ (by rw [hf];cases hr:Qbk rs n with | none=>rfl | some q=>simp only;split;exact (Qco hr).1;rfl),← ih];simp only [List.getElem?_cons_succ,List.take_succ_cons,List.drop_succ_cons]
   split
   ·simp
   ·cases rs[(Qax (rs.map (·.client)) n).1]? with
    | none=>rfl
    | some q=>simp
theorem Ql9:∀ (rs:List TRow) (x:TRow) (m:Int),SrtC rs→Qbk (Qbz rs x) m=if m=x.client then some x else Qbk rs m
 | [],x,m,_=>by
  rw [Qbz,Qc1];by_cases h:x.client=m
  ·rw [W1x h,W1x h.symm]
  ·rw [W1w h,W1w (Ne.symm h)]
 | r :: rs,x,m,h=>by
  have hp:=W1k.1 h;have ih:=Ql9 rs x m hp.2;rw [Qbz]
  split
  ·rename_i h1;rw [Qc1];by_cases hm:m=x.client
   ·rw [W1x hm.symm,W1x hm]
   ·rw [W1w (Ne.symm hm),W1w hm]
  ·split
   ·rename_i h1 h2;rw [Qc1,Qc1];by_cases hm:m=x.client
    ·rw [W1x hm.symm,W1x hm]
    ·rw [W1w (Ne.symm hm),W1w hm,W1w (by omega)]
   ·rename_i h1 h2;rw [Qc1,Qc1,ih];by_cases hm:m=x.client
    ·rw [W1x hm,W1w (by omega),W1x hm]
    ·rw [W1w hm,W1w hm]
theorem Qk6:∀ (rs:List TRow) (x q:TRow),q∈Qbz rs x→q=x∨q∈rs
 | [],x,q,h=>by rw [Qbz] at h;exact .inl (W0z.1 h)
 | r :: rs,x,q,h=>by
  rw [Qbz] at h
  split at h
  ·rcases W0y.1 h with h | h
   ·exact .inl h
   ·exact .inr h
  ·split at h
   ·rcases W0y.1 h with h | h
    ·exact .inl h
    ·exact .inr (W11 _ h)
   ·rcases W0y.1 h with h | h
    ·exact .inr (by rw [h];exact List.mem_cons_self)
    ·rcases Qk6 rs x q h with h | h
     ·exact .inl h
     ·exact .inr (W11 _ h)
theorem Za8:∀ (rs:List TRow) (x:TRow),SrtC rs→SrtC (Qbz rs x)
 | [],x,_=>by rw [Qbz];exact List.pairwise_singleton _ _
 | r :: rs,x,h=>by
  have hp:=W1k.1 h;rw [Qbz]
  split
  ·rename_i h1;refine W1k.2 ⟨fun q hq=>?_,h⟩;rcases W0y.1 hq with rfl | hq
   ·exact h1
   ·have:=hp.1 q hq;omega
  ·split
   ·rename_i h1 h2;exact W1k.2 ⟨fun q hq=>by have:=hp.1 q hq;omega,hp.2⟩
   ·rename_i h1 h2;refine W1k.2 ⟨fun q hq=>?_,Za8 rs x hp.2⟩;rcases Qk6 rs x q hq with rfl | hq
    ·omega
    ·exact hp.1 q hq
def Qgw (l:List (Int × Bool)) (s:Int):Option (Int × Bool):=l.find? (fun d=>d.1==s)
theorem Qeq (d:Int × Bool) (l:List (Int × Bool)) (s:Int):Qgw (d :: l) s=if d.1=s then some d else Qgw l s:=by
 unfold Qgw;rw [W1e];by_cases h:d.1=s
 ·simp [h]
 ·have:(d.1==s)=false:=by simpa using h
  rw [this,W1w h]
theorem Qvh {l:List (Int × Bool)} {s:Int} (h:∀ d∈l,s<d.1):Qgw l s=none:=by
 unfold Qgw;rw [W10];intro d hd;have:=h d hd;simp;omega
theorem Qr0:∀ (l:List (Int × Bool)) (s:Int),SrtD l→((Qax (l.map (·.1)) s).2=(Qgw l s).isSome)∧((Qax (l.map (·.1)) s).2=true→l[(Qax (l.map (·.1)) s).1]?=Qgw l s)
 | [],s,_=>by simp [Qax,Qgw]
 | d :: l,s,h=>by
  have hp:=W1k.1 h;have ih:=Qr0 l s hp.2;rw [W1t,Qax,Qeq];by_cases hle:s≤d.1
  ·rw [W1x hle];by_cases he:d.1=s
   ·rw [W1x he];simp [he]
   ·rw [W1w he,Qvh (fun q hq=>by have:=hp.1 q hq;omega)];simp [he]
  ·rw [W1w hle,W1w (show ¬ d.1=s by omega)];simpa using ih
theorem Qm1 (d:Int × Bool) (l:List (Int × Bool)) (s:Int) (y:Bool):insD (d :: l) s y=if s≤d.1 then (s,y) :: d :: l else d :: insD l s y:=by
 unfold insD;rw [W1t,Qax];by_cases h:s≤d.1
 ·rw [W1x h,W1x h];simp
 ·rw [W1w h,W1w h];simp
theorem Ze3:∀ (l:List (Int × Bool)) (s:Int) (y:Bool) (m:Int),SrtD l→Qgw (insD l s y) m=if m=s then some (s,y) else Qgw l m
 | [],s,y,m,_=>by
  show Qgw [(s,y)] m=_;rw [Qeq];by_cases h:m=s
  ·rw [W1x h.symm,W1x h]
  ·rw [W1w (fun e=>h e.symm),W1w h]
 | d :: l,s,y,m,h=>by
  have hp:=W1k.1 h;rw [Qm1];by_cases hs:s≤d.1
  ·rw [W1x hs,Qeq];by_cases hm:m=s
   ·rw [W1x hm.symm,W1x hm]
   ·rw [W1w (fun e=>hm e.symm),W1w hm]
  ·rw [W1w hs,Qeq,Ze3 l s y m hp.2,Qeq];by_cases hm:m=s
   ·rw [W1x hm,W1x hm,W1w (by omega)]
   ·rw [W1w hm,W1w hm]
theorem Qk7:∀ (l:List (Int × Bool)) (s:Int) (y:Bool) (q:Int × Bool),q∈insD l s y→q=(s,y)∨q∈l
 | [],s,y,q,h=>by
  have:q∈[(s,y)]:=h;simpa using this
 | d :: l,s,y,q,h=>by
  rw [Qm1] at h
  split at h
  ·rcases W0y.1 h with h | h
   ·exact .inl h
   ·exact .inr h
  ·rcases W0y.1 h with h | h
   ·exact .inr (h ▸ List.mem_cons_self ..)
   ·rcases Qk7 l s y q h with h | h
    ·exact .inl h
    ·exact .inr (W11 _ h)
theorem Qv7:∀ (l:List (Int × Bool)) (s:Int) (y:Bool),SrtD l→Qgw l s=none→SrtD (insD l s y)
 | [],s,y,_,_=>by
  show SrtD [(s,y)];simp [SrtD]
 | d :: l,s,y,h,hn=>by
  have hp:=W1k.1 h;rw [Qeq] at hn;have hne:¬ d.1=s:=by intro e;rw [W1x e] at hn;cases hn
  rw [W1w hne] at hn;rw [Qm1];by_cases hs:s≤d.1
  ·rw [W1x hs];refine W1k.2 ⟨?_,h⟩;intro q hq;rcases W0y.1 hq with e | hq
   ·rw [e];show s<d.1;omega
   ·have:=hp.1 q hq;show s<q.1;omega
  ·rw [W1w hs];refine W1k.2 ⟨?_,Qv7 l s y hp.2 hn⟩;intro q hq;rcases Qk7 l s y q hq with e | hq
   ·rw [e];show d.1<s;omega
   ·exact hp.1 q hq
theorem Zba (l:List (Int × Bool)) (M:Int) (h:SrtD l):SrtD (Qed l M):=List.Pairwise.filter _ h
theorem Zfu (rs:List TRow) (n ep sq:Int) (h:SrtC rs) (hd:∀ r∈rs,SrtD r.l):askF rs n ep sq=if n<0∨ep<1∨sq<1 then ((false,1):Bool × Int) else match Qbk rs n with
  | none=>(false,6)
  | some r=>if ep<r.epoch then (false,17) else if r.epoch<ep then (false,6) else if sq≤r.done then (false,18) else match Qgw r.l sq with
   | none=>(false,6)
   | some d=>(d.2,0):=by
 unfold askF;rw [Qpx rs n ep sq h];by_cases hv:n<0∨ep<1∨sq<1
 ·simp only [W1x hv]
 ·simp only [W1w hv];cases hr:Qbk rs n with
  | none=>rfl
  | some r=>
   have hm:=(Qco hr).2;obtain ⟨h1,h2⟩:=Qr0 r.l sq (hd r hm);by_cases c1:ep<r.epoch
   ·simp only [W1x c1]
   ·simp only [W1w c1];by_cases c2:r.epoch<ep
    ·simp only [W1x c2]
    ·simp only [W1w c2];by_cases c3:sq≤r.done
     ·simp only [W1x c3]
     ·simp only [W1w c3];cases hq:Qgw r.l sq with
      | none=>
       rw [hq] at h1;rw [W1w (by rw [h1];decide)]
      | some d=>
       rw [hq] at h1 h2;have ht:(Qax (r.l.map (·.1)) sq).2=true:=by rw [h1];rfl
       rw [W1x ht,h2 ht];rfl
def Qc6 (rs:List TRow) (n ep:Int):TRow:=match Qbk rs n with | none=>⟨n,ep,0,[]⟩ | some r=>if r.epoch=ep then r else ⟨n,ep,0,[]⟩
theorem Qv8:∀ (rs:List TRow) (x:TRow),SrtC rs→(Qbz rs x).length=if (Qbk rs x.client).isSome then rs.length else rs.length+1
 | [],x,_=>by simp [Qbz,Qbk]
 | r :: rs,x,h=>by
  have hp:=W1k.1 h;rw [Qbz,Qc1];by_cases h1:x.client<r.client
  ·have e:(if r.client=x.client then some r else Qbk rs x.client)=none:=by
    rw [W1w (by omega),Qh4 (fun q hq=>by have:=hp.1 q hq;omega)]
   rw [W1x h1,e];simp
  ·rw [W1w h1];by_cases h2:x.client=r.client
   ·have e:(if r.client=x.client then some r else Qbk rs x.client)=some r:=W1x h2.symm;rw [W1x h2,e];simp
   ·have e:(if r.client=x.client then some r else Qbk rs x.client)=Qbk rs x.client:=W1w (fun e=>h2 e.symm);rw [W1w h2,e,W0b,Qv8 rs x hp.2]
    split<;>simp
theorem Qxb (rs:List TRow) (x:TRow) (h:Good rs) (hx:Zai x) (hl:rs.length<64∨(Qbk rs x.client).isSome=true):Good (Qbz rs x):=by
 obtain ⟨h1,h2,h3⟩:=h;refine ⟨?_,Za8 rs x h2,?_⟩
 ·rw [Qv8 rs x h2]
  split
  ·exact h1
  ·rename_i hn;rcases hl with hl | hl
   ·omega
   ·exact absurd hl hn
 ·intro r hr;rcases Qk6 rs x r hr with rfl | hr
  ·exact hx
  ·exact h3 r hr
theorem Qnp (rs:List TRow) (n ep:Int):(Qc6 rs n ep).client=n:=by
 unfold Qc6;cases h:Qbk rs n with
 | none=>rfl
 | some r=>
  dsimp only
  split
  ·exact (Qco h).1
  ·rfl
theorem Zac (rs:List TRow) (n ep:Int):(Qc6 rs n ep).epoch=ep:=by
 unfold Qc6;cases h:Qbk rs n with
 | none=>rfl
 | some r=>
  dsimp only
  split
  ·assumption
  ·rfl
theorem Qtc (rs:List TRow) (n ep:Int) (h:Good rs) (hn:0≤n) (he:1≤ep):Zai (Qc6 rs n ep):=by
 have hz:Zai ⟨n,ep,0,[]⟩:=⟨hn,he,W1q 0,W0j 256,List.Pairwise.nil,by intro d hd;cases hd⟩
 unfold Qc6;cases hr:Qbk rs n with
 | none=>exact hz
 | some r=>
  dsimp only
  split
  ·exact h.2.2 r (Qco hr).2
  ·exact hz
theorem Qnl (rs:List TRow) (n ep:Int) (f:TRow→TRow) (hf:∀ r,(f r).client=r.client) (h:SrtC rs):Qb5 rs n ep f=Qbz rs (f (Qc6 rs n ep)):=Qo7 f hf n ep rs h
theorem Qz2 (rs:List TRow) (n ep sq:Int) (y:Bool) (h:Good rs) (ha:(askF rs n ep sq).2=6) (hf:Qn1 rs n ep sq=false) :
  Qa0 rs n ep sq y=(Qbz rs (putW sq y (Qc6 rs n ep)),y,0):=by
 unfold Qa0;rw [W1w (by rw [ha];decide),hf,W1w (by decide),Qnl rs n ep (putW sq y) (fun _=>rfl) h.2.1]
theorem Qq0 (rs:List TRow) (n ep sq:Int) (h:Good rs) (ha:(askF rs n ep sq).2=6) :
  0≤n∧1≤ep∧1≤sq∧(Qc6 rs n ep).done<sq∧Qgw (Qc6 rs n ep).l sq=none∧(∀ r,Qbk rs n=some r→r.epoch≤ep):=by
 rw [Zfu rs n ep sq h.2.1 (fun r hr=>(h.2.2 r hr).2.2.2.2.1)] at ha;by_cases hv:n<0∨ep<1∨sq<1
 ·rw [W1x hv] at ha;exact absurd ha (by decide)
 ·rw [W1w hv] at ha;unfold Qc6;cases hr:Qbk rs n with
  | none=>exact ⟨by omega,by omega,by omega,by show (0:Int)<sq;omega,rfl,by intro r e;cases e⟩
  | some r=>
   rw [hr] at ha;dsimp only at ha ⊢;by_cases c1:ep<r.epoch
   ·rw [W1x c1] at ha;exact absurd ha (by decide)
   ·rw [W1w c1] at ha;refine ⟨by omega,by omega,by omega,?_⟩;by_cases c2:r.epoch<ep
    ·rw [W1w (by omega)];exact ⟨by show (0:Int)<sq;omega,rfl,by intro q e;cases e;omega⟩
    ·rw [W1w c2] at ha;rw [W1x (by omega)];by_cases c3:sq≤r.done
     ·rw [W1x c3] at ha;exact absurd ha (by decide)
     ·rw [W1w c3] at ha;cases hq:Qgw r.l sq with
      | none=>exact ⟨by omega,rfl,by intro q e;cases e;omega⟩
      | some d=>rw [hq] at ha;exact absurd (show (0:Int)=6 from ha) (by decide)
theorem Qvg (rs:List TRow) (n ep sq:Int) (y:Bool) (h:Good rs) (ha:(askF rs n ep sq).2=6) (hf:Qn1 rs n ep sq=false)
  (hroom:rs.length<64∨(Qbk rs n).isSome=true) (hmany:(Qc6 rs n ep).l.length<256):Good (Qbz rs (putW sq y (Qc6 rs n ep))):=by
 obtain ⟨a1,a2,a3,a4,a5,a6⟩:=Qq0 rs n ep sq h ha;obtain ⟨b1,b2,b3,b4,b5,b6⟩:=Qtc rs n ep h a1 a2;have hc:(putW sq y (Qc6 rs n ep)).client=n:=Qnp rs n ep;refine Qxb rs _ h ⟨b1,b2,b3,?_,Qv7 _ sq y b5 a5,?_⟩ (by rw [hc];exact hroom)
 ·show (insD (Qc6 rs n ep).l sq y).length≤256;rw [Zh8];omega
 ·intro d hd;rcases Qk7 _ sq y d hd with e | hd
  ·rw [e];exact a4
  ·exact b6 d hd
theorem Zgm (rs:List TRow) (n ep sq:Int) (h:Good rs) (ha:(askF rs n ep sq).2=6) (hf:Qn1 rs n ep sq=false) :
  (rs.length<64∨(Qbk rs n).isSome=true)∧(Qc6 rs n ep).l.length<256:=by
 obtain ⟨a1,a2,a3,a4,a5,a6⟩:=Qq0 rs n ep sq h ha;obtain ⟨p1,p2⟩:=Qmg rs n h.2.1;unfold Qn1 at hf;rw [Qpx rs n ep sq h.2.1,W1w (by omega),p1] at hf;unfold Qc6;cases hr:Qbk rs n with
 | none=>
  rw [hr] at hf;simp at hf;exact ⟨.inl hf,by show (0:Nat)<256;decide⟩
 | some r=>
  rw [hr] at hf;have:=a6 r hr;refine ⟨.inr rfl,?_⟩;dsimp only at hf ⊢;by_cases c:r.epoch=ep
  ·rw [W1x c];rw [W1w (by omega),W1w (by omega)] at hf;simpa using hf
  ·rw [W1w c];show (0:Nat)<256;decide
theorem Good.ask {rs:List TRow} (h:Good rs) (n ep sq:Int):askF rs n ep sq=if n<0∨ep<1∨sq<1 then ((false,1):Bool × Int) else match Qbk rs n with
  | none=>(false,6)
  | some r=>if ep<r.epoch then (false,17) else if r.epoch<ep then (false,6) else if sq≤r.done then (false,18) else match Qgw r.l sq with
   | none=>(false,6)
   | some d=>(d.2,0):=Zfu rs n ep sq h.2.1 (fun r hr=>(h.2.2 r hr).2.2.2.2.1)
theorem Qif (rs:List TRow) (n ep sq:Int) (y:Bool) (h:Good rs) :
  ((askF rs n ep sq).2 ≠ 6∧Qa0 rs n ep sq y=(rs,askF rs n ep sq))∨((askF rs n ep sq).2=6∧Qa0 rs n ep sq y=(rs,false,12)) ∨
  ((askF rs n ep sq).2=6∧Qa0 rs n ep sq y=(Qbz rs (putW sq y (Qc6 rs n ep)),y,0)∧Good (Qbz rs (putW sq y (Qc6 rs n ep)))):=by
 by_cases ha:(askF rs n ep sq).2=6
 ·cases hf:Qn1 rs n ep sq with
  | true=>
   refine .inr (.inl ⟨ha,?_⟩);unfold Qa0;rw [W1w (by rw [ha];decide),W1x hf]
  | false=>
   obtain ⟨r1,r2⟩:=Zgm rs n ep sq h ha hf;exact .inr (.inr ⟨ha,Qz2 rs n ep sq y h ha hf,Qvg rs n ep sq y h ha hf r1 r2⟩)
 ·refine .inl ⟨ha,?_⟩;unfold Qa0;rw [W1x ha]
theorem Qvw (rs:List TRow) (n ep sq:Int) (y:Bool) (h:Good rs) (ha:(askF rs n ep sq).2=6) (hg:Good (Qbz rs (putW sq y (Qc6 rs n ep)))) (m e s:Int) :
  askF (Qbz rs (putW sq y (Qc6 rs n ep))) m e s=if m<0∨e<1∨s<1 then ((false,1):Bool × Int) else if m=n then
   (if e<ep then (false,17) else if ep<e then (false,6) else if s=sq then (y,0) else askF rs m e s) else askF rs m e s:=by
 obtain ⟨a1,a2,a3,a4,a5,a6⟩:=Qq0 rs n ep sq h ha;obtain ⟨b1,b2,b3,b4,b5,b6⟩:=Qtc rs n ep h a1 a2;rw [hg.ask m e s,Ql9 rs _ m h.2.1];have hc:(putW sq y (Qc6 rs n ep)).client=n:=Qnp rs n ep;have he:(putW sq y (Qc6 rs n ep)).epoch=ep:=Zac rs n ep;have hd:(putW sq y (Qc6 rs n ep)).done=(Qc6 rs n ep).done:=rfl;have hl:(putW sq y (Qc6 rs n ep)).l=insD (Qc6 rs n ep).l sq y:=rfl;by_cases hv:m<0∨e<1∨s<1
 ·rw [W1x hv,W1x hv]
 ·rw [W1w hv,W1w hv];by_cases hm:m=n
  ·rw [W1x (hm.trans hc.symm),W1x hm];dsimp only;rw [he,hd,hl];by_cases c1:e<ep
   ·rw [W1x c1,W1x c1]
   ·rw [W1w c1,W1w c1];by_cases c2:ep<e
    ·rw [W1x c2,W1x c2]
    ·rw [W1w c2,W1w c2,Ze3 _ sq y s b5];by_cases c3:s=sq
     ·rw [W1x c3,W1x c3,W1w (by omega)]
     ·rw [W1w c3,W1w c3,h.ask m e s,W1w hv,hm];unfold Qc6;have hee:e=ep:=by omega
      cases hr:Qbk rs n with
      | none=>
       show (if s≤(0:Int) then _ else _)=_;rw [W1w (by omega)];rfl
      | some r=>
       have:=a6 r hr;dsimp only;by_cases c4:r.epoch=ep
       ·simp only [W1x c4];rw [W1w (show ¬ e<r.epoch by omega),W1w (show ¬ r.epoch<e by omega)]
       ·simp only [W1w c4];rw [W1w (show ¬ e<r.epoch by omega),W1x (show r.epoch<e by omega)];show (if s≤(0:Int) then _ else _)=_;rw [W1w (by omega)];rfl
  ·rw [W1w (fun x=>hm (x.trans hc)),W1w hm,h.ask m e s,W1w hv]
theorem Qfz (rs:List TRow) (n ep dn:Int) (h:Good rs) :
  ((Qbg rs n ep dn).1=rs∧(Qbg rs n ep dn).2 ≠ 0) ∨
  (∃ r,Qbk rs n=some r∧r.epoch=ep∧0≤n∧1≤ep∧1≤dn∧Qbg rs n ep dn=(Qbz rs (cutW dn r),0)∧Good (Qbz rs (cutW dn r))):=by
 have ho:=Qpx rs n ep dn h.2.1;by_cases hv:n<0∨ep<1∨dn<1
 ·rw [W1x hv] at ho;refine .inl ?_;unfold Qbg;rw [ho,W1x rfl];exact ⟨rfl,(by decide:(1:Int) ≠ 0)⟩
 ·rw [W1w hv] at ho;cases hr:Qbk rs n with
  | none=>
   rw [hr] at ho;refine .inl ?_;unfold Qbg;rw [ho];exact ⟨rfl,(by decide:(6:Int) ≠ 0)⟩
  | some r=>
   rw [hr] at ho;dsimp only at ho;by_cases c1:ep<r.epoch
   ·rw [W1x c1] at ho;refine .inl ?_;unfold Qbg;rw [ho];exact ⟨rfl,(by decide:(17:Int) ≠ 0)⟩
   ·rw [W1w c1] at ho;by_cases c2:r.epoch<ep
    ·rw [W1x c2] at ho;refine .inl ?_;unfold Qbg;rw [ho];exact ⟨rfl,(by decide:(6:Int) ≠ 0)⟩
    ·rw [W1w c2] at ho;have he:r.epoch=ep:=by omega
     have hb:Qc6 rs n ep=r:=by unfold Qc6;rw [hr];exact W1x he
     obtain ⟨g1,g2,g3,g4,g5,g6⟩:=h.2.2 r (Qco hr).2;have hc:(cutW dn r).client=n:=(Qco hr).1;refine .inr ⟨r,rfl,he,by omega,by omega,by omega,?_,Qxb rs _ h ⟨g1,g2,?_,?_,Zba _ _ g5,?_⟩ (.inr (by rw [hc,hr];rfl))⟩
     ·unfold Qbg;rw [ho,W1w (by intro x;cases x),Qnl rs n ep (cutW dn) (fun _=>rfl) h.2.1,hb]
     ·show 0≤max r.done dn;omega
     ·exact W09 (W2g _ _) g4
     ·intro d hd;have:=(W1l.1 hd).2;exact of_decide_eq_true this
theorem Zht (rs:List TRow) (n ep sq:Int) (y:Bool) (h:Good rs) (he:(Qa0 rs n ep sq y).2.2=0) :
  Good (Qa0 rs n ep sq y).1∧askF (Qa0 rs n ep sq y).1 n ep sq=((Qa0 rs n ep sq y).2.1,0):=by
 rcases Qif rs n ep sq y h with ⟨h1,h2⟩ | ⟨h1,h2⟩ | ⟨h1,h2,h3⟩
 ·rw [h2] at he ⊢;exact ⟨h,Prod.ext rfl he⟩
 ·rw [h2] at he;exact absurd (show (12:Int)=0 from he) (by decide)
 ·rw [h2];obtain ⟨a1,a2,a3,a4,a5,a6⟩:=Qq0 rs n ep sq h h1;refine ⟨h3,?_⟩;show askF (Qbz rs (putW sq y (Qc6 rs n ep))) n ep sq=(y,0)
  rw [Qvw rs n ep sq y h h1 h3,W1w (by omega),W1x rfl,W1w (by omega),W1w (by omega),W1x rfl]
theorem Qrr:∀ (rs:List TRow) (x:TRow),Qbz (Qbz rs x) x=Qbz rs x
 | [],x=>by rw [Qbz,Qbz,W1w (by omega),W1x rfl]
 | r :: rs,x=>by
  rw [Qbz];by_cases h1:x.client<r.client
  ·rw [W1x h1,Qbz,W1w (by omega),W1x rfl]
  ·rw [W1w h1];by_cases h2:x.client=r.client
   ·rw [W1x h2,Qbz,W1w (by omega),W1x rfl]
   ·rw [W1w h2,Qbz,W1w h1,W1w h2,Qrr rs x]
theorem Ze8 (dn:Int) (r:TRow):cutW dn (cutW dn r)=cutW dn r:=by
 have hm:max (max r.done dn) dn=max r.done dn:=by omega
 show (⟨r.client,r.epoch,max (max r.done dn) dn,Qed (Qed r.l (max r.done dn)) (max (max r.done dn) dn)⟩:TRow)=⟨r.client,r.epoch,max r.done dn,Qed r.l (max r.done dn)⟩
 rw [hm];have:Qed (Qed r.l (max r.done dn)) (max r.done dn)=Qed r.l (max r.done dn):=by
  unfold Qed;rw [List.filter_filter];simp
 rw [this]
theorem Qso (rs:List TRow) (n ep dn:Int) (h:Good rs) (he:(Qbg rs n ep dn).2=0):Qbg (Qbg rs n ep dn).1 n ep dn=((Qbg rs n ep dn).1,0):=by
 rcases Qfz rs n ep dn h with ⟨h1,h2⟩ | ⟨r,h1,h2,h3,h4,h5,h6,h7⟩
 ·exact absurd he h2
 ·rw [h6];show Qbg (Qbz rs (cutW dn r)) n ep dn=(Qbz rs (cutW dn r),0)
  have hc:(cutW dn r).client=n:=(Qco h1).1;have hr2:Qbk (Qbz rs (cutW dn r)) n=some (cutW dn r):=by rw [Ql9 rs _ n h.2.1,W1x hc.symm]
  rcases Qfz (Qbz rs (cutW dn r)) n ep dn h7 with ⟨g1,g2⟩ | ⟨q,g1,g2,g3,g4,g5,g6,g7⟩
  ·exfalso;apply g2;have ho:=Qpx (Qbz rs (cutW dn r)) n ep dn h7.2.1;have hee:(cutW dn r).epoch=r.epoch:=rfl;rw [W1w (by omega),hr2] at ho;dsimp only at ho;rw [W1w (by omega),W1w (by omega)] at ho;unfold Qbg;rw [ho,W1w (by intro x;cases x)]
  ·rw [hr2] at g1;cases g1;rw [g6,Ze8,Qrr]
theorem Qzs (rs:List TRow) (n ep dn:Int) (h:Good rs) (he:(Qbg rs n ep dn).2 ≠ 0):(Qbg rs n ep dn).1=rs:=by
 rcases Qfz rs n ep dn h with ⟨g1,g2⟩ | ⟨r,g1,g2,g3,g4,g5,g6,g7⟩
 ·exact g1
 ·rw [g6] at he;exact absurd rfl he
theorem Zk7 {t:Txn} {c:Cal} (okt:OkT t) (hl:t.looks.length≤90000) (K:Kept t.now (doF t.now c).1):OkT (Qdw t c):=⟨okt.stamp,okt.was,K.ok,by have:=Ql0 t c;omega⟩
theorem Qyt {k:Sto} {f g:Fsy} (hp:Qcc k) (hf:Qat f) (hg:Qat g) (i:Int):atF (Qcl (Qea k (Qbi f g) g.next) (k.stamp+1)) i=if atF f i=atF g i then atF (Qcl k k.stamp) i else atF g i:=by
 rw [Zas hp (Qnj f g) (Qnk hf hg) hg.2.1];rcases Qqv (f:=f) hg i with ⟨hc,he⟩ | ⟨c,hc,he,hne⟩
 ·rw [hc,W1x he]
 ·rw [hc,W1w hne];exact he
theorem Qvl {s:Sto} {t:Txn} {B:Nat} (h:Fit s B) (okt:OkT t) (hw:Qat t.was) (hn:Qat t.now) (hs:s.stamp<4611686018427387904) (hB:B≤90000):Fit (Qa6 s t).1 (B+513)∧(Qa6 s t).1.stamp≤s.stamp+1:=by
 have up:Fit s (B+513):=⟨h.ok,W09 h.l (by omega),W09 h.n (by omega),fun c hc=>W09 (h.r c hc) (by omega)⟩
 by_cases hi:t.was=t.now
 ·rw [Qii (Qaf.2 hi)];exact ⟨up,by show s.stamp≤_;omega⟩
 ·by_cases hc:Qkw s t
  ·rw [Qgz (Qaa.2 hi) (Qaf.2 hc)];exact ⟨up,by show s.stamp≤_;omega⟩
  ·rw [Qf4 (Qaa.2 hi) (Qaa.2 hc)];have hlen:=Qik t.was t.now;have h1:=hw.1;have h2:=hn.1;have F:=h.inst (Qo6 okt.was okt.now) (next:=t.now.next) okt.now.1 (by omega) (by omega);exact ⟨⟨F.ok,W09 F.l (by omega),W09 F.n (by omega),fun c hc=>W09 (F.r c hc) (by omega)⟩,W1q _⟩
theorem Qrn {f:Fsy} (hf:midF f) (h:Qe3 f):TreeP f:=by
 obtain ⟨h1,⟨n0,h2,h3,h4,h5⟩,h6⟩:=h;have hr:=Qah h1;have key:∀ i n,atF f i=some n→n.links=(nam f i:Int)∧(∀ e∈n.l,Qav f e.ino=true)∧(¬ i=1→1≤n.links∧(n.kind=2→n.links≤1∧Reach f 1 i)):=fun i n hn=>by
  obtain ⟨j,hj⟩:=W0w (Qdh hn);obtain ⟨a,b,c⟩:=h6 j n hj;rw [Qei hn,Zct h1] at a;refine ⟨a,fun e he=>by obtain ⟨k,hk⟩:=W0w he;exact c k e hk,fun hi=>?_⟩;unfold Qmw at b;have hj0:¬ j=0:=fun e=>by
   rw [e,h2] at hj;obtain rfl:=W0c hj;exact hi ((Qei hn).symm.trans h3)
  rw [decide_eq_true (show (j:Int)>0 from by omega)] at b;simp only [Bool.true_and,Bool.not_eq_true',Bool.or_eq_false_iff,decide_eq_false_iff_not,Bool.and_eq_false_iff] at b;refine ⟨by omega,fun hk=>?_⟩;rcases b.2 with b2 | b2
  ·simp [hk] at b2
  ·have b3:=b2.2;rw [Qei hn] at b3;simp only [Bool.not_eq_false'] at b3;exact ⟨by omega,(Qyf h1 hf).1 b3⟩
 refine ⟨h1,⟨n0,Qsr h2 h3 hr,h4,h5⟩,fun i n hn=>(key i n hn).1,fun i z hz=>?_,fun i n hn hi=>((key i n hn).2.2 hi).1,fun i n hn hk hi=>?_⟩
 ·obtain ⟨d,hd,hk,e,he,hez⟩:=Qd8 hz;have hb:=(key i d hd).2.1 e he;rw [hez] at hb;refine ⟨⟨_,Qf7 hb⟩,fun h1z=>?_⟩;have g:=(key 1 n0 (Qsr h2 h3 hr)).1;have:=(Qp4 hr).2 ⟨i,hz⟩;rw [h1z] at this;omega
 ·have:=(key i n hn).2.2 hi;have h2:=this.2 hk;exact ⟨by omega,h2.2⟩
theorem Za3 {α:Type} (w:α→Nat):∀ {l m:List α},l.Nodup→(∀ x∈l,x∈m)→(l.map w).sum≤(m.map w).sum
 | [],m,_,_=>by simp
 | x :: r,m,hn,hs=>by
  obtain ⟨a,b,rfl⟩:=List.append_of_mem (hs x (by simp));have h1:=List.nodup_cons.1 hn;have:=Za3 w (m:=a++b) h1.2 (fun y hy=>by
   have:=hs y (W11 _ hy);rcases W04.1 this with h | h
   ·exact W04.2 (.inl h)
   ·rcases W0y.1 h with rfl | h
    ·exact absurd hy h1.1
    ·exact W04.2 (.inr h))
  simp only [W1r,List.sum_append,W1t,W1s] at this ⊢;omega
theorem Qy4 {l:List Nod} (h:Qbm l):l.Nodup:=List.Pairwise.imp (fun h e=>by subst e;omega) h
theorem wF_sub {f g k:Fsy} (hk:Qbm k.l) (h:∀ i n,atF k i=some n→atF f i=some n∨atF g i=some n):wF k≤wF f+wF g:=by
 have:=Za3 wK (m:=f.l++g.l) (Qy4 hk) (fun x hx=>by
  rcases h x.ino x (Zag hk hx) with h | h
  ·exact W04.2 (.inl (Qdh h))
  ·exact W04.2 (.inr (Qdh h)))
 rw [W1r,List.sum_append] at this;exact this
theorem Qwy {f:Fsy} (h:wF f≤1000):midF f:=by rw [Zgf] at h;exact h
structure SzS (B k:Nat) (s:Sto):Prop where
 fit:Fit s (200+513*k)
 stamp:s.stamp<1152921504606846976+k
 view:wF (Qcl s s.stamp)≤B
 next:(Qcl s s.stamp).next<1152921504606846976+k
theorem SzS.up {B k:Nat} {s:Sto} (z:SzS B k s):SzS (2*B+2) (k+1) s:=by
 have h1:=z.stamp;have h2:=z.view;have h3:=z.next;have f:=z.fit;exact ⟨⟨f.ok,W09 f.l (by omega),W09 f.n (by omega),fun c hc=>W09 (f.r c hc) (by omega)⟩,by omega,by omega,by omega⟩
theorem Zfa {B k:Nat} {s:Sto} {t:Txn} (z:SzS B k s) (hp:Qcc s) (okt:OkT t) (hw:Qat t.was) (hn:Qat t.now) (hB:wF t.now≤B) (hx:t.now.next<1152921504606846976+k) (hk:k≤8):SzS (2*B+2) (k+1) (Qa6 s t).1:=by
 have hst:=z.stamp;have F:=Qvl z.fit okt hw hn (by omega) (by omega);by_cases hi:t.was=t.now
 ·rw [Qii (Qaf.2 hi)];exact z.up
 ·by_cases hc:Qkw s t
  ·rw [Qgz (Qaa.2 hi) (Qaf.2 hc)];exact z.up
  ·rw [Qf4 (Qaa.2 hi) (Qaa.2 hc)] at F ⊢;have hv:=z.view;have hx2:=z.next;have hsp:=Qov hp (Qnj t.was t.now) (Qnk hw hn) hn.2.1;refine ⟨⟨F.1.ok,W09 F.1.l (by omega),W09 F.1.n (by omega),fun c hc=>W09 (F.1.r c hc) (by omega)⟩,?_,?_,?_⟩
   ·show s.stamp+1<_;omega
   ·have:=wF_sub (f:=Qcl s s.stamp) (g:=t.now) (k:=Qcl (Qea s (Qbi t.was t.now) t.now.next) (s.stamp+1)) (Zar hsp _) (fun i n h=>by
     rw [Qyt hp hw hn] at h
     split at h
     ·exact .inl h
     ·exact .inr h)
    exact W09 this (by omega)
   ·show Qi6 (Qea s (Qbi t.was t.now) t.now.next) (s.stamp+1)<_;rw [Zco hp];unfold maxD;have hx3:Qi6 s s.stamp<1152921504606846976+k:=hx2
    split<;>omega
structure SzO (B k:Nat) (o:Udw):Prop where
 i:(I64 o.client∧I64 o.epoch∧I64 o.seq∧I64 o.n∧I64 o.until_)
 t:OkT o.t
 was:wF o.t.was≤B
 now:wF o.t.now≤B
 looks:o.t.looks.length≤300+7*k
 next:o.t.now.next<1152921504606846976+k
 names:o.last.names.length≤300
structure SzH (B k:Nat) (h:Hos):Prop where
 s:SzS B k h.s
 rw:OkRw h.rows
 rows:Good h.rows
 ol:h.opens.length≤64+k
 o:∀ o∈h.opens,SzO B k o
 now:0≤h.now∧h.now<1152921504606846976
 lease:1≤h.lease∧h.lease<1152921504606846976
theorem SzO.up {B k:Nat} {o:Udw} (z:SzO B k o):SzO (2*B+2) (k+1) o:=by
 have h1:=z.was;have h2:=z.now;have h3:=z.looks;have h4:=z.next;exact ⟨z.i,z.t,by omega,by omega,by omega,by omega,z.names⟩
theorem SzH.up {B k:Nat} {h:Hos} (z:SzH B k h):SzH (2*B+2) (k+1) h:=by
 have:=z.ol;exact ⟨z.s.up,z.rw,z.rows,by omega,fun o ho=>(z.o o ho).up,z.now,z.lease⟩
theorem sz_of {h:Hos} (ok0:OkH0 h) (g:Qzq h):SzH 200 0 h:=by
 obtain ⟨g1,g2,g3,g4,g5,g6,r1,r2,r3,r4,r5,r6,r7⟩:=g;have hv:=g1.2.2.2.1.1;refine ⟨⟨Zmu ok0.s g1.1,g1.2.2.1,by rw [Zgf];exact hv,g1.2.2.2.2.2⟩,Zcd ok0 g2,r6,by omega,fun o ho=>?_,⟨r2,g4⟩,⟨r3,g5⟩⟩;obtain ⟨i,hi⟩:=W0w ho;have q:=g6.at hi;have oo:=ok0.o o ho;exact ⟨⟨oo.client,oo.epoch,oo.seq,oo.n,oo.until_⟩,oo.t,by rw [Zgf];exact q.1.1.1,by rw [Zgf];exact q.1.2.1.1,q.1.2.2.1,q.1.2.2.2.1,q.2⟩
theorem SzH.ok0 {B k:Nat} {h:Hos} (z:SzH B k h) (hk:k≤8):OkH0 h:=by
 have h1:=z.ol;have h2:=z.rows.1;have h3:=z.now;have h4:=z.lease;refine ⟨z.s.fit.ok,by omega,fun r hr=>⟨(z.rw.2 r hr).1,by have:=(z.rows.2.2 r hr).2.2.2.1;omega,(z.rw.2 r hr).2.2⟩,by omega,fun o ho=>?_,⟨by omega,by omega⟩,⟨by omega,by omega⟩⟩;have q:=z.o o ho;have q2:=q.names;exact ⟨q.i.1,q.i.2.1,q.i.2.2.1,q.i.2.2.2.1,q.i.2.2.2.2,q.t,by omega⟩
theorem SzH.mids {B k:Nat} {h:Hos} (z:SzH B k h) (hB:B≤1000):(∀ o∈h.opens,midF o.t.was∧midF o.t.now)∧midF (Qcl h.s h.s.stamp):=
 ⟨fun o ho=>⟨Qwy (W09 (z.o o ho).was hB),Qwy (W09 (z.o o ho).now hB)⟩,Qwy (W09 z.s.view hB)⟩
theorem SzH.few {B k:Nat} {h:Hos} (z:SzH B k h) (hk:k≤8):h.s.l.length≤100000:=by have:=z.s.fit.l;omega
theorem Zhs {h:Hos} (hr:Qe4 h) {o:Udw} (ho:o∈h.opens):txnP o.t:=by
 obtain ⟨i,hi⟩:=W0w ho;exact (hr.2.2.2.1.at hi).1
theorem SzH.okh {B k:Nat} {h:Hos} (z:SzH B k h) (hr:Qe4 h) (hk:k≤8):OkH h:=by
 have h1:=z.ol;have h2:=z.rows.1;have h3:=z.now;have h4:=z.lease;have h5:=z.s.stamp;refine ⟨Zcx z.s.fit (by omega) (by omega),z.rw,by omega,fun r hr=>by have:=(z.rows.2.2 r hr).2.2.2.1;omega,by omega,fun o ho=>?_,⟨by omega,by omega⟩,⟨by omega,by omega⟩⟩;have q:=z.o o ho;have q1:=q.looks;have q2:=q.next;have q3:=Zhs hr ho;exact ⟨q.i.1,q.i.2.1,q.i.2.2.1,q.i.2.2.2.1,q.i.2.2.2.2,q.t,by omega,q3.2.1.1,q3.2.2.1.1,by omega⟩
theorem Qrl {rs:List TRow} {n:Int} {r:TRow} (h:Qbk rs n=some r):r∈rs:=(Qco h).2
theorem Zng {rs:List TRow} (ok:OkRw rs) {n ep:Int} (hn:I64 n) (he:I64 ep):OkTr (Qc6 rs n ep):=by
 have z:OkTr ⟨n,ep,0,[]⟩:=⟨⟨hn,he,⟨by show -9223372036854775808≤(0:Int);decide,by show (0:Int)≤9223372036854775807;decide⟩⟩,W0j _,fun d hd=>by cases hd⟩
 unfold Qc6;cases h:Qbk rs n with
 | none=>exact z
 | some r=>
  dsimp only
  split
  ·exact ok.2 r (Qrl h)
  ·exact z
theorem Zaw {rs:List TRow} {x:TRow} (ok:OkRw rs) (hg:Good (Qbz rs x)) (hx:(I64 x.client∧I64 x.epoch∧I64 x.done)∧∀ d∈x.l,I64 d.1):OkRw (Qbz rs x):=by
 refine ⟨by have:=hg.1;omega,fun r hr=>?_⟩;rcases Qk6 rs x r hr with rfl | h
 ·exact ⟨hx.1,by have:=(hg.2.2 r hr).2.2.2.1;omega,hx.2⟩
 ·exact ok.2 r h
theorem Zi8 {rs:List TRow} {n ep sq:Int} {y:Bool} (ok:OkRw rs) (g:Good rs) (hn:I64 n) (he:I64 ep) (hs:I64 sq):OkRw (Qa0 rs n ep sq y).1∧Good (Qa0 rs n ep sq y).1:=by
 rcases Qif rs n ep sq y g with ⟨_,h2⟩ | ⟨_,h2⟩ | ⟨_,h2,h3⟩
 ·rw [h2];exact ⟨ok,g⟩
 ·rw [h2];exact ⟨ok,g⟩
 ·rw [h2];have b:=Zng ok hn he;exact ⟨Zaw ok h3 ⟨b.1,fun d hd=>by
   rcases Qk7 _ _ _ _ hd with rfl | hd
   ·exact hs
   ·exact b.2.2 d hd⟩,h3⟩
theorem Zie {rs:List TRow} {n ep dn:Int} (ok:OkRw rs) (g:Good rs) (hd:I64 dn):OkRw (Qbg rs n ep dn).1∧Good (Qbg rs n ep dn).1:=by
 rcases Qfz rs n ep dn g with ⟨h1,_⟩ | ⟨r,h1,h2,h3,h4,h5,h6,h7⟩
 ·rw [h1];exact ⟨ok,g⟩
 ·rw [h6];have b:=ok.2 r (Qrl h1);refine ⟨Zaw ok h7 ⟨⟨b.1.1,b.1.2.1,?_⟩,fun d hd=>b.2.2 d (W1l.1 hd).1⟩,h7⟩;have b2:=b.1.2.2;unfold I64 at b2 hd ⊢;show _≤max r.done dn∧max r.done dn≤_;omega
theorem Zhb {h:Hos} {n:Int} {l:List Udw}:(∀ o∈(Qa3 h n l).opens,o∈h.opens∨o∈l)∧(Qa3 h n l).opens.length≤h.opens.length+l.length:=by
 constructor
 ·intro o ho;rcases W04.1 ho with ho | ho
  ·rcases W04.1 ho with ho | ho
   ·exact .inl (W13 ho)
   ·exact .inr ho
  ·exact .inl (W2d ho)
 ·show (h.opens.take (plO h.opens n)++l++h.opens.drop _).length≤_;have:=Qgl h.opens n;simp only [W0e,W0g,W0p];omega
theorem Qt5 {B k:Nat} {h:Hos} {n:Int} {l:List Udw} (z:SzH B k h) (hl:l.length≤1) (ho:∀ o∈l,SzO (2*B+2) (k+1) o):SzH (2*B+2) (k+1) (Qa3 h n l):=by
 have hm:=Zhb (h:=h) (n:=n) (l:=l);have:=z.ol;exact ⟨z.s.up,z.rw,z.rows,by have:=hm.2;omega,fun o h1=>by
  rcases hm.1 o h1 with h2 | h2
  ·exact (z.o o h2).up
  ·exact ho o h2,z.now,z.lease⟩
theorem off_sz {B k:Nat} {h:Hos} {m:Msg} (z:SzH B k h):SzH (2*B+2) (k+1) (offH h m):=by
 unfold offH
 split
 ·exact Qt5 z (by decide) (fun o ho=>by cases ho)
 ·exact z.up
theorem Qxu {B k:Nat} {h:Hos} {m:Msg} {s:Sto} {y old:Bool} (z:SzH B k h) (zs:SzS (2*B+2) (k+1) s) (okm:OkM m):SzH (2*B+2) (k+1) (decH h m s y old).1:=by
 unfold decH
 split
 ·exact z.up
 ·have zo:=off_sz (m:=m) z;have hr:=Zi8 (y:=y) z.rw z.rows okm.client okm.epoch okm.seq;exact ⟨zs,hr.1,hr.2,zo.ol,zo.o,z.now,z.lease⟩
theorem Zjj {B k:Nat} {h:Hos} {m:Msg} (z:SzH B k h) (okm:OkM m):SzH (2*B+2) (k+1) (Qbo h m).1:=by
 unfold Qbo
 split
 ·exact z.up
 ·split
  ·exact z.up
  ·split
   ·exact z.up
   ·refine Qt5 z (W0m 1) (fun o ho=>?_);obtain rfl:=W0z.1 ho;have h1:=z.now;have h2:=z.lease;have h3:=z.s.view;have h4:=z.s.next;have hu:I64 (h.now+h.lease):=⟨by omega,by omega⟩
    exact ⟨⟨okm.client,okm.epoch,okm.seq,⟨by show -9223372036854775808≤(0:Int);decide,by show (0:Int)≤9223372036854775807;decide⟩,hu⟩,Qx3 z.s.fit.ok,by show wF (Qcl h.s h.s.stamp)≤_;omega,by show wF (Qcl h.s h.s.stamp)≤_;omega,W0j _,by show (Qcl h.s h.s.stamp).next<_;omega,W0j _⟩
theorem Znb {B k:Nat} {h:Hos} {m:Msg} (z:SzH B k h) (hr:Qe4 h) (hB:B≤1000) (hk:k≤8) (okm:OkM m):SzH (2*B+2) (k+1) (Qcv h m).1:=by
 unfold Qcv
 split
 ·exact z.up
 ·rename_i hu
  split
  ·exact z.up
  ·split
   ·exact z.up
   ·split
    ·exact z.up
    ·refine Qt5 z (W0m 1) (fun o ho=>?_);obtain rfl:=W0z.1 ho;have um:=Qet (h:=h) (m:=m) (by cases hc:(Qad h m).2 with | true=>rfl | false=>exact absurd hc hu);have hm:(Qad h m).1∈h.opens:=by rw [um.1];exact um.2.1
     have q:=z.o _ hm;have q1:=q.looks;have q2:=q.next;have q3:=q.was;have q4:=q.now;have T:=Qrn (Qwy (by omega)) (Zhs hr hm).2.2.1;have K:=Zmh (c:=m.c) q.t.now okm.c T (by omega);have h1:=z.now;have h2:=z.lease;have hu:I64 (h.now+h.lease):=⟨by omega,by omega⟩
     have K1:=K.few;have K2:=K.next.2;exact ⟨⟨q.i.1,q.i.2.1,q.i.2.2.1,okm.n,hu⟩,Zk7 q.t (by omega) K,by show wF (Qad h m).1.t.was≤_;omega,by show wF (doF (Qad h m).1.t.now m.c).1≤_;omega,by have:=Ql0 (Qad h m).1.t m.c;show (Qdw (Qad h m).1.t m.c).looks.length≤_;omega,by show (doF (Qad h m).1.t.now m.c).1.next<_;omega,W09 (Qxr T.rows) (by decide)⟩
theorem Qz4 {B k:Nat} {h:Hos} {m:Msg} (z:SzH B k h) (hr:Qe4 h) (hk:k≤8) (okm:OkM m):SzH (2*B+2) (k+1) (Qb2 h m).1:=by
 unfold Qb2
 split
 ·exact Qxu z z.s.up okm
 ·rename_i hu;have um:=Qet (h:=h) (m:=m) (by cases hc:(Qad h m).2 with | true=>rfl | false=>exact absurd (.inl hc) hu);have hm:(Qad h m).1∈h.opens:=by rw [um.1];exact um.2.1
  have q:=z.o _ hm;have q3:=Zhs hr hm;exact Qxu z (Zfa z.s hr.2.2.2.2.1 q.t q3.2.1.1 q3.2.2.1.1 q.now q.next hk) okm
theorem Zkz {B k:Nat} {h:Hos} {m:Msg} (z:SzH B k h) (hr:Qe4 h) (hB:B≤1000) (hk:k≤8) (okm:OkM m):SzH (2*B+2) (k+1) (ansH h m).1:=by
 unfold ansH
 split
 ·have u:=z.up;have r:=Zie (n:=m.client) (ep:=m.epoch) z.rw z.rows okm.seq;exact ⟨u.s,r.1,r.2,u.ol,u.o,u.now,u.lease⟩
 ·split
  ·unfold Qid
   split
   ·exact Zjj z okm
   ·split
    ·exact Znb z hr hB hk okm
    ·split
     ·exact Qz4 z hr hk okm
     ·split
      ·exact Qxu z z.s.up okm
      ·show SzH _ _ (askH h m).1;unfold askH
       split
       ·exact z.up
       ·exact Qxu z z.s.up okm
  ·split
   ·exact z.up
   ·split
    ·exact z.up
    ·exact z.up
theorem Qry:∀ (ns:List Int) (n:Int),Qaz (fun _ c=>c<n) ns (Qax ns n).1
 | [],n=>fun i c h1 h2=>by cases h2
 | m :: r,n=>by
  rw [Qax]
  split
  ·exact Qaz.zero _ _
  ·intro i c h1 h2;cases i with
   | zero=>obtain rfl:=W0c h2;omega
   | succ i=>exact Qry r n i c (Nat.lt_of_succ_lt_succ h1) h2
theorem Qrx:∀ (ns:List Int) (n:Int),(Qax ns n).2=true→ns[(Qax ns n).1]?=some n
 | [],n,h=>by cases h
 | m :: r,n,h=>by
  rw [Qax] at h ⊢
  split at h
  ·rename_i g;rw [W1x g];have:m=n:=by simpa using h
   rw [this];rfl
  ·rename_i g;rw [W1w g];exact Qrx r n h
theorem Quy {h:Hos} {n:Int} (q:(Qbn h n).2=true):(Qbn h n).1.client=n:=by
 cases ht:thO h.opens n with
 | false=>rw [Qqb ht] at q;cases q
 | true=>
  obtain ⟨x,hx⟩:=Qdk (Qgk ht);rw [Qje ht hx];have:=Qrx _ _ (show (Qax (h.opens.map fun x=>x.client) n).2=true from ht);rw [W0v,show h.opens[(Qax (h.opens.map fun x=>x.client) n).1]?=some x from hx] at this;exact W0c this
theorem Zij {h:Hos} {o:Udw} {n:Int} (ho:o.client=n):Qbn (Qa3 h n [o]) n=(o,true):=by
 have hl:=Qgl h.opens n;have hx:(Qa3 h n [o]).opens[plO h.opens n]?=some o:=by
  show (h.opens.take (plO h.opens n)++[o]++h.opens.drop _)[plO h.opens n]?=_;rw [W1u,W0n (by rw [W0g];omega),W0g,Nat.min_eq_left hl,Nat.sub_self];rfl
 have hp:Qax ((Qa3 h n [o]).opens.map fun x=>x.client) n=(plO h.opens n,o.client==n):=by
  refine Qhm (fun i c h1 h2=>?_) (by rw [W0v,hx];rfl) (by omega);rw [W0v] at h2;have h3:(Qa3 h n [o]).opens[i]?=h.opens[i]?:=by
   show (h.opens.take (plO h.opens n)++[o]++h.opens.drop _)[i]?=_;rw [W1u,W0o (by rw [W0g];omega),W1b,W1x h1]
  rw [h3,← W0v] at h2;exact Qry _ n i c h1 h2
 refine Qje ?_ ?_
 ·show (Qax ((Qa3 h n [o]).opens.map fun x=>x.client) n).2=true;rw [hp];simpa using ho
 ·show (Qa3 h n [o]).opens[(Qax ((Qa3 h n [o]).opens.map fun x=>x.client) n).1]?=some o;rw [hp];exact hx
theorem Qrd {h:Hos} {m:Msg} {o:Udw} (h1:o.client=m.client) (h2:o.epoch=m.epoch) (h3:o.seq=m.seq):Qad (Qa3 h m.client [o]) m=(o,true):=by
 unfold Qad;rw [Zij h1,W1x ⟨rfl,h2,h3⟩]
theorem Qf8 {h:Hos} {m:Msg} (hq:(askF h.rows m.client m.epoch m.seq).2=6) (h1:1≤m.kind) (h5:m.kind≤5):ansH h m=Qid h m:=(W1w (by omega)).trans (W1x ⟨hq,h1,h5⟩)
theorem Zjt {h:Hos} {m:Msg} {y:Bool} (hq:askF h.rows m.client m.epoch m.seq=(y,0)) (h1:1≤m.kind) (h5:m.kind≤5):ansH h m=(h,rp0,Qcw m.kind y):=by
 unfold ansH;rw [W1w (by omega),hq,W1w (fun c=>absurd c.1 (by show ¬ (0:Int)=6;decide)),W1w (fun c=>c.1 rfl),W1w (fun c=>c ⟨h1,h5⟩)]
def Zaj (h:Hos) (m:Msg):Prop:=ansH (ansH h m).1 m=((ansH h m).1,(ansH h m).2)∨(m.kind=3∧(ansH h m).2.2=16∧ansH (ansH h m).1 m=((ansH h m).1,rp0,15))
theorem Qck {h:Hos} {m:Msg} (hh:(ansH h m).1=h):Zaj h m:=.inl (by rw [hh];exact Prod.ext hh rfl)
theorem Qls {h a:Hos} {m:Msg} {r:Rep} {e:Int} (h1:ansH h m=(a,r,e)) (h2:ansH a m=(a,r,e)):Zaj h m:=.inl (by rw [h1];exact h2)
theorem Qv0 {h:Hos} {m:Msg} (hq:(askF h.rows m.client m.epoch m.seq).2=6) (hk:m.kind=1):Zaj h m:=by
 have e:∀ a:Hos,a.rows=h.rows→ansH a m=Qbo a m:=fun a ha=>by rw [Qf8 (by rw [ha];exact hq) (by omega) (by omega),Zkr hk]
 have e0:=e h rfl;by_cases c1:(Qad h m).2=true
 ·exact Qck (by rw [e0,show Qbo h m=_ from W1x c1])
 ·by_cases c2:(Qbn h m.client).2=true∧(Qbn h m.client).1.epoch≥m.epoch∧¬ (Qbn h m.client).1.until_<h.now
  ·exact Qck (by rw [e0,show Qbo h m=_ from (W1w c1).trans (W1x c2)])
  ·by_cases c3:(Qbn h m.client).2=false∧h.opens.length≥64
   ·exact Qck (by rw [e0,show Qbo h m=_ from (W1w c1).trans ((W1w c2).trans (W1x c3))])
   ·have h1:ansH h m=(Qa3 h m.client [Qbp h m],repS h.s.stamp,0):=by rw [e0,show Qbo h m=_ from (W1w c1).trans ((W1w c2).trans (W1w c3))]
    have hu:=Qrd (h:=h) (m:=m) (o:=Qbp h m) rfl rfl rfl;refine Qls h1 ?_;rw [e (Qa3 h m.client [Qbp h m]) rfl,show Qbo (Qa3 h m.client [Qbp h m]) m=_ from W1x (by rw [hu]),hu];rfl
theorem Zah {h:Hos} {m:Msg} (hl:1≤h.lease) (hq:(askF h.rows m.client m.epoch m.seq).2=6) (hk:m.kind=2):Zaj h m:=by
 have e:∀ a:Hos,a.rows=h.rows→ansH a m=Qcv a m:=fun a ha=>by rw [Qf8 (by rw [ha];exact hq) (by omega) (by omega),Zeh hk]
 have e0:=e h rfl;by_cases c1:(Qad h m).2=false
 ·exact Qck (by rw [e0,show Qcv h m=_ from W1x c1])
 ·by_cases c2:Qcb h (Qad h m).1 m=true
  ·exact Qck (by rw [e0,show Qcv h m=_ from (W1w c1).trans (W1x c2)])
  ·by_cases c3:m.n=(Qad h m).1.n
   ·exact Qck (by rw [e0,show Qcv h m=_ from (W1w c1).trans ((W1w c2).trans (W1x c3))])
   ·by_cases c4:¬ m.n=wr1 (Qad h m).1.n
    ·exact Qck (by rw [e0,show Qcv h m=_ from (W1w c1).trans ((W1w c2).trans ((W1w c3).trans (W1x c4)))])
    ·have h1:ansH h m=(Qa3 h m.client [Qdn h m],(doF (Qad h m).1.t.now m.c).2,0):=by rw [e0,show Qcv h m=_ from (W1w c1).trans ((W1w c2).trans ((W1w c3).trans (W1w c4)))]
     have hu1:(Qad h m).2=true:=by cases hc:(Qad h m).2 with | true=>rfl | false=>exact absurd hc c1
     have um:=Qet hu1;have hf:(Qbn h m.client).2=true:=by
      cases hc:(Qbn h m.client).2 with
      | true=>rfl
      | false=>unfold Qad at hu1;rw [W1w (fun c=>by rw [hc] at c;exact absurd c.1 (by decide))] at hu1;cases hu1
     have hu:=Qrd (h:=h) (m:=m) (o:=Qdn h m) (by show (Qad h m).1.client=_;rw [um.1];exact Quy hf) (by show (Qad h m).1.epoch=_;rw [um.1];exact um.2.2.1) (by show (Qad h m).1.seq=_;rw [um.1];exact um.2.2.2);have hs:(Qad h m).1.t.stamp=m.stamp:=by
      have:=c2;unfold Qcb at this;simp only [W15,W0r,W2m,bne_iff_ne,ne_eq,not_or,not_and] at this;have:=this.2 (.inl hk);omega
     have hlate:Qcb (Qa3 h m.client [Qdn h m]) (Qdn h m) m=false:=by
      unfold Qcb;rw [decide_eq_false (show ¬ (Qdn h m).until_<(Qa3 h m.client [Qdn h m]).now from by show ¬ h.now+h.lease<h.now;omega),show ((Qdn h m).t.stamp != m.stamp)=false from by show ((Qad h m).1.t.stamp != m.stamp)=false;rw [hs];simp];simp
     refine Qls h1 ?_;rw [e (Qa3 h m.client [Qdn h m]) rfl,show Qcv (Qa3 h m.client [Qdn h m]) m=_ from (W1w (by rw [hu];intro c;cases c)).trans ((W1w (fun c=>by rw [hu] at c;exact absurd (hlate.symm.trans c) (by decide))).trans (W1x (by rw [hu];rfl))),hu];rfl
theorem Qjq {h:Hos} {m:Msg} {s:Sto} {y old:Bool} (g:Good h.rows) (hq:(askF h.rows m.client m.epoch m.seq).2=6) (h3:3≤m.kind) (h5:m.kind≤5) (hold:old=true→m.kind=3)
  (e0:ansH h m=((decH h m s y old).1,rp0,(decH h m s y old).2)):Zaj h m:=by
 by_cases c:(Qa0 h.rows m.client m.epoch m.seq y).2.2=0
 ·have hd:=Qig (s:=s) (old:=old) c;have hy:=Zht h.rows m.client m.epoch m.seq y g c;have hyy:(Qa0 h.rows m.client m.epoch m.seq y).2.1=y:=by
   rcases Qif h.rows m.client m.epoch m.seq y g with ⟨h1,_⟩ | ⟨_,h2⟩ | ⟨_,h2,_⟩
   ·exact absurd hq h1
   ·rw [h2] at c;exact absurd (show (12:Int)=0 from c) (by decide)
   ·rw [h2]
  rw [hyy] at hy;have ht:=Zjt (h:=(decH h m s y old).1) (m:=m) (y:=y) (by rw [hd];exact hy.2) (by omega) h5;have e2:(decH h m s y old).2=if y=true then 0 else if old=true then 16 else 15:=by rw [hd]
  have hk:Qcw m.kind y=if y=true then 0 else 15:=W1w (by omega)
  by_cases c2:y=false∧old=true
  ·refine .inr ⟨hold c2.2,?_,?_⟩
   ·rw [e0];show (decH h m s y old).2=16;rw [e2,c2.1,c2.2];rfl
   ·rw [e0];show ansH (decH h m s y old).1 m=((decH h m s y old).1,rp0,15);rw [ht,hk,c2.1];rfl
  ·refine Qls e0 ?_;rw [ht,hk,e2];cases y<;>cases old<;>first | rfl | exact absurd ⟨rfl,rfl⟩ c2
 ·exact Qck (by rw [e0,Ze4 c])
theorem Zf7 {h:Hos} {m:Msg} (g:Good h.rows) (hl:1≤h.lease):Zaj h m:=by
 by_cases k6:m.kind=6
 ·have e:∀ a:Hos,ansH a m=(⟨a.s,(Qbg a.rows m.client m.epoch m.seq).1,a.opens,a.now,a.lease⟩,rp0,(Qbg a.rows m.client m.epoch m.seq).2):=fun a=>W1x k6;by_cases c:(Qbg h.rows m.client m.epoch m.seq).2=0
  ·refine Qls (e h) ?_;rw [e];dsimp only;rw [Qso _ _ _ _ g c,c]
  ·exact Qck (by rw [e h,Qzs _ _ _ _ g c])
 ·by_cases hq:(askF h.rows m.client m.epoch m.seq).2=6∧1≤m.kind∧m.kind≤5
  ·obtain ⟨q,k1,k5⟩:=hq;rcases (show m.kind=1∨m.kind=2∨m.kind=3∨m.kind=4∨m.kind=5 from by omega) with hk | hk | hk | hk | hk
   ·exact Qv0 q hk
   ·exact Zah hl q hk
   ·have e0:=(Qf8 q k1 k5).trans (Zeg hk);by_cases c:(Qad h m).2=false∨oldH h m=true∨¬ (Qad h m).1.n=m.n
    ·rw [show Qb2 h m=_ from W1x c] at e0;exact Qjq g q (by omega) k5 (fun _=>hk) e0
    ·rw [show Qb2 h m=_ from W1w c] at e0;exact Qjq g q (by omega) k5 (fun _=>hk) e0
   ·exact Qjq g q (by omega) k5 (fun c=>absurd c (by decide)) ((Qf8 q k1 k5).trans (Zkq hk))
   ·have e0:=(Qf8 q k1 k5).trans (Zkp hk);by_cases c:(Qad h m).2=true∧Qcb h (Qad h m).1 m=false
    ·exact Qck (by rw [e0,show askH h m=_ from W1x c])
    ·rw [show askH h m=_ from W1w c] at e0;exact Qjq g q (by omega) k5 (fun c=>absurd c (by decide)) e0
  ·refine Qck ?_;unfold ansH;rw [W1w k6,W1w hq]
   split
   ·rfl
   ·split<;>rfl
theorem rsp_of {h k:Hos} {m:Msg} (e:(ansH h m).2=(ansH k m).2):rspH h m=rspH k m:=by unfold rspH;rw [e]
theorem Zbn {h:Hos} {m:Msg} (e:¬ (ansH h m).2.2=0):(rspH h m).r.e=(ansH h m).2.2:=by unfold rspH;rw [W1w e]
theorem Zav {h:Hos} {m:Msg} (g:Good h.rows) (hl:1≤h.lease):(ansH (ansH h m).1 m).1=(ansH h m).1∧(rspH (ansH h m).1 m=rspH h m∨((rspH h m).r.e=16∧m.kind=3∧(rspH (ansH h m).1 m).r.e=15)):=by
 rcases Zf7 (m:=m) g hl with h1 | ⟨h1,h2,h3⟩
 ·exact ⟨by rw [h1],.inl (rsp_of (by rw [h1]))⟩
 ·exact ⟨by rw [h3],.inr ⟨by rw [Zbn (by omega)];exact h2,h1,by rw [Zbn (by rw [h3];show ¬ (15:Int)=0;decide),h3]⟩⟩
end Go.Proofs.YtkhodpknpligpaaGreat
