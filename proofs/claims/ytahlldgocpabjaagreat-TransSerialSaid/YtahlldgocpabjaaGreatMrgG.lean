import Derived.Test.YtahlldgocpabjaaGreatAl
import Derived.Test.YtahlldgocpabjaaGreatVc
import Derived.Test.YtahlldgocpabjaaGreatMrgA
import Derived.Lib.AppendZerosOnto
set_option linter.unusedVariables false
set_option linter.unusedSimpArgs false
namespace Go.Proofs.YtahlldgocpabjaaGreat
open Go Go.RowKit Copyhold
def rowR (q:Nat) (s:LS):Option (Value × TypeId × Nat × List (List AV)):=
 match bget s.bx q with
 | some (.row V e k xs)=>some (V,e,k,xs)
 | _=>none
theorem Zea {q:Nat} {s:LS} {V:Value} {e:TypeId} {k:Nat} {xs:List (List AV)} (h:rowR q s=some (V,e,k,xs)):bget s.bx q=some (.row V e k xs):=by
 unfold rowR at h
 split at h
 ·rename_i V' e' k' xs' hb;simp only [W0k,W0s] at h;obtain ⟨rfl,rfl,rfl,rfl⟩:=h;exact hb
 ·cases h
theorem Qcd {P:Program} {V:Value} {e:TypeId} {k:Nat} {xs:List (List AV)} (q:Nat) (h0:0<xs.length) :
  ∀ (c:Cx) (Q:Exit→FS→Prop) (code:Code) (s:LS),rowR q s=some (V,e,k,xs)→(∀ a:{ p:Nat × Nat // V=.slice (some ⟨p.1,0,none⟩) xs.length p.2∧xs.length≤p.2 },AWp c P code Q s.fs)→AWp c P code Q s.fs:=by
 intro c Q code s h kk a w hr;obtain ⟨hc,D,hR⟩:=id hr;obtain ⟨hk,us,hown,_⟩:=(hR.bx q _ (Zea h)).2;rcases hown.2 with ⟨_,h0'⟩ | ⟨g,cap,cur,he,_,_,hnc,_⟩
 ·omega
 ·exact kk ⟨(g,cap),he,hnc⟩ a w hr
def ixR (P:Program) (ops:Array Oper) (s:LS) (i:Nat):Option (Nat × Value × Nat × Nat × Int × Option Tmp):=
 match opAt ops s i with
 | some o=>
  match o.op with
  | .indexAddr t x n=>
   match Ql2 P t,s.ev x,s.ev n with
   | some e,.rw q V m0,.val (.int .i64 m)=>
    match szP P e with
    | some k=>some (q,V,m0,k,m,o.dst)
    | none=>none
   | _,_,_=>none
  | _=>none
 | none=>none
theorem Qfy {P:Program} {q b n cap m0 k:Nat} {V:Value} {m:Int} {d:Option Tmp} (j:Nat) (hV:V=.slice (some ⟨b,0,none⟩) n cap) (hm:m=(j:Int)) (hj:j<n) :
  ∀ (ops:Array Oper) (i:Nat) (s:LS) (K:FS→Prop) (rest:List Nat),ixR P ops s i=some (q,V,m0,k,m,d)→(∀ a:Unit,SeqR P ops K rest (s.put d (.ep q V k j 0)).fs)→SeqR P ops K (i :: rest) s.fs:=by
 intro ops i s K rest h kk;unfold ixR at h
 split at h
 ·rename_i o ho;obtain ⟨hi,hg⟩:=Qb2 ho
  split at h
  ·rename_i t x n' hop
   split at h
   ·rename_i e q' V' m0' m' hel hx hn
    split at h
    ·rename_i k' hk';simp only [W0k,W0s] at h;obtain ⟨rfl,rfl,rfl,rfl,rfl,rfl⟩:=h;subst hV hm;refine ⟨o,hi,.inr ⟨hg,.inl ⟨_,.inl fun D w ρ hops=>?_,by rw [LS.fs_put];exact kk ()⟩⟩⟩;have hvx:=Qa8 hops x (by simp [hop,Op.operands]);have hvn:=Qa8 hops n' (by simp [hop,Op.operands]);rw [hx] at hvx;rw [hn] at hvn;generalize hxv:ρ x=vx at hvx;generalize hnv:ρ n'=vn at hvn;cases hvn;cases hvx;refine ⟨.pointer (some ⟨b,j*k'+0,none⟩),?_,.ep ..⟩;have h0:(0:Int)≤j∧(j:Int)<n:=by omega
     simp [execOp,hop,hxv,hnv,Instr.indexAt,asIntOf,run_underlying (Qih hel),Qdb hk',h0,hj,Qbv]
    ·cases h
   ·cases h
  ·cases h
 ·cases h
def fdR (P:Program) (ops:Array Oper) (s:LS) (i:Nat):Option (Nat × Value × Nat × Nat × Nat × Nat × Option Tmp):=
 match opAt ops s i with
 | some o=>
  match o.op with
  | .fieldAddr st x f=>
   match fldP P st f,s.ev x with
   | some (fo,_),.ep q V k j off=>some (q,V,k,j,off,fo,o.dst)
   | _,_=>none
  | _=>none
 | none=>none
theorem Qix {P:Program} {q k j off fo:Nat} {V:Value} {d:Option Tmp} :
  ∀ (ops:Array Oper) (i:Nat) (s:LS) (K:FS→Prop) (rest:List Nat),fdR P ops s i=some (q,V,k,j,off,fo,d)→(∀ a:Unit,SeqR P ops K rest (s.put d (.ep q V k j (off+fo))).fs)→SeqR P ops K (i :: rest) s.fs:=by
 intro ops i s K rest h kk;unfold fdR at h
 split at h
 ·rename_i o ho;obtain ⟨hi,hg⟩:=Qb2 ho
  split at h
  ·rename_i st y f hop
   split at h
   ·rename_i fo' ty q' V' k' j' off' hf hy;simp only [W0k,W0s] at h;obtain ⟨rfl,rfl,rfl,rfl,rfl,rfl,rfl⟩:=h;refine ⟨o,hi,.inr ⟨hg,.inl ⟨_,.inl fun D w ρ hops=>?_,by rw [LS.fs_put];exact kk ()⟩⟩⟩;have hv:=Qa8 hops y (by simp [hop,Op.operands]);rw [hy] at hv;unfold fldP at hf
    split at hf
    ·rename_i fs hu
     split at hf
     ·rename_i fd hfd
      split at hf
      ·rename_i n hn;have hoff:fd.offset=fo':=(Prod.mk.inj (W0c hf)).1;subst hoff;have hrun:∀ b o,(Instr.fieldAt st (.pointer (some ⟨b,o,none⟩)) f).run P w=.ok (.pointer (some ⟨b,o+fd.offset,none⟩)) w:=fun b o=>by
        simp [Instr.fieldAt,run_underlying hu,hfd,Instr.sureAddr,fieldPlace,Qdb hn,Qbv]
       generalize hvv:ρ y=v at hv;cases hv;refine ⟨_,?_,.ep _ _ _ _ _ _ _⟩;simp [execOp,hop,hvv,hrun,Nat.add_assoc]
      ·cases hf
     ·cases hf
    ·cases hf
   ·cases h
  ·cases h
 ·cases h
theorem Zd8 {D:Nat→Prop} {w:World} {b n cap:Nat} {e:TypeId} {k:Nat} {xs:List (List AV)} (h:BoxR D w (.row (.slice (some ⟨b,0,none⟩) n cap) e k xs)) {j:Nat} {cs:List AV} (he:xs[j]?=some cs):Qgc D w b (j*k) cs:=by
 obtain ⟨hk,us,hown,hus,hru⟩:=h;intro p x hx;have hf:=Qsc hk j cs p x he hx;have hl:j*k+p<us.length:=by rw [hown.1,← Qhh hk];exact (W0i.1 hf).1
 have hu:=W0d hl;rcases hown.2 with ⟨hV,_⟩ | ⟨g,cap',cur,hV,_⟩
 ·cases hV
 ·have hb:=hown.cells (g:=b) rfl _ _ hu;rw [Qbv,Nat.zero_add] at hb;exact ⟨_,hb,hus _ (W0h hu),hru _ x _ hf hu⟩
def ldR (P:Program) (ops:Array Oper) (s:LS) (i:Nat):Option (Value × Nat × Nat × Nat × Value × Nat × List (List AV) × TypeId × Option Tmp):=
 match opAt ops s i with
 | some o=>
  match o.op with
  | .load t a=>
   match s.ev a with
   | .ep q V k j off=>
    match bget s.bx q with
    | some (.row V' e k' xs)=>some (V,k,j,off,V',k',xs,t,o.dst)
    | _=>none
   | _=>none
  | _=>none
 | none=>none
theorem Qq5 {P:Program} {k j off:Nat} {V:Value} {xs:List (List AV)} {t:TypeId} {d:Option Tmp} (ec:List AV) {x:AV} (he:xs[j]?=some ec) (hx:Qpi P t (ec.drop off)=some x) :
  ∀ (ops:Array Oper) (i:Nat) (s:LS) (K:FS→Prop) (rest:List Nat),ldR P ops s i=some (V,k,j,off,V,k,xs,t,d)→(∀ a:Unit,SeqR P ops K rest (s.put d x).fs)→SeqR P ops K (i :: rest) s.fs:=by
 intro ops i s K rest h kk;unfold ldR at h
 split at h
 ·rename_i o ho;obtain ⟨hi,hg⟩:=Qb2 ho
  split at h
  ·rename_i t' a hop
   split at h
   ·rename_i q V' k' j' off' ha
    split at h
    ·rename_i V2 e k2 xs' hb;simp only [W0k,W0s] at h;obtain ⟨rfl,rfl,rfl,rfl,rfl,rfl,rfl,rfl,rfl⟩:=h;refine ⟨o,hi,.inr ⟨hg,.inl ⟨x,.inr ⟨by rw [hop];rfl,fun D w ρ hops hbx=>?_⟩,by rw [LS.fs_put];exact kk ()⟩⟩⟩;have hv:=Qa8 hops a (by simp [hop,Op.operands]);rw [ha] at hv;generalize hvv:ρ a=v at hv;have hbq:=hbx q _ hb;cases hv with
     | ep id b n cap k i off=>
      have hc:=(Zd8 hbq he).drop off';obtain ⟨v,h1,h2⟩:=Qob (P:=P) hc hx;exact ⟨v,by simp [execOp,hop,hvv,Instr.loadAt,Instr.sureAddr,h1],h2⟩
    ·cases h
   ·cases h
  ·cases h
 ·cases h
theorem Qlc {P:Program} {ops:Array Oper} {s:LS} {i:Nat} {f:FuncId} {args:List AV} {d:Option Tmp} (h:Qms ops s i=some (f,args,d)) :
  ∃ o,ops[i]?=some o∧gd ops s.fs o=some true∧isRd P o.op=false∧o.dst=d∧∀ (D:Nat→Prop) (w:World) (ρ:Operand→Value),opsR D w s.fs ρ o→∃ vs,(execOp ρ o).run P w=(callFunc f vs).run P w∧Qdj D w args vs:=by
 unfold Qms at h
 split at h
 ·rename_i o ho;obtain ⟨hi,hg⟩:=Qb2 ho
  split at h
  ·rename_i c hop
   split at h
   ·rename_i fo hc;have hrd:isRd P o.op=false:=by
     obtain ⟨callee,cargs,cts⟩:=c;simp only at hc;subst hc;rw [hop];rfl
    split at h
    ·rename_i g' hfv;simp only [W0k,W0s] at h;obtain ⟨rfl,rfl,hd⟩:=h;refine ⟨o,hi,hg,hrd,hd,fun D w ρ hops=>⟨c.args.map ρ,?_,Ql8 hop hops⟩⟩;have hvf:=Qa8 hops fo (by simp [hop,Op.operands,Call.operands,hc]);rw [hfv] at hvf;generalize hfv':ρ fo=vf at hvf;cases hvf;simp [execOp,hop,resolve,hc,hfv',Deferred.ofValue,invoke]
    ·rename_i g' caps hfv;simp only [W0k,W0s] at h;obtain ⟨rfl,rfl,hd⟩:=h;refine ⟨o,hi,hg,hrd,hd,fun D w ρ hops=>?_⟩;have hvf:=Qa8 hops fo (by simp [hop,Op.operands,Call.operands,hc]);rw [hfv] at hvf;generalize hfv':ρ fo=vf at hvf;cases hvf with
     | clo g caps vs h1 h2=>
      obtain ⟨a1,a2⟩:=Ql8 hop hops;refine ⟨c.args.map ρ++vs,by simp [execOp,hop,resolve,hc,hfv',Deferred.ofValue,invoke],by simp;omega,fun j x v hx hv=>?_⟩;by_cases hj:j<(c.args.map ρ).size
      ·rw [W2c hj] at hv;rw [W0o (by omega)] at hx;exact a2 j x v hx hv
      ·rw [Array.getElem?_append_right (by omega)] at hv;rw [W0n (by omega),a1] at hx;exact h2 _ x v hx hv
    ·cases h
   ·cases h
  ·cases h
 ·cases h
def Qy2:AV→Bool
 | .val _=>true
 | .tup l=>l.all fun x=>match x with | .val _=>true | _=>false
 | _=>false
theorem Zjl {D D':Nat→Prop} {w w':World} {x:AV} {v:Value} (hp:Qy2 x=true) (h:Ra D w x v):Ra D' w' x v:=by
 cases h with
 | val v=>exact .val v
 | tup l vs h1 h2=>
  refine .tup l vs h1 fun j x v hx hv=>?_;simp only [Qy2,W10] at hp;have h3:=hp x (W0h hx);have h4:=h2 j x v hx hv;cases h4 with
  | val v=>exact .val v
  | _=>simp at h3
 | _=>simp [Qy2] at hp
def cbR (P:Program) (q:Nat) (ops:Array Oper) (s:LS) (i:Nat):Option ((FuncId × List AV × Option Tmp) × (Value × TypeId × Nat × List (List AV))):=
 match Qms ops s i,rowR q s with
 | some (f,args,d),some r=>bif entB P f then some ((f,args,d),r) else none
 | _,_=>none
theorem Qnq {P:Program} {q:Nat} {f:FuncId} {args args':List AV} {d:Option Tmp} {V:Value} {e:TypeId} {k:Nat} {xs:List (List AV)} {r:AV} (hs:Qs2 (.row V e k xs) args args') (hsp:Qai P f args' r) (hp:Qy2 r=true) :
  ∀ (ops:Array Oper) (i:Nat) (s:LS) (K:FS→Prop) (rest:List Nat),cbR P q ops s i=some ((f,args,d),(V,e,k,xs))→(∀ a:Unit,SeqR P ops K rest (s.put d r).fs)→SeqR P ops K (i :: rest) s.fs:=by
 intro ops i s K rest h kk;unfold cbR at h
 split at h
 ·rename_i f' args0 d' r' hc hr;cases he:entB P f' with
  | false=>rw [he] at h;cases h
  | true=>
   rw [he] at h;simp only [cond_true,W0k,W0s] at h;obtain ⟨⟨rfl,rfl,rfl⟩,rfl⟩:=h;obtain ⟨o,hi,hg,hrd,hd,hrun⟩:=Qlc (P:=P) hc;have hb:=Zea hr;refine ⟨o,hi,.inr ⟨hg,.inr (.inl ⟨hrd,fun x nb=>x=r∧nb=none,?_,?_⟩)⟩⟩
   ·intro D w a Q K' hD hops hbx hcont;obtain ⟨hl,hsa⟩:=hs.ok;obtain ⟨vs,h1,h2⟩:=hrun D w a.eval hops;have hbq:=hbx q _ hb;have hra:Qdj (fun b=>D b∨(Bx.row V e k xs).blk=some b) w args' vs:=by
     refine ⟨by rw [← hl];exact h2.1,fun j x v hx hv=>?_⟩;have hj:j<args0.length:=by have:=(W0i.1 hx).1;omega
     exact hsa j args0[j] x (W0d hj) hx D w v hD hbq (h2.2 j args0[j] v (W0d hj) hv)
    unfold Oper.wp;rw [h1,Qjy he,Oper.upon_enter];refine (hsp _ w _ (fun b hb'=>hb'.elim (hD b) (fun e=>hbq.lt e)) hra).mono ?_;rintro e' w' ⟨v,D',rfl,g1,g2,g3,g4⟩;exact hcont v w' r none D ⟨rfl,rfl⟩ g1 (fun _ h=>h) (fun b hb'=>⟨W09 (hD b hb') g1.size,.inl hb'⟩) (Zjl hp g4) (fun id y h=>by cases h)
   ·rintro x nb ⟨rfl,rfl⟩;refine ⟨fun id y h=>(by cases h),?_⟩;simp only [FS.addB];rw [LS.fs_put,hd];exact kk ()
 ·cases h
def crR (P:Program) (q:Nat) (ops:Array Oper) (s:LS) (i:Nat):Option (FuncId × List AV × Nat):=
 match Qms ops s i,bget s.bx q with
 | some (f,args,some d),none=>bif entB P f then some (f,args,d) else none
 | _,_=>none
theorem Qh3 {P:Program} {q:Nat} {f:FuncId} {args args':List AV} {d e k:Nat} {xs:List (List AV)} (hs:Qdl args args') (hsp:Qex P f args' e k xs) :
  ∀ (ops:Array Oper) (i:Nat) (s:LS) (K:FS→Prop) (rest:List Nat),crR P q ops s i=some (f,args,d)→(∀ V:Value,SeqR P ops K rest ((s.put (some d) (.rw q V xs.length)).setB q (.row V e k xs)).fs)→SeqR P ops K (i :: rest) s.fs:=by
 intro ops i s K rest h kk;unfold crR at h
 split at h
 ·rename_i f' args0 d' hc hn;cases he:entB P f' with
  | false=>rw [he] at h;cases h
  | true=>
   rw [he] at h;simp only [cond_true,W0k,W0s] at h;obtain ⟨rfl,rfl,rfl⟩:=h;obtain ⟨o,hi,hg,hrd,hd,hrun⟩:=Qlc (P:=P) hc;refine ⟨o,hi,.inr ⟨hg,.inr (.inl ⟨hrd,fun z nb=>∃ V,z=.rw q V xs.length∧nb=some (q,.row V e k xs),?_,?_⟩)⟩⟩
   ·intro D w a Q K' hD hops hbx hcont;obtain ⟨hl,hsa⟩:=hs.ok;obtain ⟨vs,h1,h2⟩:=hrun D w a.eval hops;have hra:Qdj D w args' vs:=by
     refine ⟨by rw [← hl];exact h2.1,fun j x v hx hv=>?_⟩;have hj:j<args0.length:=by have:=(W0i.1 hx).1;omega
     exact hsa j args0[j] x (W0d hj) hx D w v (h2.2 j args0[j] v (W0d hj) hv)
    unfold Oper.wp;rw [h1,Qjy he,Oper.upon_enter];refine (hsp D w _ hD hra).mono ?_;rintro r w' ⟨V,us,D',rfl,hb,hD1,hD2,hown,hnot,hkx,hus,hru⟩;have hown0:w'.ownsRow 0 e k V xs.length us:=by
     refine ⟨hown.1,?_⟩;rcases hown.2 with h' | ⟨g,cap,cur,rfl,hg,r⟩
     ·exact .inl h'
     ·exact .inr ⟨g,cap,cur,rfl,W0j _,r⟩
    obtain ⟨A,cc,hV,_⟩:=(Sl.of_owns hown).shape;refine hcont _ w' _ _ D' ⟨V,rfl,rfl⟩ hb hD1 hD2 (by rw [hV];exact .rw q _ cc A) (fun id y hy=>?_);obtain ⟨rfl,rfl⟩:=by simpa using hy
    exact ⟨fun g hg'=>⟨(Qf2 hown g hg').1,hnot g hg'⟩,hkx,us,hown0,hus,hru⟩
   ·rintro z nb ⟨V',rfl,rfl⟩;refine ⟨fun id y hy=>?_,?_⟩
    ·obtain ⟨rfl,rfl⟩:=by simpa using hy
     exact hn
    ·have:=kk V';rw [← LS.fs_setB,← LS.fs_put] at this;rw [hd];exact this
 ·cases h
end Go.Proofs.YtahlldgocpabjaaGreat

namespace Copyhold
open Go Go.RowKit
def cutA (A:Option Addr) (c i size:Nat):Option Addr:=if c=i then A else A.map (·.add (i*size))
theorem Zia (a:Addr):a.add 0=a:=by unfold Addr.add;simp
theorem Sl.pre {w:World} {k:Nat} {A:Option Addr} {n c:Nat} {xs:List Value} (h:Sl w k (.slice A n c) n xs) (i:Nat) (hi:i≤n):Sl w k (.slice A i c) i (xs.take (i*k)):=by
 obtain ⟨A',c',he,hc,hl,hh⟩:=h;simp only [Value.slice.injEq] at he;obtain ⟨rfl,_,rfl⟩:=he;have hik:i*k≤n*k:=W1e _ hi;refine ⟨A,c,rfl,by omega,by rw [W0g];omega,fun h0=>?_⟩;obtain ⟨b,off,rfl,hb,hcell⟩:=hh (by omega);refine ⟨b,off,rfl,hb,fun j x hx=>hcell j x ?_⟩;rw [W1c] at hx
 split at hx
 ·exact hx
 ·cases hx
theorem Sl.post {w:World} {k:Nat} {A:Option Addr} {n c:Nat} {xs:List Value} (h:Sl w k (.slice A n c) n xs) (i:Nat) (hi:i≤n):Sl w k (.slice (cutA A c i k) (n-i) (c-i)) (n-i) (xs.drop (i*k)):=by
 obtain ⟨A',c',he,hc,hl,hh⟩:=h;simp only [Value.slice.injEq] at he;obtain ⟨rfl,_,rfl⟩:=he;refine ⟨_,_,rfl,by omega,by rw [W0p,hl,Nat.sub_mul],fun h0=>?_⟩;obtain ⟨b,off,rfl,hb,hcell⟩:=hh (by omega);refine ⟨b,off+i*k,?_,hb,fun j x hx=>?_⟩
 ·rw [cutA,W1x (by omega),Option.map_some,Qbv]
 ·rw [Nat.add_assoc];refine hcell _ _ ?_;rw [← hx,W08]
theorem Zb6 {P:Program} {t e:TypeId} {z:Value} {size bytes:Nat} (E:Elem P t e z size bytes) (w:World) (base c:Nat) (hb:bytes*c≤281474976710656) (hm:c≤maxLen) (hbase:base≤w.heap.size) :
  ∃ w',(Instr.makeSlice t (.int .i64 0) (.int .i64 (c:Int))).run P w=.ok (.slice (some ⟨w.heap.size,0,none⟩) 0 c) w'∧w'.ownsRow base e size (.slice (some ⟨w.heap.size,0,none⟩) 0 c) 0 []∧w.grownBy w' none:=by
 obtain ⟨ht,hinf,hzs,hsz⟩:=E;obtain ⟨i,hi,hz,hsize,hby⟩:=Qhg hinf;exact run_make_own (P:=P) w base t e i z size ht hi hz hsize .i64 .i64 c (by rw [hby];exact hb) hm hbase
end Copyhold

namespace Go.Proofs.YtahlldgocpabjaaGreat
open Go Go.RowKit Copyhold
theorem Qq4 {P:Program} {k:Nat} {xs:List (List AV)} {m:Int} {d:Option Tmp} (n:Nat) (hm:m=(n:Int)) (hn:n≤xs.length) :
  ∀ (ops:Array Oper) (i:Nat) (s:LS) (K:FS→Prop) (rest:List Nat),slcO P ops s i=some (.sl k true xs,none,some m,none,d)→(∀ a:Unit,SeqR P ops K rest (s.put d (.pre k xs n)).fs)→SeqR P ops K (i :: rest) s.fs:=by
 intro ops i s K rest h kk;subst hm;obtain ⟨o,t,y,lo,hi,mx,hi2,hg,hop,hx,h1,h2,h3,rfl,hty⟩:=Qwb h;refine ⟨o,hi2,.inr ⟨hg,.inl ⟨.pre k xs n,.inl fun D w ρ hops=>?_,by rw [LS.fs_put];exact kk ()⟩⟩⟩;have hv:=Qa8 hops y (by simp [hop,Op.operands]);rw [← hx] at hv;have m1:=Qhp hops h1 (fun y e=>by simp [hop,Op.operands,e]);have m2:=Qhp hops h2 (fun y e=>by simp [hop,Op.operands,e]);have m3:=Qhp hops h3 (fun y e=>by simp [hop,Op.operands,e]);rcases hty with ⟨k',tt',xs',e,he,hu,hsz⟩ | ⟨bb,he,_⟩
 ·simp only [AV.sl.injEq] at he;obtain ⟨rfl,rfl,rfl⟩:=he;generalize hvv:ρ y=v at hv;obtain ⟨A,c,rfl,hc⟩:∃ A c,v=.slice A xs.length c∧xs.length≤c:=by
   cases hv with
   | sl k t xs A c bk off vs g1 g2 g3 g4 g5 g6=>exact ⟨A,c,rfl,g1⟩
  have hb:=Qiw P w true xs.length c 0 n none (some (n:Int)) none (.inl ⟨rfl,rfl⟩) (.inr rfl) (.inl rfl) (by omega) hn hc;simp only [Option.map_some,Option.map_none] at hb;refine ⟨.slice A n c,?_,.pre k xs n A c hv hn⟩;have hA:(if c=0 then A else A.map (·.add 0))=A:=by
   split
   ·rfl
   ·cases A
    ·rfl
    ·simp [Zia]
  simp [execOp,hop,hvv,Instr.sliceAt,Instr.slice,run_underlying hu,m1,m2,m3,hb,Qdb hsz,mxN,hA]
 ·cases he
def capO (P:Program) (ops:Array Oper) (s:LS) (i:Nat):Option (Nat × List (List AV) × Option Tmp):=
 match opAt ops s i with
 | some o=>
  match o.op with
  | .call c=>
   match c.callee,c.args.toList,c.argTypes.toList with
   | .builtin .cap,[x],[t]=>
    match s.ev x,P.underlying t with
    | .sl k true xs,some (.slice e)=>some (k,xs,o.dst)
    | _,_=>none
   | _,_,_=>none
  | _=>none
 | none=>none
theorem Qq6 {P:Program} {k:Nat} {xs:List (List AV)} {d:Option Tmp} :
  ∀ (ops:Array Oper) (i:Nat) (s:LS) (K:FS→Prop) (rest:List Nat),capO P ops s i=some (k,xs,d)→(∀ a:Unit,SeqR P ops K rest (s.put d (aI (xs.length:Int))).fs)→SeqR P ops K (i :: rest) s.fs:=by
 intro ops i s K rest h kk;unfold capO at h
 split at h
 ·rename_i o ho;obtain ⟨hi,hg⟩:=Qb2 ho
  split at h
  ·rename_i c hop
   split at h
   ·rename_i x t hc ha ht
    split at h
    ·rename_i k' xs' e hx hu;simp only [W0k,W0s] at h;obtain ⟨rfl,rfl,rfl⟩:=h;refine ⟨o,hi,.inr ⟨hg,.inl ⟨_,.inl fun D w ρ hops=>?_,by rw [LS.fs_put];exact kk ()⟩⟩⟩;obtain ⟨callee,args,cts⟩:=c;simp only at hc ha ht;subst hc;have ha':args=#[x]:=by have:=W1z List.toArray ha;simpa using this
     have ht':cts=#[t]:=by have:=W1z List.toArray ht;simpa using this
     subst ha' ht';have hv:=Qa8 hops x (by simp [hop,Op.operands,Call.operands]);rw [hx] at hv;generalize hvv:ρ x=v at hv;cases hv with
     | sl k t xs A c b off vs g1 g2 g3 g4 g5 g6=>
      have hc:=g2 rfl;subst hc;exact ⟨goInt xs'.length,by simp [execOp,hop,resolve,invoke,builtin,hvv,Builtin.cap_,run_underlying hu],.val _⟩
    ·cases h
   ·cases h
  ·cases h
 ·cases h
def rsO (P:Program) (ops:Array Oper) (s:LS) (i:Nat):Option (Nat × Value × Nat × Nat × Int × Option Tmp):=
 match opAt ops s i with
 | some o=>
  match o.op with
  | .slice t x (some lo) none none=>
   match s.ev x,s.ev lo,P.underlying t with
   | .rw q V m0,.val (.int .i64 m),some (.slice e)=>
    match szP P e with
    | some k=>some (q,V,m0,k,m,o.dst)
    | none=>none
   | _,_,_=>none
  | _=>none
 | none=>none
theorem Qlp {P:Program} {q b n cap m0 k:Nat} {V:Value} {m:Int} {d:Option Tmp} (lo:Nat) (hV:V=.slice (some ⟨b,0,none⟩) n cap) (hm:m=(lo:Int)) (hlo:lo<n) (hnc:n≤cap) :
  ∀ (ops:Array Oper) (i:Nat) (s:LS) (K:FS→Prop) (rest:List Nat),rsO P ops s i=some (q,V,m0,k,m,d)→(∀ a:Unit,SeqR P ops K rest (s.put d (.rs q V k lo)).fs)→SeqR P ops K (i :: rest) s.fs:=by
 intro ops i s K rest h kk;unfold rsO at h
 split at h
 ·rename_i o ho;obtain ⟨hi,hg⟩:=Qb2 ho
  split at h
  ·rename_i t x l hop
   split at h
   ·rename_i q' V' m0' m' e hx hl hu
    split at h
    ·rename_i k' hk;simp only [W0k,W0s] at h;obtain ⟨rfl,rfl,rfl,rfl,rfl,rfl⟩:=h;subst hV hm;refine ⟨o,hi,.inr ⟨hg,.inl ⟨_,.inl fun D w ρ hops=>?_,by rw [LS.fs_put];exact kk ()⟩⟩⟩;have hvx:=Qa8 hops x (by simp [hop,Op.operands]);have hvl:=Qa8 hops l (by simp [hop,Op.operands]);rw [hx] at hvx;rw [hl] at hvl;generalize hxv:ρ x=vx at hvx;generalize hlv:ρ l=vl at hvl;cases hvl;cases hvx;have hb:=Qiw P w true n cap lo n (some (lo:Int)) none none (.inr rfl) (.inl ⟨rfl,rfl⟩) (.inl rfl) (by omega) (W0m _) hnc;simp only [Option.map_some,Option.map_none] at hb;refine ⟨.slice (some ⟨b,lo*k',none⟩) (n-lo) (cap-lo),?_,.rs _ _ _ _ _ _ hlo⟩;have hne:¬ cap=lo:=by omega
     simp [execOp,hop,hxv,hlv,Instr.sliceAt,Instr.slice,run_underlying hu,hb,Qdb hk,mxN,hne,Qbv]
    ·cases h
   ·cases h
  ·cases h
 ·cases h
end Go.Proofs.YtahlldgocpabjaaGreat

namespace Copyhold
open Go Go.RowKit
abbrev Zlt:=Value × Nat × List Value
def Cats (w:World) (k:Nat) (v:Value) (ss:List Zlt):Prop:=
 Sl w 1 v ss.length (ss.map (·.1))∧∀ s∈ss,Sl w k s.1 s.2.1 s.2.2∧∀ u∈s.2.2,u.oneCell'=true
theorem Cats.below {w w':World} {k:Nat} {v:Value} {ss:List Zlt} (h:Cats w k v ss) (hb:Below w.heap.size w w'):Cats w' k v ss:=
 ⟨h.1.below hb,fun s hs=>⟨(h.2 s hs).1.below hb,(h.2 s hs).2⟩⟩
structure SlIs (w:World) (k:Nat) (A:Option Addr) (n c:Nat) (p:Zlt):Prop where
 n_is:p.2.1=n
 sl:Sl w k (.slice A n c) n p.2.2
theorem Cats.at {w:World} {k:Nat} {A:Option Addr} {c:Nat} {ss:List Zlt} (h:Cats w k (.slice A ss.length c) ss) (i:Nat) (hi:i<ss.length) :
  ∃ b off A' n' c',A=some ⟨b,off,none⟩∧b<w.heap.size∧w.cell? ⟨b,off+i,none⟩=some (.slice A' n' c')∧SlIs w k A' n' c' ss[i]∧∀ u∈ss[i].2.2,u.oneCell'=true:=by
 obtain ⟨h1,h2⟩:=h;obtain ⟨b,off,rfl,hb,_,_,hcell⟩:=h1.at (by omega);obtain ⟨g1,g2⟩:=h2 ss[i] (W1n _);obtain ⟨A',c',e,_,_⟩:=g1.shape;refine ⟨b,off,A',ss[i].2.1,c',rfl,hb,?_,⟨rfl,by rw [← e];exact g1⟩,g2⟩;rw [← e];exact hcell i _ (by rw [W0v,W0d hi];rfl)
def Zie (w:World) (t:TypeId) (k n:Nat) (xs:List Value) (e:Ending) (w':World):Prop:=∃ v,e=.returned v∧w'.ownsRow w.heap.size t k v n xs∧Below w.heap.size w w'
theorem Qft {P:Program} {w:World} {ops:Array Oper} {rest:List Oper} {o:Oper} {a:Act} {Q:Exit→Act→World→Prop} (hgd:o.guard=none) (s x:Operand) (t t2:TypeId)
  (ho:o.op=.call { callee:=.builtin .append,args:=#[s,x],argTypes:=#[t,t2] }) (v v2 v':Value) (w':World) (hs:a.eval s=v) (hx:a.eval x=v2)
  (hrun:(Builtin.append_ #[t,t2] o.type #[v,v2]).run P w=.ok v' w') (h:wpList P ops Q rest (a.put o.dst v') w'):wpList P ops Q (o :: rest) a w:=
 wpList_plain hgd fun K hK=>by
  unfold Oper.wp;simp [execOp,ho,resolve,invoke,builtin,hs,hx,hrun,Result.andThen];exact hK _ _ h
theorem Qs5 {P:Program} {t tn e:TypeId} {z:Value} {size bytes:Nat} (E:Elem P t e z size bytes) (htn:P.underlying tn=some (.int .i64)) (n:Nat) (h0:0<n) (hn:n*bytes≤140737488355328) (hn2:n≤1000000000) (w:World) :
  ∃ G w',(∀ ty,(Builtin.append_ #[t,tn] ty #[.slice none 0 0,.int .i64 (n:Int)]).run P w=.ok (.slice (some ⟨w.heap.size,0,none⟩) n G) w')∧n≤G∧G≤9223372036854775807∧w'.ownsRow w.heap.size e size (.slice (some ⟨w.heap.size,0,none⟩) 0 G) 0 []∧Below w.heap.size w w':=by
 obtain ⟨ht,hinf,hzs,hsz⟩:=E;obtain ⟨i,hi,hz,hsize,hby⟩:=Qhg hinf;have hold:(Builtin.firstCells i.size 0 (.slice none 0 0)).run P w.drew=.ok ([]:List Value).toArray w.drew:=run_firstCells_none w.drew i.size 0 0 0;have hG:=grownCap_ge w (0+n) 0 e;have hG2:=grownCap_le_maxLen w (0+n) 0 e (by unfold maxLen;omega);have hrun:∀ ty,_:=fun ty=>Lib.run_append_grow_zeros w t tn ty e i z .i64 .i64 ht htn hi hz none 0 0 [] hold n (by omega) (by omega) (by omega) (by omega) (by rw [hby];omega) (growslice_fits (by omega) (by rw [hby,Nat.zero_add];omega));refine ⟨grownCap w (0+n) 0 e,w.drew.alloc (.cells (([]:List Value).toArray++Builtin.zeroCells z.cells n++Builtin.zeroCells z.cells (grownCap w (0+n) 0 e-(0+n))) e),?_,by omega,by unfold maxLen at hG2;omega,?_,?_⟩
 ·intro ty;have:=hrun ty;rw [show Value.slice (some ⟨w.heap.size,0,none⟩) (0+n) (grownCap w (0+n) 0 e)=Value.slice (some ⟨w.heap.size,0,none⟩) n (grownCap w (0+n) 0 e) from by rw [Nat.zero_add]] at this;exact this
 ·refine World.ownsRow_made w.drew _ _ (W0m _) hG2 ?_;have hzc:∀ m,(Builtin.zeroCells z.cells m).size=m*size:=fun m=>by simp [Builtin.zeroCells,hzs]
  simp only [Array.size_append,hzc,W2i,W0f];rw [Nat.zero_add,← Nat.add_mul];congr 1;omega
 ·exact (Qji (Below.refl _ _) 1).alloc (W0m _) _
end Copyhold

namespace Go.Proofs.YtahlldgocpabjaaGreat
open Go Go.RowKit Copyhold
def PW (D:Nat→Prop) (w:World) (ws:List AV) (us:List Value):Prop:=∀ (j:Nat) (a:AV) (u:Value),ws[j]?=some a→us[j]?=some u→Ra D w a u
theorem PW.append {D:Nat→Prop} {w:World} {ws bs:List AV} {us vs:List Value} (hl:ws.length=us.length) (h:PW D w ws us) (k:PW D w bs vs):PW D w (ws++bs) (us++vs):=fun j a u ha hu=>by
 by_cases hj:j<ws.length
 ·rw [W0o hj] at ha;rw [W0o (by omega)] at hu;exact h j a u ha hu
 ·rw [W0n (by omega)] at ha;rw [W0n (by omega),← hl] at hu;exact k _ a u ha hu
theorem PW.take {D:Nat→Prop} {w:World} {ws:List AV} {us:List Value} (h:PW D w ws us) (n:Nat):PW D w (ws.take n) (us.take n):=fun j a u ha hu=>by
 rw [W1c] at ha hu
 split at ha
 ·rename_i hj;rw [W1y hj] at hu;exact h j a u ha hu
 ·cases ha
theorem PW.drop {D:Nat→Prop} {w:World} {ws:List AV} {us:List Value} (h:PW D w ws us) (n:Nat):PW D w (ws.drop n) (us.drop n):=fun j a u ha hu=>by
 rw [W08] at ha hu;exact h _ a u ha hu
theorem Zir {α:Type} (L vs:List α) (a N:Nat) (h:a+vs.length≤N) (hN:N≤L.length):(L.take a++vs++L.drop (a+vs.length)).take N=(L.take N).take a++vs++(L.take N).drop (a+vs.length):=by
 have e1:(L.take N).take a=L.take a:=by rw [List.take_take,Nat.min_eq_left (by omega)]
 rw [e1,List.take_append,W1b (by simp;omega)];congr 1;rw [List.drop_take];congr 1;simp;omega
theorem Zd7 {P:Program} {D:Nat→Prop} {w:World} {b n cap:Nat} {e:TypeId} {k:Nat} {xs xs':List (List AV)} (h:BoxR D w (.row (.slice (some ⟨b,0,none⟩) n cap) e k xs)) (hnD:¬ D b) {cs:List AV} {vs:List Value} (p:Nat)
  (hl:cs.length=vs.length) (h1:∀ u∈vs,u.oneCell'=true) (hv:PW D w cs vs) (hp:p+cs.length≤xs.length*k) (hk':∀ l∈xs',l.length=k) (hn':xs'.length=xs.length)
  (hf:xs'.flatten=xs.flatten.take p++cs++xs.flatten.drop (p+cs.length)) :
  ∃ w',(storeCells ⟨b,p,none⟩ vs).run P w=.ok () w'∧BoxR D w' (.row (.slice (some ⟨b,0,none⟩) n cap) e k xs')∧Below 0 w w'∧(∀ g,g ≠ b→w'.heap[g]?=w.heap[g]?):=by
 obtain ⟨hk,us,hown,hus,hru⟩:=h;rcases hown.2 with ⟨hV,_⟩ | ⟨g,cap',cur,hV,hb,hgg,hnc,hmx,hsz,htake⟩
 ·cases hV
 ·simp only [Value.slice.injEq,W0k,Addr.mk.injEq] at hV;obtain ⟨⟨rfl,_⟩,rfl,rfl⟩:=hV;have hle:xs.length*k≤cap*k:=W1e _ hnc;have hst:=run_storeCells_at P b p e vs 0 cur w hgg (by omega) h1;simp only [Nat.add_zero] at hst;have hlen:us.length=xs.flatten.length:=by rw [hown.1,Qhh hk]
  have hfl:xs.flatten.length=xs.length*k:=Qhh hk;have hheap:=setRow_heap w b cur (cur.toList.take p++vs++cur.toList.drop (p+vs.length)).toArray e (0,0) hgg;have hoth:∀ g,g ≠ b→(w.setRow b (cur.toList.take p++vs++cur.toList.drop (p+vs.length)).toArray).heap[g]?=w.heap[g]?:=fun g hg=>setRow_other _ _ _ _ hg;have hsize:(w.setRow b (cur.toList.take p++vs++cur.toList.drop (p+vs.length)).toArray).heap.size=w.heap.size:=by simp
  generalize hw':w.setRow b (cur.toList.take p++vs++cur.toList.drop (p+vs.length)).toArray=w' at hst hheap hoth hsize;have hos:Below 0 w w':=⟨by rw [← hw'];rfl,by rw [← hw'];rfl,by rw [← hw'];rfl,by omega,fun k hk=>by omega⟩
  have hfr:∀ a u,Ra D w a u→Ra D w' a u:=fun a u hu=>hu.frame (fun _ h=>h) (by omega) (fun g hd hl=>hoth g (fun e=>hnD (e ▸ hd)));refine ⟨w',hst,⟨hk',us.take p++vs++us.drop (p+vs.length),?_,fun u hu=>?_,?_⟩,hos,hoth⟩
  ·refine ⟨by rw [hn'];simp only [W0e,W0g,W0p,Array.length_toList,W2i];omega,.inr ⟨b,cap,_,by rw [hn'],W0j _,hheap,by rw [hn'];exact hnc,hmx,by simp only [W0e,W0g,W0p,Array.length_toList,W2i];omega,?_⟩⟩;rw [hn',List.toList_toArray,Zir _ _ _ _ (by omega) (by simp only [Array.length_toList];omega),htake]
  ·rcases W05.1 hu with hu | hu
   ·rcases W05.1 hu with hu | hu
    ·exact hus u (W14 hu)
    ·exact h1 u hu
   ·exact hus u (W2e hu)
  ·have hP:PW D w xs'.flatten (us.take p++vs++us.drop (p+vs.length)):=by
    rw [hf,← hl];exact PW.append (by simp only [W0e,W0g,W0p,Array.length_toList,W2i];omega) (PW.append (by simp only [W0e,W0g,W0p,Array.length_toList,W2i];omega) (PW.take hru p) hv) (PW.drop hru _)
   exact fun j a u ha hu=>hfr a u (hP j a u ha hu)
theorem Qk1 {α:Type} {k:Nat}:∀ {xs:List (List α)} (n:Nat),(∀ l∈xs,l.length=k)→(xs.take n).flatten=xs.flatten.take (n*k)
 | [],n,_=>by simp
 | x :: r,0,_=>by simp
 | x :: r,n+1,h=>by
  have hx:=h x (List.mem_cons_self ..);have ih:=Qk1 (xs:=r) n fun l hl=>h l (W12 _ hl);have e:(n+1)*k=x.length+n*k:=by rw [Nat.add_mul,hx];omega
  rw [List.take_succ_cons,W1g,W1g,ih,e,List.take_length_add_append]
theorem Qot {α:Type} {k:Nat}:∀ {xs:List (List α)} (n:Nat),(∀ l∈xs,l.length=k)→(xs.drop n).flatten=xs.flatten.drop (n*k)
 | [],n,_=>by simp
 | x :: r,0,_=>by simp
 | x :: r,n+1,h=>by
  have hx:=h x (List.mem_cons_self ..);have ih:=Qot (xs:=r) n fun l hl=>h l (W12 _ hl);have e:(n+1)*k=x.length+n*k:=by rw [Nat.add_mul,hx];omega
  rw [List.drop_succ_cons,W1g,ih,e,List.drop_length_add_append]
theorem Qgy {α:Type} {k:Nat}:∀ {xs:List (List α)},(∀ l∈xs,l.length=k)→xs.flatten.length=xs.length*k
 | [],_=>by simp
 | x :: r,h=>by
  rw [W1g,W0e,Qgy fun l hl=>h l (W12 _ hl),h x (List.mem_cons_self ..),W0b,Nat.add_mul];omega
theorem Zke {α:Type} {k j off:Nat} {xs:List (List α)} {ec cs:List α} (h:∀ l∈xs,l.length=k) (he:xs[j]?=some ec) (hf:off+cs.length≤ec.length) :
  (xs.set j (ec.take off++cs++ec.drop (off+cs.length))).flatten=xs.flatten.take (j*k+off)++cs++xs.flatten.drop (j*k+off+cs.length):=by
 obtain ⟨hj,rfl⟩:=W0i.1 he;have hx:xs[j].length=k:=h _ (W1n hj);have h1:=Qk1 j h;have h2:=Qot (j+1) h;have e0:xs=xs.take j++xs[j] :: xs.drop (j+1):=by rw [← List.drop_eq_getElem_cons hj,W1h]
 have hl1:(xs.take j).flatten.length=j*k:=by
  have hle:j*k≤xs.length*k:=W1e _ (by omega);have:=Qgy h;rw [h1,W0g];omega
 have e1:xs.flatten=(xs.take j).flatten++(xs[j]++(xs.drop (j+1)).flatten):=by
  conv=>lhs;rw [e0]
  rw [W2a,W1g]
 rw [List.set_eq_take_append_cons_drop,W1y hj,W2a,W1g,e1];generalize (xs.take j).flatten=A at *;generalize (xs.drop (j+1)).flatten=B at *;generalize xs[j]=ec at *;rw [← hl1,List.take_length_add_append,Nat.add_assoc,List.drop_length_add_append,List.take_append_of_le_length (by omega),List.drop_append_of_le_length (by omega)];simp only [W1v]
theorem Zm9 {α:Type} {k j off:Nat} {xs:List (List α)} {ec cs:List α} (h:∀ l∈xs,l.length=k) (he:xs[j]?=some ec) (hf:off+cs.length≤ec.length):∀ l∈xs.set j (ec.take off++cs++ec.drop (off+cs.length)),l.length=k:=fun l hl=>by
 rcases List.mem_or_eq_of_mem_set hl with hl | rfl
 ·exact h l hl
 ·have:=h ec (W0h he);simp;omega
def stR (P:Program) (ops:Array Oper) (s:LS) (i:Nat):Option (Nat × Value × Nat × Nat × Nat × Value × TypeId × Nat × List (List AV) × List AV × Option Tmp):=
 match opAt ops s i with
 | some o=>
  match o.op with
  | .store t a x=>
   match s.ev a,Qeh (s.ev x),szP P t with
   | .ep q V k j off,some cs,some n=>
    match bget s.bx q with
    | some (.row V' e k' xs)=>bif Nat.beq cs.length n then some (q,V,k,j,off,V',e,k',xs,cs,o.dst) else none
    | _=>none
   | _,_,_=>none
  | _=>none
 | none=>none
theorem Qke {P:Program} {q k j off:Nat} {V:Value} {e:TypeId} {xs:List (List AV)} {cs:List AV} {d:Option Tmp} (ec:List AV) (he:xs[j]?=some ec) (hf:off+cs.length≤ec.length) :
  ∀ (ops:Array Oper) (i:Nat) (s:LS) (K:FS→Prop) (rest:List Nat),stR P ops s i=some (q,V,k,j,off,V,e,k,xs,cs,d)→(∀ a:Unit,SeqR P ops K rest ((s.put d .any).setB q (.row V e k (xs.set j (ec.take off++cs++ec.drop (off+cs.length))))).fs)→SeqR P ops K (i :: rest) s.fs:=by
 intro ops i s K rest h kk;unfold stR at h
 split at h
 ·rename_i o ho;obtain ⟨hi,hg⟩:=Qb2 ho
  split at h
  ·rename_i t a x hop
   split at h
   ·rename_i q' V' k' j' off' cs' n ha hx hn
    split at h
    ·rename_i V2 e2 k2 xs' hb;cases hbq:Nat.beq cs'.length n with
     | false=>rw [hbq] at h;cases h
     | true=>
      rw [hbq] at h;simp only [cond_true,W0k,W0s] at h;obtain ⟨rfl,rfl,rfl,rfl,rfl,rfl,rfl,rfl,rfl,rfl,rfl⟩:=h;have hcn:=W0q hbq;refine ⟨o,hi,.inr ⟨hg,.inr (.inr ⟨by rw [hop];rfl,by rw [hop];rfl,q',fun z y'=>z=.any∧y'=.row V2 e2 k2 (xs'.set j' (ec.take off'++cs'++ec.drop (off'+cs'.length))),?_,?_⟩)⟩⟩
      ·refine Qvy.up ?_;intro D w ac Q K' hD hops hbx hnd hcont;have hva:=Qa8 hops a (by simp [hop,Op.operands]);have hvx:=Qa8 hops x (by simp [hop,Op.operands]);rw [ha] at hva;generalize hav:ac.eval a=va at hva;generalize hxv:ac.eval x=vx at hvx;have hrep:=Qla hx hvx;have hbox:=hbx q' _ hb;have hk:=hbox.1;have hecl:ec.length=k2:=hk ec (W0h he);cases hva with
       | ep id b n0 cap k i off=>
        have hnD:¬ D b:=hnd _ b hb rfl;have hjl:j'<xs'.length:=(W0i.1 he).1;have hjk:j'*k2+k2≤xs'.length*k2:=by have:=W1e k2 (show j'+1≤xs'.length from hjl);rw [Nat.add_mul] at this;omega
        obtain ⟨w',h1,h2,h3,h4⟩:=Zd7 (P:=P) hbox hnD (cs:=cs') (vs:=vx.cells.toList) (j'*k2+off') (by simpa using hrep.1.symm) (fun u hu=>by
         obtain ⟨p,hp⟩:=W2n.1 hu;exact hrep.2.1 p u (by simpa using hp)) (fun p a u ha hu=>hrep.2.2 p a u ha (by simpa using hu)) (by omega) (Zm9 hk he hf) (by simp) (Zke hk he hf)
        have hrun:(execOp ac.eval o).run P w=.ok .skip w':=by
         simp [execOp,hop,hav,hxv,Instr.storeAt,Instr.sureAddr,storeVar,Qdb hn,hrep.1,hcn,h1]
        unfold Oper.wp;rw [hrun,Oper.upon_skip];exact hcont undef w' .any _ _ ⟨rfl,rfl⟩ hb h3 (fun g hg _=>h4 g (fun e=>hg (by rw [e];rfl))) (fun g hg=>⟨.inl hg,hnd _ g hb hg⟩) h2 (.any _)
      ·rintro z y' ⟨rfl,rfl⟩;rw [LS.fs_put,LS.fs_setB];exact kk ()
    ·cases h
   ·cases h
  ·cases h
 ·cases h
end Go.Proofs.YtahlldgocpabjaaGreat

namespace Go.Proofs.YtahlldgocpabjaaGreat
open Go Go.RowKit Copyhold
def cpR (P:Program) (ops:Array Oper) (s:LS) (i:Nat):Option (Nat × Value × Nat × Nat × Value × TypeId × Nat × List (List AV) × Nat × List (List AV) × Nat × Option Tmp):=
 match opAt ops s i with
 | some o=>
  match o.op with
  | .call c=>
   match c.callee,c.args.toList,c.argTypes.toList with
   | .builtin .copy,[x,y],[dT,sT]=>
    match s.ev x,s.ev y,Ql2 P dT with
    | .rs q V k lo,.sl k2 _ ys,some e'=>
     match szP P e',bget s.bx q with
     | some k3,some (.row V' e k' xs)=>some (q,V,k,lo,V',e,k',xs,k2,ys,k3,o.dst)
     | _,_=>none
    | _,_,_=>none
   | _,_,_=>none
  | _=>none
 | none=>none
theorem Zlw {D:Nat→Prop} {w:World} {k:Nat} {t:Bool} {ys:List (List AV)} {v:Value} (h:Ra D w (.sl k t ys) v):∀ l∈ys,l.length=k:=fun l hl=>by
 cases h with
 | sl k t xs A c b off vs h1 h2 h3 h4 h5 h6=>
  obtain ⟨q,hq⟩:=W2n.1 hl;exact h4 q l hq
theorem Qk3 {P:Program} {w:World} {k n c:Nat} {A:Option Addr} {us:List Value} (h:Sl w k (.slice A n c) n us):(Builtin.firstCells k n (.slice A n c)).run P w=.ok us.toArray w:=by
 obtain ⟨A',c',he,hc,hl,hh⟩:=h;simp only [Value.slice.injEq] at he;obtain ⟨rfl,_,rfl⟩:=he;cases A with
 | some a=>
  refine run_firstCells_some (w:=w) k n a n c us hl fun j v hv=>?_;by_cases h0:0<n
  ·obtain ⟨b,off,ha,hb,hcell⟩:=hh h0;obtain rfl:=W0c ha;rw [Qbv];exact hcell j v hv
  ·have:us=[]:=W0l (by rw [hl,show n=0 from by omega];simp);subst this;simp at hv
 | none=>
  have h0:¬ 0<n:=fun h0=>by obtain ⟨b,off,ha,_⟩:=hh h0;cases ha
  have:us=[]:=W0l (by rw [hl,show n=0 from by omega];simp);subst this;exact run_firstCells_none (w:=w) k n n c
theorem Qiy {P:Program} {q k lo:Nat} {V:Value} {e:TypeId} {xs ys:List (List AV)} {d:Option Tmp} (hl:lo+ys.length≤xs.length) :
  ∀ (ops:Array Oper) (i:Nat) (s:LS) (K:FS→Prop) (rest:List Nat),cpR P ops s i=some (q,V,k,lo,V,e,k,xs,k,ys,k,d)→(∀ a:Unit,SeqR P ops K rest ((s.put d (aI (ys.length:Int))).setB q (.row V e k (xs.take lo++ys++xs.drop (lo+ys.length)))).fs)→SeqR P ops K (i :: rest) s.fs:=by
 intro ops i s K rest h kk;unfold cpR at h
 split at h
 ·rename_i o ho;obtain ⟨hi,hg⟩:=Qb2 ho
  split at h
  ·rename_i c hop
   split at h
   ·rename_i x y dT sT hc hca ht
    split at h
    ·rename_i q' V' k' lo' k2 tt ys' e' hx hy he'
     split at h
     ·rename_i k3 V2 e2 k4 xs' hk3 hb;simp only [W0k,W0s] at h;obtain ⟨rfl,rfl,rfl,rfl,rfl,rfl,rfl,rfl,rfl,rfl,rfl,rfl⟩:=h;obtain ⟨callee,args,cts⟩:=c;simp only at hc hca ht;subst hc;have ha':args=#[x,y]:=by have:=W1z List.toArray hca;simpa using this
      have ht':cts=#[dT,sT]:=by have:=W1z List.toArray ht;simpa using this
      subst ha' ht';refine ⟨o,hi,.inr ⟨hg,.inr (.inr ⟨by rw [hop];rfl,by rw [hop];rfl,q',fun z y'=>z=aI (ys'.length:Int)∧y'=.row V2 e2 k3 (xs'.take lo'++ys'++xs'.drop (lo'+ys'.length)),?_,?_⟩)⟩⟩
      ·refine Qvy.up ?_;intro D w ac Q K' hD hops hbx hnd hcont;have hvx:=Qa8 hops x (by simp [hop,Op.operands,Call.operands]);have hvy:=Qa8 hops y (by simp [hop,Op.operands,Call.operands]);rw [hx] at hvx;rw [hy] at hvy;generalize hxv:ac.eval x=vx at hvx;generalize hyv:ac.eval y=vy at hvy;have hbox:=hbx q' _ hb;have hk:=hbox.1;have hky:=Zlw hvy;obtain ⟨us,hsl,hus,hru⟩:=Qg7 hvy;obtain ⟨A,c,rfl,hcl,hul,hcells⟩:=id hsl;have hfc:=Qk3 (P:=P) hsl;cases hvx with
       | rs id b n cap k lo hlo=>
        have hnD:¬ D b:=hnd _ b hb rfl;obtain ⟨_,us0,hown0,_⟩:=id hbox;have hn:n=xs'.length:=by
         rcases hown0.2 with ⟨hV,_⟩ | ⟨g,cap',cur,hV,_⟩
         ·cases hV
         ·simp only [Value.slice.injEq] at hV;exact hV.2.1
        have hmul:(lo'+ys'.length)*k3=lo'*k3+ys'.length*k3:=Nat.add_mul ..;have hfy:ys'.flatten.length=ys'.length*k3:=Qgy hky;have hmin:Nat.min ys'.length (n-lo')=ys'.length:=Nat.min_eq_left (by omega);obtain ⟨w',h1,h2,h3,h4⟩:=Zd7 (P:=P) hbox hnD (cs:=ys'.flatten) (vs:=us) (xs':=xs'.take lo'++ys'++xs'.drop (lo'+ys'.length)) (lo'*k3) (by omega) hus hru (by rw [hfy,← hmul];exact W1e _ hl)
         (fun l hl'=>by
          rcases W05.1 hl' with h | h
          ·rcases W05.1 h with h | h
           ·exact hk l (W14 h)
           ·exact hky l h
          ·exact hk l (W2e h))
         (by simp only [W0e,W0g,W0p];omega)
         (by rw [W2a,W2a,Qk1 _ hk,Qot _ hk,hmul,hfy])
        have hrun:(execOp ac.eval o).run P w=.ok (.value (goInt ys'.length)) w':=by
         simp [execOp,hop,resolve,invoke,builtin,hxv,hyv,Builtin.copy_,run_underlying (Qih he'),Builtin.lenOf,Qdb hk3,hmin,hfc,h1]
        unfold Oper.wp;rw [hrun,Oper.upon_value];exact hcont _ w' _ _ _ ⟨rfl,rfl⟩ hb h3 (fun g hg _=>h4 g (fun e=>hg (by rw [e];rfl))) (fun g hg=>⟨.inl hg,hnd _ g hb hg⟩) h2 (.val _)
      ·rintro z y' ⟨rfl,rfl⟩;rw [LS.fs_put,LS.fs_setB];exact kk ()
     ·cases h
    ·cases h
   ·cases h
  ·cases h
 ·cases h
def zrR (P:Program) (q:Nat) (ops:Array Oper) (s:LS) (i:Nat):Option (Nat × List (List AV) × Nat × Int × TypeId × TypeId × List AV × Nat):=
 match opAt ops s i with
 | some o=>
  match o.op,o.dst with
  | .call c,some d=>
   match c.callee,c.args.toList,c.argTypes.toList with
   | .builtin .append,[x,n],[t,tn]=>
    match s.ev x,s.ev n,Ql2 P t,P.underlying tn,bget s.bx q with
    | .pre k xs i0,.val (.int .i64 m),some e,some (.int .i64),none=>
     match Qs6 P e with
     | some z=>some (k,xs,i0,m,t,e,z,d)
     | none=>none
    | _,_,_,_,_=>none
   | _,_,_=>none
  | _,_=>none
 | none=>none
theorem Qwe {P:Program} {q k i0 d:Nat} {xs:List (List AV)} {m:Int} {t e:TypeId} {z:List AV} (c bytes:Nat) (hE:Qhj P t e k bytes=true) (hm:m=(c:Int)) (h0:0<c) (hi0:i0≤xs.length) (hgt:xs.length<i0+c)
  (h63:i0+c≤140737488355327) (hby:(i0+c)*bytes≤140737488355328) :
  ∀ (ops:Array Oper) (i:Nat) (s:LS) (K:FS→Prop) (rest:List Nat),zrR P q ops s i=some (k,xs,i0,m,t,e,z,d)→(∀ V:Value,SeqR P ops K rest ((s.put (some d) (.rw q V (i0+c))).setB q (.row V e k (xs.take i0++List.replicate c z))).fs)→SeqR P ops K (i :: rest) s.fs:=by
 intro ops i s K rest h kk;subst hm;unfold zrR at h
 split at h
 ·rename_i o ho;obtain ⟨hi,hg⟩:=Qb2 ho
  split at h
  ·rename_i cc d' hop hd
   split at h
   ·rename_i x n t' tn hc hca hct
    split at h
    ·rename_i k' xs' i0' m' e' hx hn hel htn hbn
     split at h
     ·rename_i z' hz;simp only [W0k,W0s] at h;obtain ⟨rfl,rfl,rfl,rfl,rfl,rfl,rfl,rfl⟩:=h;obtain ⟨callee,args,cts⟩:=cc;simp only at hc hca hct;subst hc;have ha':args=#[x,n]:=by have:=W1z List.toArray hca;simpa using this
      have ht':cts=#[t',tn]:=by have:=W1z List.toArray hct;simpa using this
      subst ha' ht';refine ⟨o,hi,.inr ⟨hg,.inr (.inl ⟨by rw [hop];rfl,fun y nb=>∃ V,y=.rw q V (i0'+c)∧nb=some (q,.row V e' k' (xs'.take i0'++List.replicate c z')),?_,?_⟩)⟩⟩
      ·intro D w ac Q K' hD hops hbx hcont;have hvx:=Qa8 hops x (by simp [hop,Op.operands,Call.operands]);have hvn:=Qa8 hops n (by simp [hop,Op.operands,Call.operands]);rw [hx] at hvx;rw [hn] at hvn;generalize hxv:ac.eval x=vx at hvx;generalize hnv:ac.eval n=vn at hvn;cases hvn;obtain ⟨zv,hEl⟩:=Qhi hE;obtain ⟨ht,hinf,hzs,hsz⟩:=id hEl;obtain ⟨ti,hti,htz,hsize,hbytes⟩:=Qhg hinf;obtain ⟨it,z2,g1,g2,hrepz⟩:=Qg3 (D:=D) (w:=w) hz;rw [hti] at g1;obtain rfl:=W0c g1;rw [htz] at g2;obtain rfl:=W0c g2;cases hvx with
       | pre k xs i0 A cA hsl hle=>
        have hcA:cA=xs'.length:=by
         cases hsl with
         | sl k t xs A c b off vs h1 h2 h3 h4 h5 h6=>exact h2 rfl
        subst hcA;have hkx:=Zlw hsl;obtain ⟨us,hS,hus,hru⟩:=Qg7 hsl;have hul:us.length=xs'.length*k':=by obtain ⟨_,_,he,_,hl,_⟩:=id hS;exact hl
        have hpre:=hS.pre i0' hle;have hmul:i0'*k'≤xs'.length*k':=W1e _ hle;have hold:(Builtin.firstCells ti.size i0' (.slice A i0' xs'.length)).run P w.drew=.ok (us.take (i0'*k')).toArray w.drew:=by
         rw [hsize];exact Qk3 (show Sl w.drew k' (.slice A i0' xs'.length) i0' (us.take (i0'*k')) from hpre)
        have hG:=grownCap_ge w (i0'+c) xs'.length e';have hG2:=grownCap_le_maxLen w (i0'+c) xs'.length e' (by unfold maxLen;omega);have hc48:c*ti.bytes≤281474976710656:=by
         rw [hbytes];have:=W1e bytes (show c≤i0'+c by omega);omega
        have hrun:=fun ty=>Lib.run_append_grow_zeros w t' tn ty e' ti zv .i64 .i64 ht htn hti htz A i0' xs'.length (us.take (i0'*k')) hold c h0 (by omega) hgt (by omega) hc48 (growslice_fits hgt (by rw [hbytes];exact hby));generalize hGG:grownCap w (i0'+c) xs'.length e'=G at hrun hG hG2;have hzc:∀ n,(Builtin.zeroCells zv.cells n).toList=(List.replicate n zv.cells.toList).flatten:=fun n=>Qmt zv.cells n (by omega);have hzl:∀ n,(Builtin.zeroCells zv.cells n).toList.length=n*k':=fun n=>by
         rw [hzc,Qgy (k:=k') (fun l hl=>by rw [List.eq_of_mem_replicate hl];simpa using hzs),W00]
        generalize hcells:(us.take (i0'*k')).toArray++Builtin.zeroCells zv.cells c++Builtin.zeroCells zv.cells (G-(i0'+c))=cells at hrun;have hcl:cells.toList=(us.take (i0'*k')++(List.replicate c zv.cells.toList).flatten)++(Builtin.zeroCells zv.cells (G-(i0'+c))).toList:=by
         rw [← hcells,Array.toList_append,Array.toList_append,hzc c]
        have hzcl:((List.replicate c zv.cells.toList).flatten).length=c*k':=by rw [← hzc];exact hzl c
        have hadd:(i0'+c)*k'=i0'*k'+c*k':=Nat.add_mul ..;have hlen1:(us.take (i0'*k')++(List.replicate c zv.cells.toList).flatten).length=(i0'+c)*k':=by
         rw [W0e,W0g,hzcl,hadd];omega
        have hsz2:cells.size=G*k':=by
         have e1:cells.size=cells.toList.length:=by simp
         rw [e1,hcl,W0e,hlen1,hzl,← Nat.add_mul];congr 1;omega
        have hb:Below w.heap.size w (w.drew.alloc (.cells cells e')):=(Qji (Below.refl _ _) 1).alloc (W0m _) _;have hown:(w.drew.alloc (.cells cells e')).ownsRow 0 e' k' (.slice (some ⟨w.heap.size,0,none⟩) (i0'+c) G) (i0'+c) (us.take (i0'*k')++(List.replicate c zv.cells.toList).flatten):=by
         refine ⟨hlen1,.inr ⟨w.heap.size,G,cells,rfl,W0j _,heap_alloc_new w.drew _,hG,hG2,hsz2,?_⟩⟩;rw [hcl,← hlen1];exact List.take_left' rfl
        have hxl:(xs'.take i0'++List.replicate c z').length=i0'+c:=by rw [W0e,W0g,W00];omega
        have hzk:z'.length=k':=by have:=hrepz.1;rw [← hzs];omega
        unfold Oper.wp;have hex:(execOp ac.eval o).run P w=.ok (.value (.slice (some ⟨w.heap.size,0,none⟩) (i0'+c) G)) (w.drew.alloc (.cells cells e')):=by
         simp [execOp,hop,resolve,invoke,builtin,hxv,hnv,hrun]
        rw [hex,Oper.upon_value];refine hcont _ _ _ _ D ⟨_,rfl,rfl⟩ hb (fun _ h=>h) (fun b h=>⟨W09 (hD b h) hb.size,.inl h⟩) (.rw q _ G _) (fun id y hy=>?_);obtain ⟨rfl,rfl⟩:=by simpa using hy
        refine ⟨fun g hg'=>?_,⟨fun l hl=>?_,_,by rw [hxl];exact hown,fun u hu=>?_,?_⟩⟩
        ·have:w.heap.size=g:=by simpa [Bx.blk,Value.ownBlock] using hg'
         subst this;exact ⟨W0m _,fun hd=>by have:=hD _ hd;omega⟩
        ·rcases W05.1 hl with h | h
         ·exact hkx l (W14 h)
         ·rw [List.eq_of_mem_replicate h];exact hzk
        ·rcases W05.1 hu with h | h
         ·exact hus u (W14 h)
         ·obtain ⟨l,hl1,hl2⟩:=List.mem_flatten.1 h;rw [List.eq_of_mem_replicate hl1] at hl2;obtain ⟨p,hp⟩:=W2n.1 hl2;exact hrepz.2.1 p u (by simpa using hp)
        ·have hP:PW D w (xs'.take i0'++List.replicate c z').flatten (us.take (i0'*k')++(List.replicate c zv.cells.toList).flatten):=by
          rw [W2a,Qk1 _ hkx];refine PW.append (by rw [W0g,W0g,hul,Qgy hkx]) (PW.take hru _) fun j a u ha hu=>?_;exact (Qgk hrepz c).2.2 j a u ha (by simpa using hu)
         exact fun j a u ha hu=>(hP j a u ha hu).frame (fun _ h=>h) hb.size (fun b hd hl=>hb.block b hl)
      ·rintro y nb ⟨V',rfl,rfl⟩;refine ⟨fun id y hy=>?_,?_⟩
       ·obtain ⟨rfl,rfl⟩:=by simpa using hy
        exact hbn
       ·have:=kk V';rw [← LS.fs_setB,← LS.fs_put] at this;rw [hd];exact this
     ·cases h
    ·cases h
   ·cases h
  ·cases h
 ·cases h
end Go.Proofs.YtahlldgocpabjaaGreat
