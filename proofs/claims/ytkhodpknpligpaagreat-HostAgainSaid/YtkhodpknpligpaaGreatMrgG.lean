import Derived.Test.YtkhodpknpligpaaGreatAl
import Derived.Test.YtkhodpknpligpaaGreatVc
import Derived.Test.YtkhodpknpligpaaGreatChecked
import Derived.Test.YtkhodpknpligpaaGreatMrgA
import Derived.Lib.AppendZerosOnto
set_option linter.unusedVariables false
namespace Go.Proofs.YtkhodpknpligpaaGreat
open Go Go.RowKit Copyhold
noncomputable def dP (p:Prop):Bool:=@decide p (Classical.propDecidable p)
theorem Qaf {p:Prop}:dP p=true↔p:=by unfold dP;simp
theorem Qaa {p:Prop}:dP p=false↔¬ p:=by unfold dP;simp
theorem dPt {p:Prop} (h:p):true=dP p:=(Qaf.2 h).symm
theorem dPf {p:Prop} (h:¬ p):false=dP p:=(Qaa.2 h).symm
theorem dPe {b:Bool} {p:Prop} (h:b=true↔p):b=dP p:=by
 cases b with
 | true=>exact dPt (h.1 rfl)
 | false=>exact dPf fun hp=>by cases h.2 hp
theorem sT {p:Prop} (h:p):Sub (aB true) (aB (dP p)):=W2n (W1y aB (dPt h))
theorem sF {p:Prop} (h:¬ p):Sub (aB false) (aB (dP p)):=W2n (W1y aB (dPf h))
theorem sE {b:Bool} {p:Prop} (h:b=true↔p):Sub (aB b) (aB (dP p)):=W2n (W1y aB (dPe h))
section
variable {α β:Type}
theorem Qk8 (f:α→Nat) {l:List α} {k:Nat} {x:α} (h:l[k]?=some x):((l.take (k+1)).map f).sum=((l.take k).map f).sum+f x:=by
 rw [List.take_add_one,h];simp
theorem Qdv (f:α→Nat) (l:List α) (k:Nat):((l.take k).map f).sum≤(l.map f).sum:=by
 have h:(l.map f).sum=((l.take k).map f).sum+((l.drop k).map f).sum:=by
  rw [← List.sum_append,← W1r,W1g]
 omega
theorem Qgn {l:List α} {k:Nat} {x y:α} (h:l[k]?=some x) (hy:y∈l.take (k+1)):y∈l.take k∨y=x:=by
 rw [List.take_add_one,h] at hy;simpa using hy
theorem Qap {l:List α} {k:Nat} (h:l.length≤k):l.take k=l:=W1a h
theorem Qaq {l:List α} {k:Nat} {x:α} (h:l[k]?=some x):l.take (k+1)=l.take k++[x]:=by
 rw [List.take_add_one,h];rfl
theorem Qan {l:List α} {k:Nat} {x:α} (h:l[k]?=some x):k<l.length:=(W0i.1 h).1
def Qaz (Q:Nat→α→Prop) (l:List α) (k:Nat):Prop:=∀ i e,i<k→l[i]?=some e→Q i e
def AllQ (Q:Nat→α→Prop) (l:List α):Prop:=∀ i e,l[i]?=some e→Q i e
theorem Qaz.zero (Q:Nat→α→Prop) (l:List α):Qaz Q l 0:=fun i e h=>by omega
theorem Qaz.step {Q:Nat→α→Prop} {l:List α} {k:Nat} {x:α} (h:Qaz Q l k) (hx:l[k]?=some x) (q:Q k x):Qaz Q l (k+1):=fun i e hi he=>by
 by_cases hk:i=k
 ·subst hk;rw [hx] at he;obtain rfl:=W0c he;exact q
 ·exact h i e (by omega) he
theorem Qaz.full {Q:Nat→α→Prop} {l:List α} {k:Nat} (h:Qaz Q l k) (hk:l.length≤k):AllQ Q l:=fun i e he=>h i e (by have:=Qan he;omega) he
theorem AllQ.at {Q:Nat→α→Prop} {l:List α} (h:AllQ Q l) {k:Nat} {x:α} (hx:l[k]?=some x):Q k x:=h k x hx
theorem AllQ.to {Q:Nat→α→Prop} {l:List α} (h:AllQ Q l) (k:Nat):Qaz Q l k:=fun i e _ he=>h i e he
end
abbrev Txt:=List UInt8
structure Ent where
 name:Txt
 ino:Int
 deriving DecidableEq
structure Nod where
 ino:Int
 kind:Int
 links:Int
 text:Txt
 l:List Ent
 deriving DecidableEq
structure Ver where
 stamp:Int
 gone:Bool
 n:Nod
 deriving DecidableEq
structure Chn where
 ino:Int
 l:List Ver
 deriving DecidableEq
structure Cnt where
 stamp:Int
 next:Int
 deriving DecidableEq
structure Sto where
 l:List Chn
 nexts:List Cnt
 stamp:Int
 deriving DecidableEq
structure Fsy where
 l:List Nod
 next:Int
 deriving DecidableEq
def txA (t:Txt):List AV:=[aS t]
def intA (n:Int):List AV:=[aI n]
def entA (e:Ent):List AV:=[aS e.name,aI e.ino]
def nodA (n:Nod):List AV:=[aI n.ino,aI n.kind,aI n.links,aS n.text,.sl 2 false (n.l.map entA)]
def verA (v:Ver):List AV:=[aI v.stamp,aB v.gone,aI v.n.ino,aI v.n.kind,aI v.n.links,aS v.n.text,.sl 2 false (v.n.l.map entA)]
def chnA (c:Chn):List AV:=[aI c.ino,.sl 7 false (c.l.map verA)]
def cntA (c:Cnt):List AV:=[aI c.stamp,aI c.next]
def stoA (s:Sto):List AV:=[.sl 2 false (s.l.map chnA),.sl 2 false (s.nexts.map cntA),aI s.stamp]
def fsyA (f:Fsy):List AV:=[.sl 5 false (f.l.map nodA),aI f.next]
def I64 (n:Int):Prop:=-9223372036854775808≤n∧n≤9223372036854775807
def OkE (e:Ent):Prop:=e.name.length≤140737488351232∧I64 e.ino
def OkN (n:Nod):Prop:=I64 n.ino∧I64 n.kind∧I64 n.links∧n.text.length≤140737488351232∧n.l.length≤8796093022207∧∀ e∈n.l,OkE e
def OkV (v:Ver):Prop:=I64 v.stamp∧OkN v.n
def OkC (c:Chn):Prop:=I64 c.ino∧c.l.length≤8796093022207∧∀ v∈c.l,OkV v
def OkK (c:Cnt):Prop:=I64 c.stamp∧I64 c.next
def OkS (s:Sto):Prop:=I64 s.stamp∧s.l.length≤8796093022207∧s.nexts.length≤8796093022207∧(∀ c∈s.l,OkC c)∧∀ c∈s.nexts,OkK c
def OkF (f:Fsy):Prop:=I64 f.next∧f.l.length≤8796093022207∧∀ n∈f.l,OkN n
def rowR (q:Nat) (s:LS):Option (Value × TypeId × Nat × List (List AV)):=
 match bget s.bx q with
 | some (.row V e k xs)=>some (V,e,k,xs)
 | _=>none
theorem Zbs {q:Nat} {s:LS} {V:Value} {e:TypeId} {k:Nat} {xs:List (List AV)} (h:rowR q s=some (V,e,k,xs)):bget s.bx q=some (.row V e k xs):=by
 unfold rowR at h
 split at h
 ·rename_i V' e' k' xs' hb;simp only [W0k,W0s] at h;obtain ⟨rfl,rfl,rfl,rfl⟩:=h;exact hb
 ·cases h
theorem Qb0 {P:Program} {V:Value} {e:TypeId} {k:Nat} {xs:List (List AV)} (q:Nat) (h0:0<xs.length) :
  ∀ (c:Cx) (Q:Exit→FS→Prop) (code:Code) (s:LS),rowR q s=some (V,e,k,xs)→(∀ a:{ p:Nat × Nat // V=.slice (some ⟨p.1,0,none⟩) xs.length p.2∧xs.length≤p.2 },AWp c P code Q s.fs)→AWp c P code Q s.fs:=by
 intro c Q code s h kk a w hr;obtain ⟨hc,D,hR⟩:=id hr;obtain ⟨hk,us,hown,_⟩:=(hR.bx q _ (Zbs h)).2;rcases hown.2 with ⟨_,h0'⟩ | ⟨g,cap,cur,he,_,_,hnc,_⟩
 ·omega
 ·exact kk ⟨(g,cap),he,hnc⟩ a w hr
def ixR (P:Program) (ops:Array Oper) (s:LS) (i:Nat):Option (Nat × Value × Nat × Nat × Int × Option Tmp):=
 match opAt ops s i with
 | some o=>
  match o.op with
  | .indexAddr t x n=>
   match Qk4 P t,s.ev x,s.ev n with
   | some e,.rw q V m0,.val (.int .i64 m)=>
    match szP P e with
    | some k=>some (q,V,m0,k,m,o.dst)
    | none=>none
   | _,_,_=>none
  | _=>none
 | none=>none
theorem Qft {P:Program} {q b n cap m0 k:Nat} {V:Value} {m:Int} {d:Option Tmp} (j:Nat) (hV:V=.slice (some ⟨b,0,none⟩) n cap) (hm:m=(j:Int)) (hj:j<n) :
  ∀ (ops:Array Oper) (i:Nat) (s:LS) (K:FS→Prop) (rest:List Nat),ixR P ops s i=some (q,V,m0,k,m,d)→(∀ a:Unit,SeqR P ops K rest (s.put d (.ep q V k j 0)).fs)→SeqR P ops K (i :: rest) s.fs:=by
 intro ops i s K rest h kk;unfold ixR at h
 split at h
 ·rename_i o ho;obtain ⟨hi,hg⟩:=Qbl ho
  split at h
  ·rename_i t x n' hop
   split at h
   ·rename_i e q' V' m0' m' hel hx hn
    split at h
    ·rename_i k' hk';simp only [W0k,W0s] at h;obtain ⟨rfl,rfl,rfl,rfl,rfl,rfl⟩:=h;subst hV hm;refine ⟨o,hi,.inr ⟨hg,.inl ⟨_,.inl fun D w ρ hops=>?_,by rw [LS.fs_put];exact kk ()⟩⟩⟩;have hvx:=Qa2 hops x (by simp [hop,Op.operands]);have hvn:=Qa2 hops n' (by simp [hop,Op.operands]);rw [hx] at hvx;rw [hn] at hvn;generalize hxv:ρ x=vx at hvx;generalize hnv:ρ n'=vn at hvn;cases hvn;cases hvx;refine ⟨.pointer (some ⟨b,j*k'+0,none⟩),?_,.ep ..⟩;have h0:(0:Int)≤j∧(j:Int)<n:=by omega
     simp [execOp,hop,hxv,hnv,Instr.indexAt,asIntOf,run_underlying (Qgv hel),Qcy hk',h0,hj,Qbb]
    ·cases h
   ·cases h
  ·cases h
 ·cases h
def fdR (P:Program) (ops:Array Oper) (s:LS) (i:Nat):Option (Nat × Value × Nat × Nat × Nat × Nat × Option Tmp):=
 match opAt ops s i with
 | some o=>
  match o.op with
  | .fieldAddr st x f=>
   match fldP P st f,s.ev x with
   | some (fo,_),.ep q V k j off=>some (q,V,k,j,off,fo,o.dst)
   | _,_=>none
  | _=>none
 | none=>none
theorem Qhd {P:Program} {q k j off fo:Nat} {V:Value} {d:Option Tmp} :
  ∀ (ops:Array Oper) (i:Nat) (s:LS) (K:FS→Prop) (rest:List Nat),fdR P ops s i=some (q,V,k,j,off,fo,d)→(∀ a:Unit,SeqR P ops K rest (s.put d (.ep q V k j (off+fo))).fs)→SeqR P ops K (i :: rest) s.fs:=by
 intro ops i s K rest h kk;unfold fdR at h
 split at h
 ·rename_i o ho;obtain ⟨hi,hg⟩:=Qbl ho
  split at h
  ·rename_i st y f hop
   split at h
   ·rename_i fo' ty q' V' k' j' off' hf hy;simp only [W0k,W0s] at h;obtain ⟨rfl,rfl,rfl,rfl,rfl,rfl,rfl⟩:=h;refine ⟨o,hi,.inr ⟨hg,.inl ⟨_,.inl fun D w ρ hops=>?_,by rw [LS.fs_put];exact kk ()⟩⟩⟩;have hv:=Qa2 hops y (by simp [hop,Op.operands]);rw [hy] at hv;unfold fldP at hf
    split at hf
    ·rename_i fs hu
     split at hf
     ·rename_i fd hfd
      split at hf
      ·rename_i n hn;have hoff:fd.offset=fo':=(Prod.mk.inj (W0c hf)).1;subst hoff;have hrun:∀ b o,(Instr.fieldAt st (.pointer (some ⟨b,o,none⟩)) f).run P w=.ok (.pointer (some ⟨b,o+fd.offset,none⟩)) w:=fun b o=>by
        simp [Instr.fieldAt,run_underlying hu,hfd,Instr.sureAddr,fieldPlace,Qcy hn,Qbb]
       generalize hvv:ρ y=v at hv;cases hv;refine ⟨_,?_,.ep _ _ _ _ _ _ _⟩;simp [execOp,hop,hvv,hrun,Nat.add_assoc]
      ·cases hf
     ·cases hf
    ·cases hf
   ·cases h
  ·cases h
 ·cases h
theorem Zbq {D:Nat→Prop} {w:World} {b n cap:Nat} {e:TypeId} {k:Nat} {xs:List (List AV)} (h:BoxR D w (.row (.slice (some ⟨b,0,none⟩) n cap) e k xs)) {j:Nat} {cs:List AV} (he:xs[j]?=some cs):Qfc D w b (j*k) cs:=by
 obtain ⟨hk,us,hown,hus,hru⟩:=h;intro p x hx;have hf:=Qqj hk j cs p x he hx;have hl:j*k+p<us.length:=by rw [hown.1,← Qho hk];exact (W0i.1 hf).1
 have hu:=W0d hl;rcases hown.2 with ⟨hV,_⟩ | ⟨g,cap',cur,hV,_⟩
 ·cases hV
 ·have hb:=hown.cells (g:=b) rfl _ _ hu;rw [Qbb,Nat.zero_add] at hb;exact ⟨_,hb,hus _ (W0h hu),hru _ x _ hf hu⟩
def ldR (P:Program) (ops:Array Oper) (s:LS) (i:Nat):Option (Value × Nat × Nat × Nat × Value × Nat × List (List AV) × TypeId × Option Tmp):=
 match opAt ops s i with
 | some o=>
  match o.op with
  | .load t a=>
   match s.ev a with
   | .ep q V k j off=>
    match bget s.bx q with
    | some (.row V' e k' xs)=>some (V,k,j,off,V',k',xs,t,o.dst)
    | _=>none
   | _=>none
  | _=>none
 | none=>none
theorem Qpn {P:Program} {k j off:Nat} {V:Value} {xs:List (List AV)} {t:TypeId} {d:Option Tmp} (ec:List AV) {x:AV} (he:xs[j]?=some ec) (hx:Qny P t (ec.drop off)=some x) :
  ∀ (ops:Array Oper) (i:Nat) (s:LS) (K:FS→Prop) (rest:List Nat),ldR P ops s i=some (V,k,j,off,V,k,xs,t,d)→(∀ a:Unit,SeqR P ops K rest (s.put d x).fs)→SeqR P ops K (i :: rest) s.fs:=by
 intro ops i s K rest h kk;unfold ldR at h
 split at h
 ·rename_i o ho;obtain ⟨hi,hg⟩:=Qbl ho
  split at h
  ·rename_i t' a hop
   split at h
   ·rename_i q V' k' j' off' ha
    split at h
    ·rename_i V2 e k2 xs' hb;simp only [W0k,W0s] at h;obtain ⟨rfl,rfl,rfl,rfl,rfl,rfl,rfl,rfl,rfl⟩:=h;refine ⟨o,hi,.inr ⟨hg,.inl ⟨x,.inr ⟨by rw [hop];rfl,fun D w ρ hops hbx=>?_⟩,by rw [LS.fs_put];exact kk ()⟩⟩⟩;have hv:=Qa2 hops a (by simp [hop,Op.operands]);rw [ha] at hv;generalize hvv:ρ a=v at hv;have hbq:=hbx q _ hb;cases hv with
     | ep id b n cap k i off=>
      have hc:=(Zbq hbq he).drop off';obtain ⟨v,h1,h2⟩:=Qmr (P:=P) hc hx;exact ⟨v,by simp [execOp,hop,hvv,Instr.loadAt,Instr.sureAddr,h1],h2⟩
    ·cases h
   ·cases h
  ·cases h
 ·cases h
theorem Qjo {P:Program} {ops:Array Oper} {s:LS} {i:Nat} {f:FuncId} {args:List AV} {d:Option Tmp} (h:Qk5 ops s i=some (f,args,d)) :
  ∃ o,ops[i]?=some o∧gd ops s.fs o=some true∧isRd P o.op=false∧o.dst=d∧∀ (D:Nat→Prop) (w:World) (ρ:Operand→Value),opsR D w s.fs ρ o→∃ vs,(execOp ρ o).run P w=(callFunc f vs).run P w∧Qc8 D w args vs:=by
 unfold Qk5 at h
 split at h
 ·rename_i o ho;obtain ⟨hi,hg⟩:=Qbl ho
  split at h
  ·rename_i c hop
   split at h
   ·rename_i fo hc;have hrd:isRd P o.op=false:=by
     obtain ⟨callee,cargs,cts⟩:=c;simp only at hc;subst hc;rw [hop];rfl
    split at h
    ·rename_i g' hfv;simp only [W0k,W0s] at h;obtain ⟨rfl,rfl,hd⟩:=h;refine ⟨o,hi,hg,hrd,hd,fun D w ρ hops=>⟨c.args.map ρ,?_,Qkf hop hops⟩⟩;have hvf:=Qa2 hops fo (by simp [hop,Op.operands,Call.operands,hc]);rw [hfv] at hvf;generalize hfv':ρ fo=vf at hvf;cases hvf;simp [execOp,hop,resolve,hc,hfv',Deferred.ofValue,invoke]
    ·rename_i g' caps hfv;simp only [W0k,W0s] at h;obtain ⟨rfl,rfl,hd⟩:=h;refine ⟨o,hi,hg,hrd,hd,fun D w ρ hops=>?_⟩;have hvf:=Qa2 hops fo (by simp [hop,Op.operands,Call.operands,hc]);rw [hfv] at hvf;generalize hfv':ρ fo=vf at hvf;cases hvf with
     | clo g caps vs h1 h2=>
      obtain ⟨a1,a2⟩:=Qkf hop hops;refine ⟨c.args.map ρ++vs,by simp [execOp,hop,resolve,hc,hfv',Deferred.ofValue,invoke],by simp;omega,fun j x v hx hv=>?_⟩;by_cases hj:j<(c.args.map ρ).size
      ·rw [W2b hj] at hv;rw [W0o (by omega)] at hx;exact a2 j x v hx hv
      ·rw [Array.getElem?_append_right (by omega)] at hv;rw [W0n (by omega),a1] at hx;exact h2 _ x v hx hv
    ·cases h
   ·cases h
  ·cases h
 ·cases h
def Qwm:AV→Bool
 | .val _=>true
 | .tup l=>l.all fun x=>match x with | .val _=>true | _=>false
 | _=>false
theorem Zhf {D D':Nat→Prop} {w w':World} {x:AV} {v:Value} (hp:Qwm x=true) (h:Ra D w x v):Ra D' w' x v:=by
 cases h with
 | val v=>exact .val v
 | tup l vs h1 h2=>
  refine .tup l vs h1 fun j x v hx hv=>?_;simp only [Qwm,W1z] at hp;have h3:=hp x (W0h hx);have h4:=h2 j x v hx hv;cases h4 with
  | val v=>exact .val v
  | _=>simp at h3
 | _=>simp [Qwm] at hp
def cbR (P:Program) (q:Nat) (ops:Array Oper) (s:LS) (i:Nat):Option ((FuncId × List AV × Option Tmp) × (Value × TypeId × Nat × List (List AV))):=
 match Qk5 ops s i,rowR q s with
 | some (f,args,d),some r=>bif entB P f then some ((f,args,d),r) else none
 | _,_=>none
theorem Qpo {P:Program} {q:Nat} {f:FuncId} {args args':List AV} {d:Option Tmp} {V:Value} {e:TypeId} {k:Nat} {xs:List (List AV)} {r:AV} (hs:Qq5 (.row V e k xs) args args') (hsp:Qag P f args' r) (hp:Qwm r=true) :
  ∀ (ops:Array Oper) (i:Nat) (s:LS) (K:FS→Prop) (rest:List Nat),cbR P q ops s i=some ((f,args,d),(V,e,k,xs))→(∀ a:Unit,SeqR P ops K rest (s.put d r).fs)→SeqR P ops K (i :: rest) s.fs:=by
 intro ops i s K rest h kk;unfold cbR at h
 split at h
 ·rename_i f' args0 d' r' hc hr;cases he:entB P f' with
  | false=>rw [he] at h;cases h
  | true=>
   rw [he] at h;simp only [cond_true,W0k,W0s] at h;obtain ⟨⟨rfl,rfl,rfl⟩,rfl⟩:=h;obtain ⟨o,hi,hg,hrd,hd,hrun⟩:=Qjo (P:=P) hc;have hb:=Zbs hr;refine ⟨o,hi,.inr ⟨hg,.inr (.inl ⟨hrd,fun x nb=>x=r∧nb=none,?_,?_⟩)⟩⟩
   ·intro D w a Q K' hD hops hbx hcont;obtain ⟨hl,hsa⟩:=hs.ok;obtain ⟨vs,h1,h2⟩:=hrun D w a.eval hops;have hbq:=hbx q _ hb;have hra:Qc8 (fun b=>D b∨(Bx.row V e k xs).blk=some b) w args' vs:=by
     refine ⟨by rw [← hl];exact h2.1,fun j x v hx hv=>?_⟩;have hj:j<args0.length:=by have:=(W0i.1 hx).1;omega
     exact hsa j args0[j] x (W0d hj) hx D w v hD hbq (h2.2 j args0[j] v (W0d hj) hv)
    unfold Oper.wp;rw [h1,Qib he,Oper.upon_enter];refine (hsp _ w _ (fun b hb'=>hb'.elim (hD b) (fun e=>hbq.lt e)) hra).mono ?_;rintro e' w' ⟨v,D',rfl,g1,g2,g3,g4⟩;exact hcont v w' r none D ⟨rfl,rfl⟩ g1 (fun _ h=>h) (fun b hb'=>⟨W08 (hD b hb') g1.size,.inl hb'⟩) (Zhf hp g4) (fun id y h=>by cases h)
   ·rintro x nb ⟨rfl,rfl⟩;refine ⟨fun id y h=>(by cases h),?_⟩;simp only [FS.addB];rw [LS.fs_put,hd];exact kk ()
 ·cases h
def crR (P:Program) (q:Nat) (ops:Array Oper) (s:LS) (i:Nat):Option (FuncId × List AV × Nat):=
 match Qk5 ops s i,bget s.bx q with
 | some (f,args,some d),none=>bif entB P f then some (f,args,d) else none
 | _,_=>none
theorem Qgh {P:Program} {q:Nat} {f:FuncId} {args args':List AV} {d e k:Nat} {xs:List (List AV)} (hs:Qc0 args args') (hsp:Qd3 P f args' e k xs) :
  ∀ (ops:Array Oper) (i:Nat) (s:LS) (K:FS→Prop) (rest:List Nat),crR P q ops s i=some (f,args,d)→(∀ V:Value,SeqR P ops K rest ((s.put (some d) (.rw q V xs.length)).setB q (.row V e k xs)).fs)→SeqR P ops K (i :: rest) s.fs:=by
 intro ops i s K rest h kk;unfold crR at h
 split at h
 ·rename_i f' args0 d' hc hn;cases he:entB P f' with
  | false=>rw [he] at h;cases h
  | true=>
   rw [he] at h;simp only [cond_true,W0k,W0s] at h;obtain ⟨rfl,rfl,rfl⟩:=h;obtain ⟨o,hi,hg,hrd,hd,hrun⟩:=Qjo (P:=P) hc;refine ⟨o,hi,.inr ⟨hg,.inr (.inl ⟨hrd,fun z nb=>∃ V,z=.rw q V xs.length∧nb=some (q,.row V e k xs),?_,?_⟩)⟩⟩
   ·intro D w a Q K' hD hops hbx hcont;obtain ⟨hl,hsa⟩:=hs.ok;obtain ⟨vs,h1,h2⟩:=hrun D w a.eval hops;have hra:Qc8 D w args' vs:=by
     refine ⟨by rw [← hl];exact h2.1,fun j x v hx hv=>?_⟩;have hj:j<args0.length:=by have:=(W0i.1 hx).1;omega
     exact hsa j args0[j] x (W0d hj) hx D w v (h2.2 j args0[j] v (W0d hj) hv)
    unfold Oper.wp;rw [h1,Qib he,Oper.upon_enter];refine (hsp D w _ hD hra).mono ?_;rintro r w' ⟨V,us,D',rfl,hb,hD1,hD2,hown,hnot,hkx,hus,hru⟩;have hown0:w'.ownsRow 0 e k V xs.length us:=by
     refine ⟨hown.1,?_⟩;rcases hown.2 with h' | ⟨g,cap,cur,rfl,hg,r⟩
     ·exact .inl h'
     ·exact .inr ⟨g,cap,cur,rfl,W0j _,r⟩
    obtain ⟨A,cc,hV,_⟩:=(Sl.of_owns hown).shape;refine hcont _ w' _ _ D' ⟨V,rfl,rfl⟩ hb hD1 hD2 (by rw [hV];exact .rw q _ cc A) (fun id y hy=>?_);obtain ⟨rfl,rfl⟩:=by simpa using hy
    exact ⟨fun g hg'=>⟨(Qe7 hown g hg').1,hnot g hg'⟩,hkx,us,hown0,hus,hru⟩
   ·rintro z nb ⟨V',rfl,rfl⟩;refine ⟨fun id y hy=>?_,?_⟩
    ·obtain ⟨rfl,rfl⟩:=by simpa using hy
     exact hn
    ·have:=kk V';rw [← LS.fs_setB,← LS.fs_put] at this;rw [hd];exact this
 ·cases h
def Qq4 (P:Program) (f:FuncId) (args:List AV) (y:Bx) (r:AV):Prop:=
 ∀ (D:Nat→Prop) (w:World) (vs:Array Value),(∀ b,D b→b<w.heap.size)→Qc8 D w args vs→BoxR D w y→(∀ g,y.blk=some g→¬ D g) →
  Calls P f vs w (fun e w'=>∃ v,∃ D':Nat→Prop,e=.returned v∧Below 0 w w'∧(∀ k,y.blk ≠ some k→k<w.heap.size→w'.heap[k]?=w.heap[k]?)∧(∀ b,D b→D' b) ∧
   (∀ b,D' b→b<w'.heap.size∧(D b∨y.blk=some b∨w.heap.size≤b))∧Ra D' w' r v)
theorem Zhy {P:Program} {f:FuncId} {F:Func} {code:Code} {args:List AV} {q:Nat} {y:Bx} {r:AV} (n:Nat) (ct:Ct P) (hf:P.funcs[f]?=some F) (hb:F.body=some code)
  (hk:(decide (args.length≤F.ntmps)&&(P.follows .mixedOrders&&(F.results.toList.all fun rv=>decide ((match rv with | .tmp t=>t | .cell t _=>t)<F.ntmps))))=true)
  (h:vcC ct=vc P F (.val r) n ct (.code code) [] ⟨Qdc args 0,[(q,y)]⟩):Qq4 P f args y r:=by
 simp only [W0r] at hk;have hsz:args.length≤F.ntmps:=of_decide_eq_true hk.1;have hn:=hk.2.2;have hv:vc P F (.val r) n ct (.code code) [] ⟨Qdc args 0,[(q,y)]⟩:=h ▸ Qaw ct;intro D w vs hD hvs hy hyD;refine calls_of_wp hf hb ?_
 let c:Cx:=⟨w.heap.size,w,F.ntmps,D,fun k=>y.blk=some k⟩
 have hawp:AWp c P code (FinG P F (.val r)) (LS.mk (Qdc args 0) [(q,y)]).fs:=Qay (c:=c) rfl hk.2.1 n ct (.code code) [] _ hv;have htm:∀ t,(LS.mk (Qdc args 0) [(q,y)]).fs.tm t=args.getD t .any:=fun t=>by
  show lget (Qdc args 0) t=_;rw [Qfl];simp
 have hbx:∀ i x,(LS.mk (Qdc args 0) [(q,y)]).fs.bx i=some x→i=q∧x=y:=fun i x hx=>by
  have hx':bget [(q,y)] i=some x:=hx;simp only [bget] at hx';cases hb:Nat.beq q i with
  | true=>
   rw [hb] at hx';exact ⟨(W0q hb).symm,(W0c hx').symm⟩
  | false=>rw [hb] at hx';cases hx'
 have hrel:Rel c (LS.mk (Qdc args 0) [(q,y)]).fs { tmps:=vs++Array.replicate (F.ntmps-vs.size) undef,defers:=[] } w:=by
  refine ⟨W0m _,D,rfl,?_,BelowL.refl (c:=c),hD,⟨fun _ h=>h,fun _ h=>.inl h⟩,fun t v hv=>?_,fun id x h=>?_,fun i j x z hx hz hij=>?_⟩
  ·have:=hvs.1;simp [c];omega
  ·rw [htm];by_cases ht:t<vs.size
   ·rw [W2b ht] at hv;have hta:t<args.length:=by rw [hvs.1];exact ht
    have:=hvs.2 t args[t] v (W0d hta) hv;simpa [List.getD,W0d hta] using this
   ·have hta:args.length≤t:=by rw [hvs.1];omega
    have:args.getD t .any=.any:=by simp [List.getD,W1h hta]
    rw [this];exact .any v
  ·obtain ⟨_,rfl⟩:=hbx id x h;exact ⟨fun g hg=>⟨.inr hg,hyD g hg⟩,hy⟩
  ·exact absurd ((hbx i x hx).1.trans (hbx j z hz).1.symm) hij
 refine wp_mono (hawp _ _ hrel) fun e' a' w' ⟨s',hq,hc,D',hR⟩=>?_;obtain ⟨he,hd⟩:=hq;have hn':∀ rv∈F.results.toList,(match rv with | .tmp t=>t | .cell t _=>t)<c.n:=fun rv hrv=>by
  have:=W1z.1 hn rv hrv;simpa using this
 obtain ⟨v,hv1,hrv⟩:=Qfr hR hn' hd;have fin:∃ u,∃ D'':Nat→Prop,Ending.returned v=.returned u∧Below 0 w w'∧(∀ k,y.blk ≠ some k→k<w.heap.size→w'.heap[k]?=w.heap[k]?)∧(∀ b,D b→D'' b) ∧
   (∀ b,D'' b→b<w'.heap.size∧(D b∨y.blk=some b∨w.heap.size≤b))∧Ra D'' w' r u:=
  ⟨v,D',rfl,⟨hR.below.os,hR.below.tape,hR.below.output,hR.below.size,fun k hk=>absurd hk (by omega)⟩,fun k hk hl=>hR.below.block k hl hk,hR.old.1,
   fun b hb=>⟨hR.dlt b hb,(hR.old.2 b hb).imp id fun h=>h.symm⟩,hrv⟩
 rcases he with rfl | rfl
 ·exact ⟨hR.defers,v,hv1,fin⟩
 ·exact ⟨hR.defers,v,hv1,fin⟩
def gone:Bx:=.row (.slice none 0 0) 0 0 []
def lcR (P:Program) (q:Nat) (ops:Array Oper) (s:LS) (i:Nat):Option ((FuncId × List AV × Option Tmp) × Bx):=
 match Qk5 ops s i,bget s.bx q with
 | some (f,args,d),some y=>bif entB P f then some ((f,args,d),y) else none
 | _,_=>none
theorem Zmo (D:Nat→Prop) (w:World):BoxR D w gone:=by
 show BoxR D w (.row (.slice none 0 0) 0 0 []);refine ⟨fun l h=>(by cases h),[],World.ownsRow_nil _ _ _ _,fun u h=>(by cases h),fun j a u h=>(by simp at h)⟩
theorem Qcs {P:Program} {q:Nat} {f:FuncId} {args args':List AV} {d:Option Tmp} {y:Bx} {r:AV} (hs:Qc0 args args') (hsp:Qq4 P f args' y r) :
  ∀ (ops:Array Oper) (i:Nat) (s:LS) (K:FS→Prop),lcR P q ops s i=some ((f,args,d),y)→(∀ a:Unit,K ((s.put d r).setB q gone).fs)→Qtk P ops i s.fs K:=by
 intro ops i s K h kk;unfold lcR at h
 split at h
 ·rename_i f' args0 d' y' hc hr;cases he:entB P f' with
  | false=>rw [he] at h;cases h
  | true=>
   rw [he] at h;simp only [cond_true,W0k,W0s] at h;obtain ⟨⟨rfl,rfl,rfl⟩,rfl⟩:=h;obtain ⟨o,hi,hg,hrd,hd,hrun⟩:=Qjo (P:=P) hc;refine ⟨o,hi,hg,.inl ⟨q,fun x z=>x=r∧z=gone,?_,?_⟩⟩
   ·intro D w a Q K' hD hops hbx hnd hcont;obtain ⟨hl,hsa⟩:=hs.ok;obtain ⟨vs,h1,h2⟩:=hrun D w a.eval hops;have hra:Qc8 D w args' vs:=by
     refine ⟨by rw [← hl];exact h2.1,fun j x v hx hv=>?_⟩;have hj:j<args0.length:=by have:=(W0i.1 hx).1;omega
     exact hsa j args0[j] x (W0d hj) hx D w v (h2.2 j args0[j] v (W0d hj) hv)
    unfold Oper.wp;rw [h1,Qib he,Oper.upon_enter];refine (hsp D w _ hD hra (hbx q _ hr) (fun g hg=>hnd _ g hr hg)).mono ?_;rintro e' w' ⟨v,D',rfl,g1,g2,g3,g4,g5⟩;exact hcont v w' r _ gone D' ⟨rfl,rfl⟩ hr g1 g2 g3 g4 (fun g h=>by cases h) (Zmo D' w') g5
   ·rintro x z ⟨rfl,rfl⟩;rw [hd,LS.fs_put,LS.fs_setB];exact kk ()
 ·cases h
theorem Qi9 {P:Program} {f:FuncId} {F:Func} {code:Code} {args:List AV} {q:Nat} {y:Bx} {r:AV} (hf:P.funcs[f]?=some F) (ct:Ct P) (n:Nat:=400) (hb:F.body=some code:=by rfl)
  (hk:(decide (args.length≤F.ntmps)&&(P.follows .mixedOrders&&(F.results.toList.all fun rv=>decide ((match rv with | .tmp t=>t | .cell t _=>t)<F.ntmps))))=true:=by kernel_rfl)
  (h:vcC ct=vc P F (.val r) n ct (.code code) [] ⟨Qdc args 0,[(q,y)]⟩:=by kernel_rfl):Qq4 P f args y r:=Zhy n ct hf hb hk h
end Go.Proofs.YtkhodpknpligpaaGreat

namespace Copyhold
open Go Go.RowKit
def cutA (A:Option Addr) (c i size:Nat):Option Addr:=if c=i then A else A.map (·.add (i*size))
theorem Zf8 (a:Addr):a.add 0=a:=by unfold Addr.add;simp
theorem Sl.pre {w:World} {k:Nat} {A:Option Addr} {n c:Nat} {xs:List Value} (h:Sl w k (.slice A n c) n xs) (i:Nat) (hi:i≤n):Sl w k (.slice A i c) i (xs.take (i*k)):=by
 obtain ⟨A',c',he,hc,hl,hh⟩:=h;simp only [Value.slice.injEq] at he;obtain ⟨rfl,_,rfl⟩:=he;have hik:i*k≤n*k:=W1d _ hi;refine ⟨A,c,rfl,by omega,by rw [W0g];omega,fun h0=>?_⟩;obtain ⟨b,off,rfl,hb,hcell⟩:=hh (by omega);refine ⟨b,off,rfl,hb,fun j x hx=>hcell j x ?_⟩;rw [W1b] at hx
 split at hx
 ·exact hx
 ·cases hx
theorem Sl.post {w:World} {k:Nat} {A:Option Addr} {n c:Nat} {xs:List Value} (h:Sl w k (.slice A n c) n xs) (i:Nat) (hi:i≤n):Sl w k (.slice (cutA A c i k) (n-i) (c-i)) (n-i) (xs.drop (i*k)):=by
 obtain ⟨A',c',he,hc,hl,hh⟩:=h;simp only [Value.slice.injEq] at he;obtain ⟨rfl,_,rfl⟩:=he;refine ⟨_,_,rfl,by omega,by rw [W0p,hl,Nat.sub_mul],fun h0=>?_⟩;obtain ⟨b,off,rfl,hb,hcell⟩:=hh (by omega);refine ⟨b,off+i*k,?_,hb,fun j x hx=>?_⟩
 ·rw [cutA,W1w (by omega),Option.map_some,Qbb]
 ·rw [Nat.add_assoc];refine hcell _ _ ?_;rw [← hx,W07]
theorem Qzh {P:Program} {t e:TypeId} {z:Value} {size bytes:Nat} (E:Elem P t e z size bytes) (w:World) (base c:Nat) (hb:bytes*c≤281474976710656) (hm:c≤maxLen) (hbase:base≤w.heap.size) :
  ∃ w',(Instr.makeSlice t (.int .i64 0) (.int .i64 (c:Int))).run P w=.ok (.slice (some ⟨w.heap.size,0,none⟩) 0 c) w'∧w'.ownsRow base e size (.slice (some ⟨w.heap.size,0,none⟩) 0 c) 0 []∧w.grownBy w' none:=by
 obtain ⟨ht,hinf,hzs,hsz⟩:=E;obtain ⟨i,hi,hz,hsize,hby⟩:=Qgq hinf;exact run_make_own (P:=P) w base t e i z size ht hi hz hsize .i64 .i64 c (by rw [hby];exact hb) hm hbase
end Copyhold

set_option linter.unusedSimpArgs false
namespace Go.Proofs.YtkhodpknpligpaaGreat
open Go Go.RowKit Copyhold
theorem Qpm {P:Program} {k:Nat} {xs:List (List AV)} {m:Int} {d:Option Tmp} (n:Nat) (hm:m=(n:Int)) (hn:n≤xs.length) :
  ∀ (ops:Array Oper) (i:Nat) (s:LS) (K:FS→Prop) (rest:List Nat),slcO P ops s i=some (.sl k true xs,none,some m,none,d)→(∀ a:Unit,SeqR P ops K rest (s.put d (.pre k xs n)).fs)→SeqR P ops K (i :: rest) s.fs:=by
 intro ops i s K rest h kk;subst hm;obtain ⟨o,t,y,lo,hi,mx,hi2,hg,hop,hx,h1,h2,h3,rfl,hty⟩:=Qtx h;refine ⟨o,hi2,.inr ⟨hg,.inl ⟨.pre k xs n,.inl fun D w ρ hops=>?_,by rw [LS.fs_put];exact kk ()⟩⟩⟩;have hv:=Qa2 hops y (by simp [hop,Op.operands]);rw [← hx] at hv;have m1:=Qf6 hops h1 (fun y e=>by simp [hop,Op.operands,e]);have m2:=Qf6 hops h2 (fun y e=>by simp [hop,Op.operands,e]);have m3:=Qf6 hops h3 (fun y e=>by simp [hop,Op.operands,e]);rcases hty with ⟨k',tt',xs',e,he,hu,hsz⟩ | ⟨bb,he,_⟩
 ·simp only [AV.sl.injEq] at he;obtain ⟨rfl,rfl,rfl⟩:=he;generalize hvv:ρ y=v at hv;obtain ⟨A,c,rfl,hc⟩:∃ A c,v=.slice A xs.length c∧xs.length≤c:=by
   cases hv with
   | sl k t xs A c bk off vs g1 g2 g3 g4 g5 g6=>exact ⟨A,c,rfl,g1⟩
  have hb:=Qhc P w true xs.length c 0 n none (some (n:Int)) none (.inl ⟨rfl,rfl⟩) (.inr rfl) (.inl rfl) (by omega) hn hc;simp only [Option.map_some,Option.map_none] at hb;refine ⟨.slice A n c,?_,.pre k xs n A c hv hn⟩;have hA:(if c=0 then A else A.map (·.add 0))=A:=by
   split
   ·rfl
   ·cases A
    ·rfl
    ·simp [Zf8]
  simp [execOp,hop,hvv,Instr.sliceAt,Instr.slice,run_underlying hu,m1,m2,m3,hb,Qcy hsz,mxN,hA]
 ·cases he
def capO (P:Program) (ops:Array Oper) (s:LS) (i:Nat):Option (Nat × List (List AV) × Option Tmp):=
 match opAt ops s i with
 | some o=>
  match o.op with
  | .call c=>
   match c.callee,c.args.toList,c.argTypes.toList with
   | .builtin .cap,[x],[t]=>
    match s.ev x,P.underlying t with
    | .sl k true xs,some (.slice e)=>some (k,xs,o.dst)
    | _,_=>none
   | _,_,_=>none
  | _=>none
 | none=>none
theorem Qpp {P:Program} {k:Nat} {xs:List (List AV)} {d:Option Tmp} :
  ∀ (ops:Array Oper) (i:Nat) (s:LS) (K:FS→Prop) (rest:List Nat),capO P ops s i=some (k,xs,d)→(∀ a:Unit,SeqR P ops K rest (s.put d (aI (xs.length:Int))).fs)→SeqR P ops K (i :: rest) s.fs:=by
 intro ops i s K rest h kk;unfold capO at h
 split at h
 ·rename_i o ho;obtain ⟨hi,hg⟩:=Qbl ho
  split at h
  ·rename_i c hop
   split at h
   ·rename_i x t hc ha ht
    split at h
    ·rename_i k' xs' e hx hu;simp only [W0k,W0s] at h;obtain ⟨rfl,rfl,rfl⟩:=h;refine ⟨o,hi,.inr ⟨hg,.inl ⟨_,.inl fun D w ρ hops=>?_,by rw [LS.fs_put];exact kk ()⟩⟩⟩;obtain ⟨callee,args,cts⟩:=c;simp only at hc ha ht;subst hc;have ha':args=#[x]:=by have:=W1y List.toArray ha;simpa using this
     have ht':cts=#[t]:=by have:=W1y List.toArray ht;simpa using this
     subst ha' ht';have hv:=Qa2 hops x (by simp [hop,Op.operands,Call.operands]);rw [hx] at hv;generalize hvv:ρ x=v at hv;cases hv with
     | sl k t xs A c b off vs g1 g2 g3 g4 g5 g6=>
      have hc:=g2 rfl;subst hc;exact ⟨goInt xs'.length,by simp [execOp,hop,resolve,invoke,builtin,hvv,Builtin.cap_,run_underlying hu],.val _⟩
    ·cases h
   ·cases h
  ·cases h
 ·cases h
def rsO (P:Program) (ops:Array Oper) (s:LS) (i:Nat):Option (Nat × Value × Nat × Nat × Int × Option Tmp):=
 match opAt ops s i with
 | some o=>
  match o.op with
  | .slice t x (some lo) none none=>
   match s.ev x,s.ev lo,P.underlying t with
   | .rw q V m0,.val (.int .i64 m),some (.slice e)=>
    match szP P e with
    | some k=>some (q,V,m0,k,m,o.dst)
    | none=>none
   | _,_,_=>none
  | _=>none
 | none=>none
theorem Qjx {P:Program} {q b n cap m0 k:Nat} {V:Value} {m:Int} {d:Option Tmp} (lo:Nat) (hV:V=.slice (some ⟨b,0,none⟩) n cap) (hm:m=(lo:Int)) (hlo:lo<n) (hnc:n≤cap) :
  ∀ (ops:Array Oper) (i:Nat) (s:LS) (K:FS→Prop) (rest:List Nat),rsO P ops s i=some (q,V,m0,k,m,d)→(∀ a:Unit,SeqR P ops K rest (s.put d (.rs q V k lo)).fs)→SeqR P ops K (i :: rest) s.fs:=by
 intro ops i s K rest h kk;unfold rsO at h
 split at h
 ·rename_i o ho;obtain ⟨hi,hg⟩:=Qbl ho
  split at h
  ·rename_i t x l hop
   split at h
   ·rename_i q' V' m0' m' e hx hl hu
    split at h
    ·rename_i k' hk;simp only [W0k,W0s] at h;obtain ⟨rfl,rfl,rfl,rfl,rfl,rfl⟩:=h;subst hV hm;refine ⟨o,hi,.inr ⟨hg,.inl ⟨_,.inl fun D w ρ hops=>?_,by rw [LS.fs_put];exact kk ()⟩⟩⟩;have hvx:=Qa2 hops x (by simp [hop,Op.operands]);have hvl:=Qa2 hops l (by simp [hop,Op.operands]);rw [hx] at hvx;rw [hl] at hvl;generalize hxv:ρ x=vx at hvx;generalize hlv:ρ l=vl at hvl;cases hvl;cases hvx;have hb:=Qhc P w true n cap lo n (some (lo:Int)) none none (.inr rfl) (.inl ⟨rfl,rfl⟩) (.inl rfl) (by omega) (W0m _) hnc;simp only [Option.map_some,Option.map_none] at hb;refine ⟨.slice (some ⟨b,lo*k',none⟩) (n-lo) (cap-lo),?_,.rs _ _ _ _ _ _ hlo⟩;have hne:¬ cap=lo:=by omega
     simp [execOp,hop,hxv,hlv,Instr.sliceAt,Instr.slice,run_underlying hu,hb,Qcy hk,mxN,hne,Qbb]
    ·cases h
   ·cases h
  ·cases h
 ·cases h
end Go.Proofs.YtkhodpknpligpaaGreat

namespace Copyhold
open Go Go.RowKit
abbrev Zjw:=Value × Nat × List Value
def Cats (w:World) (k:Nat) (v:Value) (ss:List Zjw):Prop:=
 Sl w 1 v ss.length (ss.map (·.1))∧∀ s∈ss,Sl w k s.1 s.2.1 s.2.2∧∀ u∈s.2.2,u.oneCell'=true
theorem Cats.below {w w':World} {k:Nat} {v:Value} {ss:List Zjw} (h:Cats w k v ss) (hb:Below w.heap.size w w'):Cats w' k v ss:=
 ⟨h.1.below hb,fun s hs=>⟨(h.2 s hs).1.below hb,(h.2 s hs).2⟩⟩
structure SlIs (w:World) (k:Nat) (A:Option Addr) (n c:Nat) (p:Zjw):Prop where
 n_is:p.2.1=n
 sl:Sl w k (.slice A n c) n p.2.2
theorem Cats.at {w:World} {k:Nat} {A:Option Addr} {c:Nat} {ss:List Zjw} (h:Cats w k (.slice A ss.length c) ss) (i:Nat) (hi:i<ss.length) :
  ∃ b off A' n' c',A=some ⟨b,off,none⟩∧b<w.heap.size∧w.cell? ⟨b,off+i,none⟩=some (.slice A' n' c')∧SlIs w k A' n' c' ss[i]∧∀ u∈ss[i].2.2,u.oneCell'=true:=by
 obtain ⟨h1,h2⟩:=h;obtain ⟨b,off,rfl,hb,_,_,hcell⟩:=h1.at (by omega);obtain ⟨g1,g2⟩:=h2 ss[i] (W1m _);obtain ⟨A',c',e,_,_⟩:=g1.shape;refine ⟨b,off,A',ss[i].2.1,c',rfl,hb,?_,⟨rfl,by rw [← e];exact g1⟩,g2⟩;rw [← e];exact hcell i _ (by rw [W0v,W0d hi];rfl)
def Qpe (w:World) (t:TypeId) (k n:Nat) (xs:List Value) (e:Ending) (w':World):Prop:=∃ v,e=.returned v∧w'.ownsRow w.heap.size t k v n xs∧Below w.heap.size w w'
theorem Qb7 {P:Program} {w:World} {ops:Array Oper} {rest:List Oper} {o:Oper} {a:Act} {Q:Exit→Act→World→Prop} (hgd:o.guard=none) (s x:Operand) (t t2:TypeId)
  (ho:o.op=.call { callee:=.builtin .append,args:=#[s,x],argTypes:=#[t,t2] }) (v v2 v':Value) (w':World) (hs:a.eval s=v) (hx:a.eval x=v2)
  (hrun:(Builtin.append_ #[t,t2] o.type #[v,v2]).run P w=.ok v' w') (h:wpList P ops Q rest (a.put o.dst v') w'):wpList P ops Q (o :: rest) a w:=
 wpList_plain hgd fun K hK=>by
  unfold Oper.wp;simp [execOp,ho,resolve,invoke,builtin,hs,hx,hrun,Result.andThen];exact hK _ _ h
theorem Qge {P:Program} {t tn e:TypeId} {z:Value} {size bytes:Nat} (E:Elem P t e z size bytes) (htn:P.underlying tn=some (.int .i64)) (n:Nat) (h0:0<n) (hn:n*bytes≤140737488355328) (hn2:n≤1000000000) (w:World) :
  ∃ G w',(∀ ty,(Builtin.append_ #[t,tn] ty #[.slice none 0 0,.int .i64 (n:Int)]).run P w=.ok (.slice (some ⟨w.heap.size,0,none⟩) n G) w')∧n≤G∧G≤9223372036854775807∧w'.ownsRow w.heap.size e size (.slice (some ⟨w.heap.size,0,none⟩) 0 G) 0 []∧Below w.heap.size w w':=by
 obtain ⟨ht,hinf,hzs,hsz⟩:=E;obtain ⟨i,hi,hz,hsize,hby⟩:=Qgq hinf;have hold:(Builtin.firstCells i.size 0 (.slice none 0 0)).run P w.drew=.ok ([]:List Value).toArray w.drew:=run_firstCells_none w.drew i.size 0 0 0;have hG:=grownCap_ge w (0+n) 0 e;have hG2:=grownCap_le_maxLen w (0+n) 0 e (by unfold maxLen;omega);have hrun:∀ ty,_:=fun ty=>Lib.run_append_grow_zeros w t tn ty e i z .i64 .i64 ht htn hi hz none 0 0 [] hold n (by omega) (by omega) (by omega) (by omega) (by rw [hby];omega) (growslice_fits (by omega) (by rw [hby,Nat.zero_add];omega));refine ⟨grownCap w (0+n) 0 e,w.drew.alloc (.cells (([]:List Value).toArray++Builtin.zeroCells z.cells n++Builtin.zeroCells z.cells (grownCap w (0+n) 0 e-(0+n))) e),?_,by omega,by unfold maxLen at hG2;omega,?_,?_⟩
 ·intro ty;have:=hrun ty;rw [show Value.slice (some ⟨w.heap.size,0,none⟩) (0+n) (grownCap w (0+n) 0 e)=Value.slice (some ⟨w.heap.size,0,none⟩) n (grownCap w (0+n) 0 e) from by rw [Nat.zero_add]] at this;exact this
 ·refine World.ownsRow_made w.drew _ _ (W0m _) hG2 ?_;have hzc:∀ m,(Builtin.zeroCells z.cells m).size=m*size:=fun m=>by simp [Builtin.zeroCells,hzs]
  simp only [Array.size_append,hzc,W2h,W0f];rw [Nat.zero_add,← Nat.add_mul];congr 1;omega
 ·exact (Qhv (Below.refl _ _) 1).alloc (W0m _) _
end Copyhold

namespace Go.Proofs.YtkhodpknpligpaaGreat
open Go Go.RowKit Copyhold
def PW (D:Nat→Prop) (w:World) (ws:List AV) (us:List Value):Prop:=∀ (j:Nat) (a:AV) (u:Value),ws[j]?=some a→us[j]?=some u→Ra D w a u
theorem PW.append {D:Nat→Prop} {w:World} {ws bs:List AV} {us vs:List Value} (hl:ws.length=us.length) (h:PW D w ws us) (k:PW D w bs vs):PW D w (ws++bs) (us++vs):=fun j a u ha hu=>by
 by_cases hj:j<ws.length
 ·rw [W0o hj] at ha;rw [W0o (by omega)] at hu;exact h j a u ha hu
 ·rw [W0n (by omega)] at ha;rw [W0n (by omega),← hl] at hu;exact k _ a u ha hu
theorem PW.take {D:Nat→Prop} {w:World} {ws:List AV} {us:List Value} (h:PW D w ws us) (n:Nat):PW D w (ws.take n) (us.take n):=fun j a u ha hu=>by
 rw [W1b] at ha hu
 split at ha
 ·rename_i hj;rw [W1x hj] at hu;exact h j a u ha hu
 ·cases ha
theorem PW.drop {D:Nat→Prop} {w:World} {ws:List AV} {us:List Value} (h:PW D w ws us) (n:Nat):PW D w (ws.drop n) (us.drop n):=fun j a u ha hu=>by
 rw [W07] at ha hu;exact h _ a u ha hu
theorem Zgq {α:Type} (L vs:List α) (a N:Nat) (h:a+vs.length≤N) (hN:N≤L.length):(L.take a++vs++L.drop (a+vs.length)).take N=(L.take N).take a++vs++(L.take N).drop (a+vs.length):=by
 have e1:(L.take N).take a=L.take a:=by rw [List.take_take,Nat.min_eq_left (by omega)]
 rw [e1,List.take_append,W1a (by simp;omega)];congr 1;rw [List.drop_take];congr 1;simp;omega
theorem Zbp {P:Program} {D:Nat→Prop} {w:World} {b n cap:Nat} {e:TypeId} {k:Nat} {xs xs':List (List AV)} (h:BoxR D w (.row (.slice (some ⟨b,0,none⟩) n cap) e k xs)) (hnD:¬ D b) {cs:List AV} {vs:List Value} (p:Nat)
  (hl:cs.length=vs.length) (h1:∀ u∈vs,u.oneCell'=true) (hv:PW D w cs vs) (hp:p+cs.length≤xs.length*k) (hk':∀ l∈xs',l.length=k) (hn':xs'.length=xs.length)
  (hf:xs'.flatten=xs.flatten.take p++cs++xs.flatten.drop (p+cs.length)) :
  ∃ w',(storeCells ⟨b,p,none⟩ vs).run P w=.ok () w'∧BoxR D w' (.row (.slice (some ⟨b,0,none⟩) n cap) e k xs')∧Below 0 w w'∧(∀ g,g ≠ b→w'.heap[g]?=w.heap[g]?):=by
 obtain ⟨hk,us,hown,hus,hru⟩:=h;rcases hown.2 with ⟨hV,_⟩ | ⟨g,cap',cur,hV,hb,hgg,hnc,hmx,hsz,htake⟩
 ·cases hV
 ·simp only [Value.slice.injEq,W0k,Addr.mk.injEq] at hV;obtain ⟨⟨rfl,_⟩,rfl,rfl⟩:=hV;have hle:xs.length*k≤cap*k:=W1d _ hnc;have hst:=run_storeCells_at P b p e vs 0 cur w hgg (by omega) h1;simp only [Nat.add_zero] at hst;have hlen:us.length=xs.flatten.length:=by rw [hown.1,Qho hk]
  have hfl:xs.flatten.length=xs.length*k:=Qho hk;have hheap:=setRow_heap w b cur (cur.toList.take p++vs++cur.toList.drop (p+vs.length)).toArray e (0,0) hgg;have hoth:∀ g,g ≠ b→(w.setRow b (cur.toList.take p++vs++cur.toList.drop (p+vs.length)).toArray).heap[g]?=w.heap[g]?:=fun g hg=>setRow_other _ _ _ _ hg;have hsize:(w.setRow b (cur.toList.take p++vs++cur.toList.drop (p+vs.length)).toArray).heap.size=w.heap.size:=by simp
  generalize hw':w.setRow b (cur.toList.take p++vs++cur.toList.drop (p+vs.length)).toArray=w' at hst hheap hoth hsize;have hos:Below 0 w w':=⟨by rw [← hw'];rfl,by rw [← hw'];rfl,by rw [← hw'];rfl,by omega,fun k hk=>by omega⟩
  have hfr:∀ a u,Ra D w a u→Ra D w' a u:=fun a u hu=>hu.frame (fun _ h=>h) (by omega) (fun g hd hl=>hoth g (fun e=>hnD (e ▸ hd)));refine ⟨w',hst,⟨hk',us.take p++vs++us.drop (p+vs.length),?_,fun u hu=>?_,?_⟩,hos,hoth⟩
  ·refine ⟨by rw [hn'];simp only [W0e,W0g,W0p,Array.length_toList,W2h];omega,.inr ⟨b,cap,_,by rw [hn'],W0j _,hheap,by rw [hn'];exact hnc,hmx,by simp only [W0e,W0g,W0p,Array.length_toList,W2h];omega,?_⟩⟩;rw [hn',List.toList_toArray,Zgq _ _ _ _ (by omega) (by simp only [Array.length_toList];omega),htake]
  ·rcases W04.1 hu with hu | hu
   ·rcases W04.1 hu with hu | hu
    ·exact hus u (W13 hu)
    ·exact h1 u hu
   ·exact hus u (W2d hu)
  ·have hP:PW D w xs'.flatten (us.take p++vs++us.drop (p+vs.length)):=by
    rw [hf,← hl];exact PW.append (by simp only [W0e,W0g,W0p,Array.length_toList,W2h];omega) (PW.append (by simp only [W0e,W0g,W0p,Array.length_toList,W2h];omega) (PW.take hru p) hv) (PW.drop hru _)
   exact fun j a u ha hu=>hfr a u (hP j a u ha hu)
theorem Qjf {α:Type} {k:Nat}:∀ {xs:List (List α)} (n:Nat),(∀ l∈xs,l.length=k)→(xs.take n).flatten=xs.flatten.take (n*k)
 | [],n,_=>by simp
 | x :: r,0,_=>by simp
 | x :: r,n+1,h=>by
  have hx:=h x (List.mem_cons_self ..);have ih:=Qjf (xs:=r) n fun l hl=>h l (W11 _ hl);have e:(n+1)*k=x.length+n*k:=by rw [Nat.add_mul,hx];omega
  rw [List.take_succ_cons,W1f,W1f,ih,e,List.take_length_add_append]
theorem Qm8 {α:Type} {k:Nat}:∀ {xs:List (List α)} (n:Nat),(∀ l∈xs,l.length=k)→(xs.drop n).flatten=xs.flatten.drop (n*k)
 | [],n,_=>by simp
 | x :: r,0,_=>by simp
 | x :: r,n+1,h=>by
  have hx:=h x (List.mem_cons_self ..);have ih:=Qm8 (xs:=r) n fun l hl=>h l (W11 _ hl);have e:(n+1)*k=x.length+n*k:=by rw [Nat.add_mul,hx];omega
  rw [List.drop_succ_cons,W1f,ih,e,List.drop_length_add_append]
theorem Qgu {α:Type} {k:Nat}:∀ {xs:List (List α)},(∀ l∈xs,l.length=k)→xs.flatten.length=xs.length*k
 | [],_=>by simp
 | x :: r,h=>by
  rw [W1f,W0e,Qgu fun l hl=>h l (W11 _ hl),h x (List.mem_cons_self ..),W0b,Nat.add_mul];omega
theorem Zig {α:Type} {k j off:Nat} {xs:List (List α)} {ec cs:List α} (h:∀ l∈xs,l.length=k) (he:xs[j]?=some ec) (hf:off+cs.length≤ec.length) :
  (xs.set j (ec.take off++cs++ec.drop (off+cs.length))).flatten=xs.flatten.take (j*k+off)++cs++xs.flatten.drop (j*k+off+cs.length):=by
 obtain ⟨hj,rfl⟩:=W0i.1 he;have hx:xs[j].length=k:=h _ (W1m hj);have h1:=Qjf j h;have h2:=Qm8 (j+1) h;have e0:xs=xs.take j++xs[j] :: xs.drop (j+1):=by rw [← List.drop_eq_getElem_cons hj,W1g]
 have hl1:(xs.take j).flatten.length=j*k:=by
  have hle:j*k≤xs.length*k:=W1d _ (by omega);have:=Qgu h;rw [h1,W0g];omega
 have e1:xs.flatten=(xs.take j).flatten++(xs[j]++(xs.drop (j+1)).flatten):=by
  conv=>lhs;rw [e0]
  rw [W19,W1f]
 rw [List.set_eq_take_append_cons_drop,W1x hj,W19,W1f,e1];generalize (xs.take j).flatten=A at *;generalize (xs.drop (j+1)).flatten=B at *;generalize xs[j]=ec at *;rw [← hl1,List.take_length_add_append,Nat.add_assoc,List.drop_length_add_append,List.take_append_of_le_length (by omega),List.drop_append_of_le_length (by omega)];simp only [W1u]
theorem Zld {α:Type} {k j off:Nat} {xs:List (List α)} {ec cs:List α} (h:∀ l∈xs,l.length=k) (he:xs[j]?=some ec) (hf:off+cs.length≤ec.length):∀ l∈xs.set j (ec.take off++cs++ec.drop (off+cs.length)),l.length=k:=fun l hl=>by
 rcases List.mem_or_eq_of_mem_set hl with hl | rfl
 ·exact h l hl
 ·have:=h ec (W0h he);simp;omega
def stR (P:Program) (ops:Array Oper) (s:LS) (i:Nat):Option (Nat × Value × Nat × Nat × Nat × Value × TypeId × Nat × List (List AV) × List AV × Option Tmp):=
 match opAt ops s i with
 | some o=>
  match o.op with
  | .store t a x=>
   match s.ev a,Qds (s.ev x),szP P t with
   | .ep q V k j off,some cs,some n=>
    match bget s.bx q with
    | some (.row V' e k' xs)=>bif Nat.beq cs.length n then some (q,V,k,j,off,V',e,k',xs,cs,o.dst) else none
    | _=>none
   | _,_,_=>none
  | _=>none
 | none=>none
theorem Qlb {P:Program} {q k j off:Nat} {V:Value} {e:TypeId} {xs:List (List AV)} {cs:List AV} {d:Option Tmp} (ec:List AV) (he:xs[j]?=some ec) (hf:off+cs.length≤ec.length) :
  ∀ (ops:Array Oper) (i:Nat) (s:LS) (K:FS→Prop) (rest:List Nat),stR P ops s i=some (q,V,k,j,off,V,e,k,xs,cs,d)→(∀ a:Unit,SeqR P ops K rest ((s.put d .any).setB q (.row V e k (xs.set j (ec.take off++cs++ec.drop (off+cs.length))))).fs)→SeqR P ops K (i :: rest) s.fs:=by
 intro ops i s K rest h kk;unfold stR at h
 split at h
 ·rename_i o ho;obtain ⟨hi,hg⟩:=Qbl ho
  split at h
  ·rename_i t a x hop
   split at h
   ·rename_i q' V' k' j' off' cs' n ha hx hn
    split at h
    ·rename_i V2 e2 k2 xs' hb;cases hbq:Nat.beq cs'.length n with
     | false=>rw [hbq] at h;cases h
     | true=>
      rw [hbq] at h;simp only [cond_true,W0k,W0s] at h;obtain ⟨rfl,rfl,rfl,rfl,rfl,rfl,rfl,rfl,rfl,rfl,rfl⟩:=h;have hcn:=W0q hbq;refine ⟨o,hi,.inr ⟨hg,.inr (.inr ⟨by rw [hop];rfl,by rw [hop];rfl,q',fun z y'=>z=.any∧y'=.row V2 e2 k2 (xs'.set j' (ec.take off'++cs'++ec.drop (off'+cs'.length))),?_,?_⟩)⟩⟩
      ·refine Qtn.up ?_;intro D w ac Q K' hD hops hbx hnd hcont;have hva:=Qa2 hops a (by simp [hop,Op.operands]);have hvx:=Qa2 hops x (by simp [hop,Op.operands]);rw [ha] at hva;generalize hav:ac.eval a=va at hva;generalize hxv:ac.eval x=vx at hvx;have hrep:=Qjm hx hvx;have hbox:=hbx q' _ hb;have hk:=hbox.1;have hecl:ec.length=k2:=hk ec (W0h he);cases hva with
       | ep id b n0 cap k i off=>
        have hnD:¬ D b:=hnd _ b hb rfl;have hjl:j'<xs'.length:=(W0i.1 he).1;have hjk:j'*k2+k2≤xs'.length*k2:=by have:=W1d k2 (show j'+1≤xs'.length from hjl);rw [Nat.add_mul] at this;omega
        obtain ⟨w',h1,h2,h3,h4⟩:=Zbp (P:=P) hbox hnD (cs:=cs') (vs:=vx.cells.toList) (j'*k2+off') (by simpa using hrep.1.symm) (fun u hu=>by
         obtain ⟨p,hp⟩:=W2l.1 hu;exact hrep.2.1 p u (by simpa using hp)) (fun p a u ha hu=>hrep.2.2 p a u ha (by simpa using hu)) (by omega) (Zld hk he hf) (by simp) (Zig hk he hf)
        have hrun:(execOp ac.eval o).run P w=.ok .skip w':=by
         simp [execOp,hop,hav,hxv,Instr.storeAt,Instr.sureAddr,storeVar,Qcy hn,hrep.1,hcn,h1]
        unfold Oper.wp;rw [hrun,Oper.upon_skip];exact hcont undef w' .any _ _ ⟨rfl,rfl⟩ hb h3 (fun g hg _=>h4 g (fun e=>hg (by rw [e];rfl))) (fun g hg=>⟨.inl hg,hnd _ g hb hg⟩) h2 (.any _)
      ·rintro z y' ⟨rfl,rfl⟩;rw [LS.fs_put,LS.fs_setB];exact kk ()
    ·cases h
   ·cases h
  ·cases h
 ·cases h
end Go.Proofs.YtkhodpknpligpaaGreat
