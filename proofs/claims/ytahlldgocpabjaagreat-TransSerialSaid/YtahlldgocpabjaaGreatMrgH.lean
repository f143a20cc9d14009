import Derived.Test.YtahlldgocpabjaaGreatAl
import Derived.Test.YtahlldgocpabjaaGreatMrgG
import Derived.Test.YtahlldgocpabjaaGreatMrgF
import Derived.Test.YtahlldgocpabjaaGreatVc
import Derived.Test.YtahlldgocpabjaaGreatChecked
import Derived.Test.YtahlldgocpabjaaGreatMrgA
import Derived.Test.YtahlldgocpabjaaGreatRows
import Derived.Laws.Externs
import Derived.Lib.Bytealg
set_option linter.unusedVariables false
set_option linter.unusedSimpArgs false
namespace Go.Proofs.YtahlldgocpabjaaGreat
open Go Go.RowKit Copyhold Go.Proofs.Tryz
def apF (P:Program) (e k bytes q:Nat) (ops:Array Oper) (s:LS) (i:Nat):Option (Value × Value × List (List AV) × List (List AV) × Nat):=
 match appO ops s i with
 | some (t,.rw id V n,.sl k1 _ ys,some d)=>
  match bget s.bx id with
  | some (.row V' e' k2 xs)=>bif Nat.beq id q&&(Nat.beq k1 k&&(Nat.beq k2 k&&(Nat.beq e' e&&Qhj P t e k bytes))) then some (V,V',xs,ys,d) else none
  | _=>none
 | _=>none
theorem Qq7 {P:Program} {e k bytes q d:Nat} {V:Value} {xs ys:List (List AV)} (h63:xs.length+ys.length≤140737488355327) (hby:(xs.length+ys.length)*bytes≤140737488355328) :
  ∀ (ops:Array Oper) (i:Nat) (s:LS) (K:FS→Prop) (rest:List Nat),apF P e k bytes q ops s i=some (V,V,xs,ys,d)→(∀ a:Unit,SeqR P ops K rest ((s.put (some d) (.sl k false (xs++ys))).setB q (.row (.slice none 0 0) e k [])).fs)→SeqR P ops K (i :: rest) s.fs:=by
 intro ops i s K rest h kk;unfold apF at h
 split at h
 ·rename_i t id V1 n k1 tt ys1 d1 h0
  split at h
  ·rename_i V2 e' k2 xs1 hb;cases hc:(Nat.beq id q&&(Nat.beq k1 k&&(Nat.beq k2 k&&(Nat.beq e' e&&Qhj P t e k bytes)))) with
   | false=>rw [hc] at h;cases h
   | true=>
    rw [hc] at h;simp only [cond_true,W0k,W0s] at h;obtain ⟨rfl,rfl,rfl,rfl,rfl⟩:=h;simp only [W0r] at hc;obtain ⟨c1,c2,c3,c4,hE⟩:=hc;obtain rfl:=W0q c1;obtain rfl:=W0q c2;obtain rfl:=W0q c3;obtain rfl:=W0q c4;obtain ⟨o,c,x,y,hi,hg,hop,rfl,hx,hy,hd⟩:=Qsw h0;have hdef:o.dst=some d1:=hd.symm;refine ⟨o,hi,.inr ⟨hg,.inr (.inr ⟨by rw [hop];rfl,by rw [hop];rfl,id,fun z y'=>z=.sl k2 false (xs1++ys1)∧y'=.row (.slice none 0 0) e' k2 [],?_,?_⟩)⟩⟩
    ·intro D w a Q K' hD hops hbx hnd hcont;obtain ⟨z,hEl⟩:=Qhi hE;have hvx:=Qa8 hops x (by simp [hop,Op.operands,Call.operands]);have hvy:=Qa8 hops y (by simp [hop,Op.operands,Call.operands]);rw [← hx] at hvx;rw [← hy] at hvy;obtain ⟨us,hsl,hus,hru⟩:=Qg7 hvy;obtain ⟨hkx,vs,hown,hvs,hrv⟩:=hbx id _ hb;have hVeq:a.eval x=V2:=by
      generalize a.eval x=v at hvx;cases hvx;rfl
     have hmax:xs1.length+ys1.length≤maxLen:=by unfold maxLen;omega
     obtain ⟨V',w',hrun,hown',hgr,hblk⟩:=Qo9 hEl w 0 o.type V2 xs1.length vs hown (a.eval y) ys1.length us hsl hus hmax hby (W0j _);have hexec:(execOp a.eval o).run P w=.ok (.value V') w':=by
      simp [execOp,hop,resolve,invoke,builtin,hVeq,hrun]
     unfold Oper.wp;rw [hexec,Oper.upon_value];have hshape:∃ A c,V'=.slice A (xs1.length+ys1.length) c:=by
      obtain ⟨A,c,h1,_⟩:=(Sl.of_owns hown').shape;exact ⟨A,c,h1⟩
     obtain ⟨A,cc,rfl⟩:=hshape;have hkD:∀ b,D b→b<w.heap.size→w'.heap[b]?=w.heap[b]?:=fun b hdb hl=>hgr.block b hl (fun e=>hnd _ b hb e.symm hdb);have hbox:BoxR D w' (.row (.slice A (xs1.length+ys1.length) cc) e' k2 (xs1++ys1)):=by
      refine ⟨fun l hl=>?_,vs++us,by simpa using hown',fun u hu=>?_,fun j a' u ha' hu=>?_⟩
      ·rcases W05.1 hl with h | h
       ·exact hkx l h
       ·cases hvy':(a.eval y)
        all_goals (rw [hvy'] at hvy)
        all_goals (try (cases hvy;done))
        cases hvy with
        | sl k t xs A c b off vs h1 h2 h3 h4 h5 h6=>
         obtain ⟨q,hq⟩:=W2n.1 h;exact h4 q l hq
      ·rcases W05.1 hu with h | h
       ·exact hvs u h
       ·exact hus u h
      ·have hlv:vs.length=xs1.flatten.length:=by rw [hown.1,Qhh hkx]
       rw [W2a] at ha';by_cases hj:j<xs1.flatten.length
       ·rw [W0o hj] at ha';rw [W0o (by omega)] at hu;exact (hrv j a' u ha' hu).frame (fun _ h=>h) hgr.size hkD
       ·rw [W0n (by omega)] at ha';rw [W0n (by omega),hlv] at hu;exact (hru _ a' u ha' hu).frame (fun _ h=>h) hgr.size hkD
     have hlt:∀ b,D b→b<w'.heap.size:=fun b h=>W09 (hD b h) hgr.size;have hv:=Fz.row 0 (xs1.length+ys1.length) e' k2 (.slice A (xs1.length+ys1.length) cc) (xs1++ys1) (by simp) D w' _ hlt hbox (.rw 0 _ cc A);refine hcont _ w' _ _ _ _ ⟨rfl,rfl⟩ hb ⟨hgr.os,hgr.tape,hgr.output,hgr.size,fun k hk=>by omega⟩ (fun q hq hl=>hgr.block q hl (fun e=>hq e.symm)) (fun b h=>.inl h) (fun b h=>?_) (fun g hg'=>by cases hg') ⟨by simp,[],⟨by simp,.inl ⟨rfl,rfl⟩⟩,by simp,fun j a u ha=>by simp at ha⟩ hv;rcases h with h | h
     ·exact ⟨hlt b h,.inl h⟩
     ·refine ⟨hbox.lt h,?_⟩;rcases hblk with e1 | e1
      ·exact .inr (.inl (by rw [← h];exact e1.symm))
      ·have hgs:b=w.heap.size:=by
        have:(Bx.row (.slice A (xs1.length+ys1.length) cc) e' k2 (xs1++ys1)).blk=some w.heap.size:=e1;rw [h] at this;exact W0c this
       exact .inr (.inr (by omega))
    ·rintro z y' ⟨rfl,rfl⟩;have:=kk ();rw [← LS.fs_setB,← LS.fs_put] at this;rw [hdef];exact this
  ·cases h
 ·cases h
def cvR (ops:Array Oper) (s:LS) (i:Nat):Option (TypeId × TypeId × Value × Option Tmp):=
 match opAt ops s i with
 | some o=>
  match o.op with
  | .convert a b y=>
   match s.ev y with
   | .val v=>some (a,b,v,o.dst)
   | _=>none
  | _=>none
 | none=>none
theorem Qwg {P:Program} {a b:TypeId} {v u:Value} {d:Option Tmp} (hc:∀ w,(Go.convert a b v).run P w=.ok u w) :
  ∀ (ops:Array Oper) (i:Nat) (s:LS) (K:FS→Prop) (rest:List Nat),cvR ops s i=some (a,b,v,d)→(∀ _:Unit,SeqR P ops K rest (s.put d (.val u)).fs)→SeqR P ops K (i :: rest) s.fs:=by
 intro ops i s K rest h kk;unfold cvR at h
 split at h
 ·rename_i o ho;obtain ⟨hi,hg⟩:=Qb2 ho
  split at h
  ·rename_i a' b' y hop
   split at h
   ·rename_i v' hy;simp only [W0k,W0s] at h;obtain ⟨rfl,rfl,rfl,rfl⟩:=h;refine ⟨o,hi,.inr ⟨hg,.inl ⟨.val u,.inl ?_,?_⟩⟩⟩
    ·intro D w ρ hops;have hv:=Qa8 hops y (by simp [hop,Op.operands]);rw [hy] at hv;have hvv:ρ y=v':=by
      generalize ρ y=z at hv;cases hv;rfl
     exact ⟨u,by simp [execOp,hop,hvv,hc w],.val _⟩
    ·rw [LS.fs_put];exact kk ()
   ·cases h
  ·cases h
 ·cases h
def mxR (ops:Array Oper) (s:LS) (i:Nat):Option (Int × Int × Option Tmp):=
 match opAt ops s i with
 | some o=>
  match o.op with
  | .call c=>
   match c.callee,c.args.toList with
   | .builtin .max,[x,y]=>
    match s.ev x,s.ev y with
    | .val (.int .i64 a),.val (.int .i64 b)=>some (a,b,o.dst)
    | _,_=>none
   | _,_=>none
  | _=>none
 | none=>none
theorem Zd3 {P:Program} {a b:Int} {d:Option Tmp} :
  ∀ (ops:Array Oper) (i:Nat) (s:LS) (K:FS→Prop) (rest:List Nat),mxR ops s i=some (a,b,d)→(∀ _:Unit,SeqR P ops K rest (s.put d (aI (if b>a then b else a))).fs)→SeqR P ops K (i :: rest) s.fs:=by
 intro ops i s K rest h kk;unfold mxR at h
 split at h
 ·rename_i o ho;obtain ⟨hi,hg⟩:=Qb2 ho
  split at h
  ·rename_i c hop
   split at h
   ·rename_i x y hc ha
    split at h
    ·rename_i a' b' hx hy;simp only [W0k,W0s] at h;obtain ⟨rfl,rfl,rfl⟩:=h;refine ⟨o,hi,.inr ⟨hg,.inl ⟨_,.inl fun D w ρ hops=>?_,by rw [LS.fs_put];exact kk ()⟩⟩⟩;obtain ⟨callee,args,cts⟩:=c;simp only at hc ha;subst hc;have ha':args=#[x,y]:=by have:=W1z List.toArray ha;simpa using this
     subst ha';have hv:=Qa8 hops x (by simp [hop,Op.operands,Call.operands]);have hv2:=Qa8 hops y (by simp [hop,Op.operands,Call.operands]);rw [hx] at hv;rw [hy] at hv2;generalize hvv:ρ x=v at hv;generalize hvv2:ρ y=v2 at hv2;cases hv;cases hv2;exact ⟨.int .i64 (if b'>a' then b' else a'),by simp [execOp,hop,resolve,invoke,builtin,hvv,hvv2,Builtin.max_,Builtin.max2],.val _⟩
    ·cases h
   ·cases h
  ·cases h
 ·cases h
theorem Qsq {P:Program} {a b:TypeId} {k k':IntKind} {n:Int} (ha:P.underlying a=some (.int k)) (hb:P.underlying b=some (.int k')) (hw:rng k' n):∀ w,(Go.convert a b (.int k n)).run P w=.ok (.int k' n) w:=fun w=>by
 simp [Go.convert,run_underlying ha,run_underlying hb,Conv.intToInt,Qkf hw]
theorem rngu {z:Int} (h1:0≤z) (h2:z≤18446744073709551615):rng .u64 z:=⟨h1,h2⟩
theorem shrN {P:Program} {t:TypeId} {yk:IntKind} {a:Int} {b:Nat} (hb:b≤64) (D:Nat→Prop) (w:World) (xo yo:Operand) (u v:Value) (hu:Ra D w (.val (.int .u64 a)) u) (hv:Ra D w (.val (.int yk (b:Int))) v) :
  ∃ r,((do Go.eqGuard .shr t xo yo u v;Go.binOp .shr t u v):Sem Value).run P w=.ok r w∧Ra D w (.val (.int .u64 (a / 2 ^ b))) r:=by
 cases hu;cases hv;refine ⟨_,?_,.val _⟩;have h1:¬ (b:Int)<0:=by omega
 have h2:min ((b:Int)).toNat IntKind.u64.bits=b:=by show min ((b:Int)).toNat 64=b;omega
 simp [eqGuard,binOp,Op.shift,h1,h2]
theorem fdiv2 (n:Nat):(n:Int) / 2 ^ 1=((n / 2:Nat):Int):=by
 show (n:Int) / 2=_;omega
theorem Qus {P:Program} {f:FuncId} {e k:Nat} {n:Nat} (h:∀ w,Calls P f #[.slice none 0 0,.int .i64 (n:Int)] w (Zie w e k 0 [])):Qsz P f [aN,aI (n:Int)] e k []:=by
 intro D w vs hD hv;obtain ⟨u,v,rfl,hu,hv2⟩:=hv.two;cases hu;cases hv2;refine (h w).mono ?_;rintro r w' ⟨V,rfl,hown,hb⟩;exact ⟨V,[],rfl,hb,hown,by simp,fun j a u ha=>by simp at ha⟩
end Go.Proofs.YtahlldgocpabjaaGreat

namespace Go.Proofs.YtahlldgocpabjaaGreat
open Go Go.RowKit Copyhold Go.Proofs.Tryz
noncomputable def dP (p:Prop):Bool:=@decide p (Classical.propDecidable p)
theorem Qau {p:Prop}:dP p=true↔p:=by unfold dP;simp
theorem Qad {p:Prop}:dP p=false↔¬ p:=by unfold dP;simp
theorem dPt {p:Prop} (h:p):true=dP p:=(Qau.2 h).symm
theorem dPf {p:Prop} (h:¬ p):false=dP p:=(Qad.2 h).symm
theorem dPe {b:Bool} {p:Prop} (h:b=true↔p):b=dP p:=by
 cases b with
 | true=>exact dPt (h.1 rfl)
 | false=>exact dPf fun hp=>by cases h.2 hp
theorem sT {p:Prop} (h:p):Sub (aB true) (aB (dP p)):=W2p (W1z aB (dPt h))
theorem sF {p:Prop} (h:¬ p):Sub (aB false) (aB (dP p)):=W2p (W1z aB (dPf h))
theorem sE {b:Bool} {p:Prop} (h:b=true↔p):Sub (aB b) (aB (dP p)):=W2p (W1z aB (dPe h))
section
variable {α β:Type}
theorem Qmw (f:α→Nat) {l:List α} {k:Nat} {x:α} (h:l[k]?=some x):((l.take (k+1)).map f).sum=((l.take k).map f).sum+f x:=by
 rw [List.take_add_one,h];simp
theorem Qfh (f:α→Nat) (l:List α) (k:Nat):((l.take k).map f).sum≤(l.map f).sum:=by
 have h:(l.map f).sum=((l.take k).map f).sum+((l.drop k).map f).sum:=by
  rw [← List.sum_append,← W1t,W1h]
 omega
theorem Qia {l:List α} {k:Nat} {x y:α} (h:l[k]?=some x) (hy:y∈l.take (k+1)):y∈l.take k∨y=x:=by
 rw [List.take_add_one,h] at hy;simpa using hy
theorem Qat {l:List α} {k:Nat} (h:l.length≤k):l.take k=l:=W1b h
theorem Qam {l:List α} {k:Nat} {x:α} (h:l[k]?=some x):l.take (k+1)=l.take k++[x]:=by
 rw [List.take_add_one,h];rfl
theorem Qap {l:List α} {k:Nat} {x:α} (h:l[k]?=some x):k<l.length:=(W0i.1 h).1
def Qba (Q:Nat→α→Prop) (l:List α) (k:Nat):Prop:=∀ i e,i<k→l[i]?=some e→Q i e
def AllQ (Q:Nat→α→Prop) (l:List α):Prop:=∀ i e,l[i]?=some e→Q i e
theorem Qba.zero (Q:Nat→α→Prop) (l:List α):Qba Q l 0:=fun i e h=>by omega
theorem Qba.step {Q:Nat→α→Prop} {l:List α} {k:Nat} {x:α} (h:Qba Q l k) (hx:l[k]?=some x) (q:Q k x):Qba Q l (k+1):=fun i e hi he=>by
 by_cases hk:i=k
 ·subst hk;rw [hx] at he;obtain rfl:=W0c he;exact q
 ·exact h i e (by omega) he
theorem Qba.full {Q:Nat→α→Prop} {l:List α} {k:Nat} (h:Qba Q l k) (hk:l.length≤k):AllQ Q l:=fun i e he=>h i e (by have:=Qap he;omega) he
theorem AllQ.at {Q:Nat→α→Prop} {l:List α} (h:AllQ Q l) {k:Nat} {x:α} (hx:l[k]?=some x):Q k x:=h k x hx
theorem AllQ.to {Q:Nat→α→Prop} {l:List α} (h:AllQ Q l) (k:Nat):Qba Q l k:=fun i e _ he=>h i e he
end
abbrev Txt:=List UInt8
structure Ent where
 name:Txt
 ino:Int
 deriving DecidableEq
structure Nod where
 ino:Int
 kind:Int
 links:Int
 text:Txt
 l:List Ent
 deriving DecidableEq
structure Ver where
 stamp:Int
 gone:Bool
 n:Nod
 deriving DecidableEq
structure Chn where
 ino:Int
 l:List Ver
 deriving DecidableEq
structure Cnt where
 stamp:Int
 next:Int
 deriving DecidableEq
structure Sto where
 l:List Chn
 nexts:List Cnt
 stamp:Int
 deriving DecidableEq
structure Fsy where
 l:List Nod
 next:Int
 deriving DecidableEq
def txA (t:Txt):List AV:=[aS t]
def intA (n:Int):List AV:=[aI n]
def entA (e:Ent):List AV:=[aS e.name,aI e.ino]
def nodA (n:Nod):List AV:=[aI n.ino,aI n.kind,aI n.links,aS n.text,.sl 2 false (n.l.map entA)]
def verA (v:Ver):List AV:=[aI v.stamp,aB v.gone,aI v.n.ino,aI v.n.kind,aI v.n.links,aS v.n.text,.sl 2 false (v.n.l.map entA)]
def chnA (c:Chn):List AV:=[aI c.ino,.sl 7 false (c.l.map verA)]
def cntA (c:Cnt):List AV:=[aI c.stamp,aI c.next]
def stoA (s:Sto):List AV:=[.sl 2 false (s.l.map chnA),.sl 2 false (s.nexts.map cntA),aI s.stamp]
def fsyA (f:Fsy):List AV:=[.sl 5 false (f.l.map nodA),aI f.next]
def I64 (n:Int):Prop:=-9223372036854775808≤n∧n≤9223372036854775807
def OkE (e:Ent):Prop:=e.name.length≤140737488351232∧I64 e.ino
def OkN (n:Nod):Prop:=I64 n.ino∧I64 n.kind∧I64 n.links∧n.text.length≤140737488351232∧n.l.length≤8796093022207∧∀ e∈n.l,OkE e
def OkV (v:Ver):Prop:=I64 v.stamp∧OkN v.n
def OkC (c:Chn):Prop:=I64 c.ino∧c.l.length≤8796093022207∧∀ v∈c.l,OkV v
def OkK (c:Cnt):Prop:=I64 c.stamp∧I64 c.next
def OkS (s:Sto):Prop:=I64 s.stamp∧s.l.length≤8796093022207∧s.nexts.length≤8796093022207∧(∀ c∈s.l,OkC c)∧∀ c∈s.nexts,OkK c
def OkF (f:Fsy):Prop:=I64 f.next∧f.l.length≤8796093022207∧∀ n∈f.l,OkN n
end Go.Proofs.YtahlldgocpabjaaGreat

namespace Copyhold.Name
abbrev Ent:=List UInt8 × Int
def okN (s:List UInt8):Bool:=!(s==[])&&!(s==[46])&&!(s==[46,46])&&decide (s.length≤32)&&!s.contains 47&&!s.contains 0
def okE (x:Ent):Bool:=okN x.1&&decide (1≤x.2)
def upAt (l:List Ent) (i:Nat) (x:Ent):Bool:=i==0||(match l[i-1]? with | some y=>decide (y.1<x.1) | none=>true)
def okAt (l:List Ent) (i:Nat):Bool:=match l[i]? with | none=>true | some x=>okE x&&upAt l i x
def rightE (l:List Ent):Bool:=decide (l.length≤256)&&(List.range l.length).all (okAt l)
def Srt (l:List Ent):Prop:=l.Pairwise (fun a b=>a.1<b.1)
theorem ltT {a b c:List UInt8} (h:a<b) (h2:b<c):a<c:=List.lt_trans h h2
theorem ltI {a:List UInt8} (h:a<a):False:=List.lt_irrefl a h
theorem ltA {a b:List UInt8} (h:¬ a<b) (h2:¬ b<a):a=b:=List.le_antisymm (List.not_lt.mp h2) (List.not_lt.mp h)
theorem rightE_iff (l:List Ent):rightE l=true↔l.length≤256∧(∀ x∈l,okE x=true)∧Srt l:=by
 constructor
 ·intro h;simp only [rightE,W0r,W2o,W10,List.mem_range] at h;obtain ⟨h1,h2⟩:=h;have ha:∀ i (hi:i<l.length),okE l[i]=true∧(∀ j (hj:j<l.length),j+1=i→l[j].1<l[i].1):=by
   intro i hi;have:=h2 i hi;simp only [okAt,W0d hi,W0r,upAt,W16,beq_iff_eq] at this;refine ⟨this.1,fun j hj e=>?_⟩;rcases this.2 with h0 | h0
   ·omega
   ·rw [show i-1=j from by omega,W0d hj] at h0;simpa using h0
  refine ⟨h1,fun x hx=>?_,?_⟩
  ·obtain ⟨i,hi,rfl⟩:=List.mem_iff_getElem.1 hx;exact (ha i hi).1
  ·refine W1d.2 fun i j hi hj hij=>?_;obtain ⟨d,rfl⟩:∃ d,j=i+1+d:=⟨j-i-1,by omega⟩
   clear hij
   induction d with
   | zero=>exact (ha (i+1) hj).2 i hi rfl
   | succ d ih=>exact ltT (ih (by omega)) ((ha (i+1+(d+1)) hj).2 (i+1+d) (by omega) rfl)
 ·rintro ⟨h1,h2,h3⟩;simp only [rightE,W0r,W2o,W10,List.mem_range];refine ⟨h1,fun i hi=>?_⟩;simp only [okAt,W0d hi,W0r,upAt,W16,beq_iff_eq];refine ⟨h2 _ (W1n _),?_⟩;by_cases h0:i=0
  ·exact .inl h0
  ·right;rw [W0d (by omega)];simp only [W2o];exact W1d.1 h3 (i-1) i (by omega) hi (by omega)
def pos (l:List Ent) (s:List UInt8):Nat:=l.countP (fun x=>decide (x.1<s))
def isAt (l:List Ent) (s:List UInt8):Bool:=l.any (fun x=>x.1==s)
def getE (l:List Ent) (s:List UInt8):Option Int:=(l.find? (fun x=>x.1==s)).map (·.2)
def insE:List Ent→Ent→List Ent
 | [],x=>[x]
 | a :: l,x=>if a.1<x.1 then a :: insE l x else x :: a :: l
def delE (l:List Ent) (s:List UInt8):List Ent:=l.filter (fun x=>!(x.1==s))
theorem pos_le (l:List Ent) (s:List UInt8):pos l s≤l.length:=List.countP_le_length
theorem Srt.tail {a:Ent} {l:List Ent} (h:Srt (a :: l)):Srt l:=(W1l.1 h).2
theorem Srt.head {a:Ent} {l:List Ent} (h:Srt (a :: l)):∀ x∈l,a.1<x.1:=(W1l.1 h).1
theorem pos_lt {a:Ent} {l:List Ent} {s:List UInt8} (h:a.1<s):pos (a :: l) s=pos l s+1:=by
 simp [pos,h]
theorem pos_ge {a:Ent} {l:List Ent} {s:List UInt8} (hs:Srt (a :: l)) (h:¬ a.1<s):pos (a :: l) s=0:=by
 unfold pos;rw [List.countP_eq_zero];intro x hx;rcases W0y.1 hx with rfl | hx
 ·simpa using h
 ·simp only [W2o];exact fun hxs=>h (ltT (hs.head x hx) hxs)
theorem take_ins {l:List Ent} (h:Srt l) (s:List UInt8) (n:Int):l.take (pos l s)++(s,n) :: l.drop (pos l s)=insE l (s,n):=by
 induction l with
 | nil=>rfl
 | cons a l ih=>
  by_cases ha:a.1<s
  ·rw [pos_lt ha];simp only [List.take_succ_cons,List.drop_succ_cons,List.cons_append,insE,ha,if_true];rw [ih h.tail]
  ·rw [pos_ge h ha];simp [insE,ha]
theorem Qd9 (a:Ent) (l:List Ent) (s:List UInt8):isAt (a :: l) s=(a.1==s||isAt l s):=rfl
theorem Qky {l:List Ent} {s:List UInt8}:isAt l s=true↔∃ x∈l,x.1=s:=by simp [isAt]
theorem Qn3 {a:Ent} {l:List Ent} {s:List UInt8} (h:Srt (a :: l)) (ha:¬ a.1<s):isAt l s=false:=by
 rw [Bool.eq_false_iff];intro hi;obtain ⟨x,hx,rfl⟩:=Qky.1 hi;exact ha (h.head x hx)
theorem del_none {l:List Ent} {s:List UInt8} (h:isAt l s=false):delE l s=l:=by
 unfold delE;rw [List.filter_eq_self];intro x hx;rw [Bool.eq_false_iff] at h;simp only [Bool.not_eq_true',beq_eq_false_iff_ne];exact fun e=>h (Qky.2 ⟨x,hx,e⟩)
theorem take_del {l:List Ent} (h:Srt l) {s:List UInt8} (hi:isAt l s=true):l.take (pos l s)++l.drop (pos l s+1)=delE l s:=by
 induction l with
 | nil=>rfl
 | cons a l ih=>
  by_cases ha:a.1<s
  ·have hne:(a.1==s)=false:=by
    rw [beq_eq_false_iff_ne];rintro rfl;exact ltI ha
   rw [Qd9,hne,W0u] at hi;rw [pos_lt ha];simp only [List.take_succ_cons,List.drop_succ_cons,List.cons_append,delE,W2l,hne,W0t,if_true];rw [ih h.tail hi];rfl
  ·have hn:=Qn3 h ha;rw [Qd9,hn,W01] at hi;rw [pos_ge h ha];simp only [List.take_zero,W1w,Nat.zero_add,List.drop_succ_cons,List.drop_zero,delE,W2l,hi,W0x];exact (del_none hn).symm
theorem at_pos {l:List Ent} (h:Srt l) (s:List UInt8):(l[pos l s]?.any (fun x=>x.1==s))=isAt l s:=by
 induction l with
 | nil=>rfl
 | cons a l ih=>
  by_cases ha:a.1<s
  ·have hne:(a.1==s)=false:=by
    rw [beq_eq_false_iff_ne];rintro rfl;exact ltI ha
   rw [pos_lt ha,List.getElem?_cons_succ,ih h.tail,Qd9,hne,W0u]
  ·rw [pos_ge h ha,Qd9,Qn3 h ha,W01];rfl
theorem get_pos {l:List Ent} (h:Srt l) {s:List UInt8} (hi:isAt l s=true):∃ x,l[pos l s]?=some x∧x.1=s∧getE l s=some x.2:=by
 induction l with
 | nil=>cases hi
 | cons a l ih=>
  by_cases ha:a.1<s
  ·have hne:(a.1==s)=false:=by
    rw [beq_eq_false_iff_ne];rintro rfl;exact ltI ha
   rw [Qd9,hne,W0u] at hi;obtain ⟨x,h1,h2,h3⟩:=ih h.tail hi;refine ⟨x,by rw [pos_lt ha,List.getElem?_cons_succ,h1],h2,?_⟩;unfold getE at h3 ⊢;rw [W1f,hne];exact h3
  ·rw [Qd9,Qn3 h ha,W01] at hi;refine ⟨a,by rw [pos_ge h ha];rfl,by simpa using hi,?_⟩;unfold getE;rw [W1f,hi];rfl
theorem Qr4 {l:List Ent} {s:List UInt8} (hi:isAt l s=false):getE l s=none:=by
 unfold getE;rw [Option.map_eq_none_iff,W11];intro x hx e;rw [Bool.eq_false_iff] at hi;exact hi (Qky.2 ⟨x,hx,by simpa using e⟩)
theorem get_some {l:List Ent} {s:List UInt8}:isAt l s=(getE l s).isSome:=by
 by_cases h:isAt l s=true
 ·obtain ⟨x,hx,e⟩:=Qky.1 h;rw [h];unfold getE;rw [Option.isSome_map];symm;rw [List.find?_isSome];exact ⟨x,hx,by simpa using e⟩
 ·have h:isAt l s=false:=by simpa using h
  rw [h,Qr4 h];rfl
theorem Zfq (l:List Ent) (x y:Ent):y∈insE l x↔y=x∨y∈l:=by
 induction l with
 | nil=>simp [insE]
 | cons a l ih=>
  unfold insE
  split
  ·simp only [W0y,ih];constructor
   ·rintro (h | h | h)<;>simp [h]
   ·rintro (h | h | h)<;>simp [h]
  ·simp
theorem Zn6 (l:List Ent) (x:Ent):(insE l x).length=l.length+1:=by
 induction l with
 | nil=>rfl
 | cons a l ih=>
  unfold insE
  split<;>simp [ih]
theorem srt_ins {l:List Ent} (h:Srt l) {x:Ent} (hi:isAt l x.1=false):Srt (insE l x):=by
 induction l with
 | nil=>exact List.pairwise_singleton _ _
 | cons a l ih=>
  rw [Qd9,Bool.or_eq_false_iff] at hi;unfold insE
  split
  ·rename_i ha;refine W1l.2 ⟨fun y hy=>?_,ih h.tail hi.2⟩;rcases (Zfq l x y).1 hy with rfl | hy
   ·exact ha
   ·exact h.head y hy
  ·rename_i ha;have hax:x.1<a.1:=Classical.byContradiction fun hn=>(beq_eq_false_iff_ne.1 hi.1) (ltA ha hn)
   refine W1l.2 ⟨fun y hy=>?_,h⟩;rcases W0y.1 hy with rfl | hy
   ·exact hax
   ·exact ltT hax (h.head y hy)
theorem get_ins {l:List Ent} {s t:List UInt8} {n:Int} (hi:isAt l s=false):getE (insE l (s,n)) t=if t=s then some n else getE l t:=by
 induction l with
 | nil=>
  by_cases h:t=s
  ·subst h;simp [getE,insE]
  ·simp [getE,insE,h,Ne.symm h]
 | cons a l ih=>
  rw [Qd9,Bool.or_eq_false_iff] at hi;have has:a.1 ≠ s:=beq_eq_false_iff_ne.1 hi.1;have ih:=ih hi.2;unfold insE
  split
  ·unfold getE at ih ⊢;by_cases hat:a.1=t
   ·have h1:(a.1==t)=true:=by simpa using hat
    have:t ≠ s:=hat ▸ has;simp [h1,this]
   ·have h1:(a.1==t)=false:=by simpa using hat
    rw [W1f,h1,W1f,h1];exact ih
  ·unfold getE;by_cases h:t=s
   ·subst h;simp
   ·have h1:(s==t)=false:=by simpa using Ne.symm h
    rw [W1f];simp [h1,h]
theorem del_ins {l:List Ent} {s:List UInt8} {n:Int} (hi:isAt l s=false):delE (insE l (s,n)) s=l:=by
 induction l with
 | nil=>simp [insE,delE]
 | cons a l ih=>
  have hd:=del_none hi;rw [Qd9,Bool.or_eq_false_iff] at hi;unfold insE
  split
  ·have h2:=ih hi.2;unfold delE at h2 ⊢;rw [W2l];simp only [hi.1,W0t,if_true,h2]
  ·unfold delE at hd ⊢;rw [W2l];simp only [beq_self_eq_true,W0x,Bool.false_eq_true,if_false];exact hd
theorem get_del {l:List Ent} {s t:List UInt8}:getE (delE l s) t=if t=s then none else getE l t:=by
 induction l with
 | nil=>simp [getE,delE]
 | cons a l ih=>
  unfold getE delE at ih ⊢;rw [W2l];by_cases has:a.1=s
  ·have h1:(a.1==s)=true:=by simpa using has
   simp only [h1,W0x,Bool.false_eq_true,if_false,ih];by_cases h:t=s
   ·simp [h]
   ·have h2:(a.1==t)=false:=by
     rw [beq_eq_false_iff_ne,has];exact Ne.symm h
    simp [h,h2]
  ·have h1:(a.1==s)=false:=by simpa using has
   simp only [h1,W0t,if_true];rw [W1f,W1f];by_cases hat:a.1=t
   ·have h2:(a.1==t)=true:=by simpa using hat
    have:t ≠ s:=hat ▸ has;simp [h2,this]
   ·have h2:(a.1==t)=false:=by simpa using hat
    simp only [h2];exact ih
theorem srt_del {l:List Ent} (h:Srt l) (s:List UInt8):Srt (delE l s):=List.Pairwise.filter _ h
theorem right_ins {l:List Ent} {s:List UInt8} {n:Int} (h:rightE l=true) (hs:okN s=true) (hn:1≤n) (hi:isAt l s=false) (hl:l.length<256):rightE (insE l (s,n))=true:=by
 rw [rightE_iff] at h ⊢;refine ⟨by rw [Zn6];omega,fun x hx=>?_,srt_ins h.2.2 hi⟩;rcases (Zfq l _ x).1 hx with rfl | hx
 ·simp [okE,hs,hn]
 ·exact h.2.1 x hx
theorem Zee {l:List Ent} (h:rightE l=true):Srt l:=((rightE_iff l).1 h).2.2
def enterF (l:List Ent) (s:List UInt8) (n:Int):List Ent × Int:=
 if okN s=false then (l,10) else if n<1 then (l,1) else if isAt l s=true then (l,7) else if 256≤l.length then (l,12) else (insE l (s,n),0)
def leaveF (l:List Ent) (s:List UInt8):List Ent × Int × Int:=if isAt l s=true then (delE l s,(getE l s).getD 0,0) else (l,0,6)
end Copyhold.Name

namespace Copyhold.Name
open Go Go.RowKit
def entC (x:Ent):List Value:=[strV x.1,.int .i64 x.2]
def Ents (w:World) (v:Value) (l:List Ent):Prop:=Sl w 2 v l.length (l.flatMap entC)
theorem Qz6:∀ (l:List Ent) (i:Nat),(l.flatMap entC)[i*2]?=l[i]?.map (fun x=>strV x.1)∧(l.flatMap entC)[i*2+1]?=l[i]?.map (fun x=>.int .i64 x.2)
 | [],i=>by simp
 | x :: l,0=>by simp [entC]
 | x :: l,i+1=>by
  have h:=Qz6 l i;rw [List.flatMap_cons];constructor
  ·rw [W0n (by simp [entC];omega)];simp only [entC,W0b,W0f];rw [show (i+1)*2-(0+1+1)=i*2 from by omega,h.1];simp
  ·rw [W0n (by simp [entC];omega)];simp only [entC,W0b,W0f];rw [show (i+1)*2+1-(0+1+1)=i*2+1 from by omega,h.2];simp
theorem Qz5 (l:List Ent):(l.flatMap entC).length=l.length*2:=by
 induction l with
 | nil=>rfl
 | cons x l ih=>rw [List.flatMap_cons,W0e,ih];simp [entC];omega
theorem Ents.shape {w:World} {v:Value} {l:List Ent} (h:Ents w v l):∃ A c,v=.slice A l.length c∧l.length≤c:=by
 obtain ⟨A,c,rfl,hc,_⟩:=Sl.shape h;exact ⟨A,c,rfl,hc⟩
theorem Ents.below {w w':World} {v:Value} {l:List Ent} (h:Ents w v l) (hb:Below w.heap.size w w'):Ents w' v l:=Sl.below h hb
theorem Ents.nil (w:World):Ents w (.slice none 0 0) []:=Sl.nil w 2
theorem Ents.at {w:World} {A:Option Addr} {c:Nat} {l:List Ent} (h:Ents w (.slice A l.length c) l) (k:Nat) (hk:k<l.length) :
  ∃ b off,A=some ⟨b,off,none⟩∧b<w.heap.size∧l.length≤c∧w.cell? ⟨b,off+k*2,none⟩=some (.string ⟨(l[k].1).toArray⟩)∧w.cell? ⟨b,off+k*2+1,none⟩=some (.int .i64 l[k].2):=by
 obtain ⟨b,off,rfl,hb,hc,_,hcell⟩:=Sl.at h (by omega);have hg:=Qz6 l k;rw [W0d hk] at hg;exact ⟨b,off,rfl,hb,hc,hcell _ _ hg.1,by rw [Nat.add_assoc];exact hcell _ _ hg.2⟩
theorem Quz (l:List Ent) (i:Nat):(l.take i).flatMap entC=(l.flatMap entC).take (i*2):=by
 induction l generalizing i with
 | nil=>simp
 | cons x l ih=>
  cases i with
  | zero=>simp
  | succ i=>
   rw [List.take_succ_cons,List.flatMap_cons,List.flatMap_cons,ih i,List.take_append];have:(entC x).length=2:=rfl;rw [this,show (i+1)*2-2=i*2 from by omega,W1b (l:=entC x) (by rw [this];omega)]
theorem Qu0 (l:List Ent) (i:Nat):(l.drop i).flatMap entC=(l.flatMap entC).drop (i*2):=by
 induction l generalizing i with
 | nil=>simp
 | cons x l ih=>
  cases i with
  | zero=>simp
  | succ i=>
   rw [List.drop_succ_cons,List.flatMap_cons,ih i,List.drop_append];have:(entC x).length=2:=rfl;rw [this,show (i+1)*2-2=i*2 from by omega,List.drop_of_length_le (l:=entC x) (by rw [this];omega),W1w]
theorem Ents.take {w:World} {A:Option Addr} {c:Nat} {l:List Ent} (h:Ents w (.slice A l.length c) l) (i:Nat) (hi:i≤l.length):Ents w (.slice A i c) (l.take i):=by
 obtain ⟨A',c',he,hc,hl,hh⟩:=h;simp only [Value.slice.injEq] at he;obtain ⟨rfl,_,rfl⟩:=he;refine ⟨A,c,by rw [W0g,Nat.min_eq_left hi],by rw [W0g];omega,Qz5 _,fun h0=>?_⟩;rw [W0g] at h0;obtain ⟨b,off,rfl,hb,hcell⟩:=hh (by omega);refine ⟨b,off,rfl,hb,fun j x hx=>hcell j x ?_⟩;rw [Quz] at hx;rw [W1c] at hx
 split at hx
 ·exact hx
 ·cases hx
theorem Ents.drop {w:World} {A A':Option Addr} {c n c':Nat} {l:List Ent} (h:Ents w (.slice A l.length c) l) (i:Nat) (hi:i≤l.length) (hn:n=l.length-i) (hc':c'=c-i) (hA:i<l.length→∀ b off,A=some ⟨b,off,none⟩→A'=some ⟨b,off+i*2,none⟩):Ents w (.slice A' n c') (l.drop i):=by
 obtain ⟨A0,c0,he,hc,hl,hh⟩:=h;simp only [Value.slice.injEq] at he;obtain ⟨rfl,_,rfl⟩:=he;subst hn hc';refine ⟨A',c-i,by rw [W0p],by rw [W0p];omega,Qz5 _,fun h0=>?_⟩;rw [W0p] at h0;obtain ⟨b,off,rfl,hb,hcell⟩:=hh (by omega);refine ⟨b,off+i*2,hA (by omega) b off rfl,hb,fun j x hx=>?_⟩;rw [Qu0,W08] at hx;rw [Nat.add_assoc];exact hcell _ x hx
end Copyhold.Name
namespace Go.Proofs.YtahlldgocpabjaaGreat
open Go.RowKit Go.ChangeShapes Go.WideShapes Go.ChangeAt Copyhold Copyhold.Name
end Go.Proofs.YtahlldgocpabjaaGreat

namespace Copyhold.Name
end Copyhold.Name

namespace Go.Proofs.YtahlldgocpabjaaGreat
open Go.RowKit Copyhold Copyhold.Name
theorem Qq3 (s:List UInt8) (c:UInt8) (W:World):(callFunc 246 #[.string ⟨s.toArray⟩,.int .u8 (c.toNat:Int)]).run Tryz.prog W=.ok (.value (.int .i64 (Lib.indexByte s c))) W:=by
 rw [run_callFunc_extern (e:=Extern.BytealgIndexByte.indexByte) Tryz.func246 (by kernel_rfl) (by kernel_rfl) (by kernel_rfl) (by kernel_rfl),Lib.run_indexByteString];simp
theorem Qnl (s:List UInt8) (c:UInt8) (w:World):Calls Tryz.prog 242 #[.string ⟨s.toArray⟩,.int .u8 (c.toNat:Int)] w fun e w'=>e=.returned (.int .i64 (Lib.indexByte s c))∧w=w':=by
 have hr:=Qq3 s c
 go_enter Tryz.func242,Tryz.ntmps242
 go_wp2_with fail
 go_ret
 exact ⟨rfl,rfl⟩
theorem Qwa (s:List UInt8) (c:UInt8) (w:World):Calls Tryz.prog 241 #[.string ⟨s.toArray⟩,.string ⟨#[c]⟩] w fun e w'=>e=.returned (.int .i64 (Lib.indexByte s c))∧w=w':=by
 by_cases he:s=[c]
 ·subst he;rw [show Lib.indexByte [c] c=0 from by simp [Lib.indexByte]]
  set_option maxRecDepth 100000 in
  go_enter Tryz.func241,Tryz.ntmps241
  go_wp2_with fail
  go_ret
  exact ⟨rfl,rfl⟩
 ·have hq:([c]==s)=false:=by simpa using Ne.symm he
  clear he
  set_option maxRecDepth 100000 in
  go_enter Tryz.func241,Tryz.ntmps241
  go_wp2_with fail
  refine (Qnl s c _).mono ?_;rintro e w1 ⟨rfl,rfl⟩
  go_wp2_with fail
  go_ret
  exact ⟨rfl,rfl⟩
theorem Qll (s:List UInt8) (c:UInt8) (w:World):Calls Tryz.prog 236 #[.string ⟨s.toArray⟩,.string ⟨#[c]⟩] w fun e w'=>e=.returned (.int .i64 (Lib.indexByte s c))∧w=w':=by
 go_enter Tryz.func236,Tryz.ntmps236
 go_wp2_with fail
 refine (Qwa s c _).mono ?_;rintro e w1 ⟨rfl,rfl⟩
 go_wp2_with fail
 go_ret
 exact ⟨rfl,rfl⟩
theorem Qr2 (s:List UInt8) (c:UInt8):decide (0≤Lib.indexByte s c)=s.contains c:=by
 induction s with
 | nil=>simp [Lib.indexByte]
 | cons b l ih=>
  have hg:=Lib.indexByte_ge l c;rw [Lib.indexByte,List.contains_cons,← ih];by_cases hb:b=c
  ·subst hb;simp
  ·have h1:(b==c)=false:=by simpa using hb
   have h2:(c==b)=false:=by simpa using Ne.symm hb
   rw [h1,h2];by_cases h:Lib.indexByte l c = -1
   ·rw [h];simp
   ·have h3:(Lib.indexByte l c==-1)=false:=by simpa using h
    rw [h3];simp;omega
theorem Qjl (s:List UInt8) (c:UInt8) (w:World):Calls Tryz.prog 220 #[.string ⟨s.toArray⟩,.string ⟨#[c]⟩] w fun e w'=>e=.returned (.bool (s.contains c))∧w=w':=by
 have hm:=Lib.hid (Qr2 s c);have hge:=Lib.indexByte_ge s c;generalize hx:Lib.indexByte s c=x at *;have HX:=Lib.hid hx;clear hx
 go_enter Tryz.func220,Tryz.ntmps220
 go_wp2_with fail
 refine (Qll s c _).mono ?_;rintro e w1 ⟨rfl,rfl⟩;rw [HX.out]
 go_wp2_with fail
 go_ret
 exact ⟨by rw [← hm.out];rfl,rfl⟩
theorem Qoc:∀ (x y:List UInt8),Op.bytesLess x y=decide (x<y)
 | [],[]=>by simp [Op.bytesLess]
 | a :: x,[]=>by simp [Op.bytesLess]
 | [],b :: y=>by simp [Op.bytesLess]
 | a :: x,b :: y=>by
  rw [Op.bytesLess,Qoc x y,Bool.eq_iff_iff];simp only [W16,W0r,W2o,beq_iff_eq,List.cons_lt_cons_iff]
theorem gete (l:List Name.Ent) (i:Nat) (h:i<l.length):l.getD i ([],0)=l[i]:=by simp [List.getD,h]
end Go.Proofs.YtahlldgocpabjaaGreat
