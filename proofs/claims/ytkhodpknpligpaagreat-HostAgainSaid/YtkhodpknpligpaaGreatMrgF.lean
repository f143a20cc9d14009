import Derived.Test.YtkhodpknpligpaaGreatAl
import Derived.Test.YtkhodpknpligpaaGreatMrgE
import Derived.Laws.StructEq
import Derived.Test.YtkhodpknpligpaaGreatMrgB
import Derived.WalkKit
import Derived.ProofKit
import Derived.OpenShut
import Derived.ShutString
import Derived.JoinedCond
import Derived.Carry
import Derived.SliceStrings
import Derived.SizedLaws
import Derived.Lib.SmallJoins
import Derived.Test.YtkhodpknpligpaaGreatMrgA
import Derived.Deep.Slices
set_option linter.unusedVariables false
namespace Copyhold
open Go Go.RowKit
def mkM (P:Program) (ops:Array Oper) (s:LS) (i:Nat):Option Nat:=
 match opAt ops s i with
 | some o=>
  match o.op,o.dst with
  | .makeMap _ none,some d=>
   match bget s.bx d with
   | none=>some d
   | _=>none
  | _,_=>none
 | none=>none
theorem Zg2 {P:Program} {ops:Array Oper} {K:FS→Prop} {rest:List Nat} {i:Nat} {s:LS} {d:Nat} {f:Nat→LS} (h:mkM P ops s i=some d)
  (hf:∀ r,(s.put (some d) (.mref d r)).setB d (.mp r [])=f r) (kk:∀ r,SeqR P ops K rest (f r).fs):SeqR P ops K (i :: rest) s.fs:=by
 unfold mkM at h
 split at h
 ·rename_i o ho;obtain ⟨hi,hg⟩:=Qbl ho
  split at h
  ·rename_i t d' hop hd
   split at h
   ·rename_i hn;obtain rfl:=W0c h;refine ⟨o,hi,.inr ⟨hg,.inr (.inl ⟨by rw [hop];rfl,fun z nb=>∃ r,z=.mref d' r∧nb=some (d',.mp r []),?_,?_⟩)⟩⟩
    ·intro D w a Q K' hD hops hbx hcont;have hrun:(execOp a.eval o).run P w=.ok (.value (.map (some w.heap.size))) (w.alloc (.map #[] 0)):=by
      simp [execOp,hop,Instr.makeMap]
     unfold Oper.wp;rw [hrun,Oper.upon_value];have hb:Below w.heap.size w (w.alloc (.map #[] 0)):=(Below.refl _ _).alloc (W0m _) _;refine hcont _ _ _ _ D ⟨w.heap.size,rfl,rfl⟩ hb (fun _ h=>h) (fun b h=>⟨W08 (hD b h) hb.size,.inl h⟩) (.mref _ _) (fun id y hy=>?_);obtain ⟨rfl,rfl⟩:=by simpa using hy
     refine ⟨fun g hg=>?_,#[],0,heap_alloc_new w _,⟨rfl,Zaa 0⟩,fun j p e hp=>by simp at hp,fun j p e hp=>by simp at hp⟩;obtain rfl:=W0c hg;exact ⟨W0m _,fun hd=>by have:=hD _ hd;omega⟩
    ·rintro z nb ⟨r,rfl,rfl⟩;refine ⟨fun id y hy=>?_,?_⟩
     ·obtain ⟨rfl,rfl⟩:=by simpa using hy
      exact hn
     ·have:=kk r;rw [← hf r,← LS.fs_setB,← LS.fs_put] at this;rw [hd];exact this
   ·cases h
  ·cases h
 ·cases h
def Qb9 (P:Program) (kt:TypeId):MK→Bool
 | .i _=>match P.underlying kt with
  | some (.int .i64)=>true
  | _=>false
 | .s _=>match P.underlying kt with
  | some .string=>true
  | _=>false
def keyA:AV→Option MK
 | .val (.int .i64 z)=>some (.i z)
 | .val (.string ⟨⟨l⟩⟩)=>some (.s l)
 | _=>none
theorem Qmz {x:AV} {k:MK} (h:keyA x=some k):x=.val k.val:=by
 unfold keyA at h
 split at h
 ·obtain rfl:=W0c h;rfl
 ·obtain rfl:=W0c h;rfl
 ·cases h
def Qdb (k:MK):List (MK × AV)→Nat→Option (Nat × AV)
 | [],_=>none
 | p :: r,i=>if p.1=k then some (i,p.2) else Qdb k r (i+1)
theorem Qnn (a b:List UInt8):((⟨⟨a⟩⟩:ByteArray)==⟨⟨b⟩⟩)=decide (a=b):=by
 show ((⟨a⟩:Array UInt8)==(⟨b⟩:Array UInt8))=decide (a=b);by_cases h:a=b
 ·subst h;simp
 ·have:(⟨a⟩:Array UInt8) ≠ ⟨b⟩:=fun e=>h (by injection e);simp only [h,decide_false];exact beq_false_of_ne this
theorem Qtz {P:Program} {kt:TypeId} {d:TypeDesc} {k k':MK} (hd:P.underlying kt=some d) (h:Qb9 P kt k=true) (h':Qb9 P kt k'=true):Instr.sameNow d k.val k'.val=some (decide (k'=k)):=by
 cases k with
 | i z=>
  simp only [Qb9,hd] at h;cases k' with
  | i z'=>
   simp only [Qb9,hd] at h'
   split at h
   ·rename_i e;obtain rfl:=W0c e;simp only [Instr.sameNow,MK.val,if_true];by_cases hz:z'=z
    ·subst hz;simp
    ·have h1:¬ z=z':=fun e=>hz e.symm;simp [hz,h1]
   ·cases h
  | s l=>
   simp only [Qb9,hd] at h'
   split at h
   ·rename_i e;obtain rfl:=W0c e;simp at h'
   ·cases h
 | s l=>
  simp only [Qb9,hd] at h;cases k' with
  | i z'=>
   simp only [Qb9,hd] at h'
   split at h
   ·rename_i e;obtain rfl:=W0c e;simp at h'
   ·cases h
  | s l'=>
   split at h
   ·rename_i e;obtain rfl:=W0c e;simp only [Instr.sameNow,MK.val];by_cases hz:l'=l
    ·subst hz;simp [Qnn]
    ·have h1:¬ l=l':=fun e=>hz e.symm;simp [Qnn,hz,h1]
   ·cases h
theorem Qep {P:Program} {kt:TypeId} {d:TypeDesc} {k:MK} (hd:P.underlying kt=some d) (h:Qb9 P kt k=true) :
  ∀ (es:List (MK × AV)) (es':List MapEntry) (i:Nat),es.length=es'.length→(∀ p∈es,Qb9 P kt p.1=true)→(∀ (j:Nat) (p:MK × AV) (e:MapEntry),es[j]?=some p→es'[j]?=some e→e.key=p.1.val) →
   (Qdb k es i=none→Instr.findNow d k.val es' i=some none) ∧
   ∀ j x,Qdb k es i=some (j,x)→∃ e q,es'[q]?=some e∧es[q]?=some (k,x)∧j=i+q∧Instr.findNow d k.val es' i=some (some (j,e.val))
 | [],[],i,_,_,_=>⟨fun _=>rfl,fun j x hx=>by simp [Qdb] at hx⟩
 | p :: es,e :: es',i,hl,hk,he=>by
  have h0:=he 0 p e rfl rfl;have hs:=Qtz (k:=k) (k':=p.1) hd h (hk p (by simp));obtain ⟨g1,g2⟩:=Qep hd h es es' (i+1) (by simpa using hl) (fun p hp=>hk p (by simp [hp])) (fun j p e hp hq=>he (j+1) p e (by simpa using hp) (by simpa using hq));simp only [Qdb,Instr.findNow,h0,hs];by_cases hp:p.1=k
  ·simp only [hp,if_true,decide_true];refine ⟨fun h=>by simp at h,fun j x hx=>?_⟩;simp only [W0k,W0s] at hx;obtain ⟨rfl,rfl⟩:=hx;exact ⟨e,0,rfl,by simp [← hp],rfl,rfl⟩
  ·simp only [hp,if_false,decide_false];refine ⟨g1,fun j x hx=>?_⟩;obtain ⟨e',q,q1,q2,q3,q4⟩:=g2 j x hx;exact ⟨e',q+1,by simpa using q1,by simpa using q2,by omega,q4⟩
def insO (P:Program) (ops:Array Oper) (s:LS) (i:Nat):Option (TypeId × Nat × Nat × MK × AV × Option Tmp):=
 match opAt ops s i with
 | some o=>
  match o.op with
  | .insert t m k x=>
   match P.underlying t,s.ev m,keyA (s.ev k) with
   | some (.map kt _),.mref id r,some kk=>some (kt,id,r,kk,s.ev x,o.dst)
   | _,_,_=>none
  | .mapUpdate t m k x=>
   match P.underlying t,s.ev m,keyA (s.ev k) with
   | some (.map kt _),.mref id r,some kk=>some (kt,id,r,kk,s.ev x,o.dst)
   | _,_,_=>none
  | _=>none
 | none=>none
theorem Qbh {P:Program} {kt:TypeId} {k:MK} (b:Bool) (h:Qb9 P kt k=true) (w:World):(Instr.checkKey b 10000 kt k.val).run P w=.ok () w:=by
 rw [show (10000:Nat)=9999+1 from rfl,Instr.checkKey];cases k with
 | i z=>
  simp only [Qb9] at h
  split at h
  ·rename_i hu;simp [run_underlying hu,MK.val]
  ·cases h
 | s l=>
  simp only [Qb9] at h
  split at h
  ·rename_i hu;simp [run_underlying hu,MK.val]
  ·cases h
theorem Qmy {P:Program} {kt:TypeId} {k:MK} (h:Qb9 P kt k=true):∃ d,P.underlying kt=some d:=by
 cases k<;>simp only [Qb9] at h<;>split at h<;>first | (rename_i hu;exact ⟨_,hu⟩) | cases h
theorem Zj2 {P:Program} {ops:Array Oper} {K:FS→Prop} {rest:List Nat} {i:Nat} {s s':LS} {kt:TypeId} {id r r':Nat} {k:MK} {x:AV} {es:List (MK × AV)} (h:insO P ops s i=some (kt,id,r,k,x,none))
  (hb:bget s.bx id=some (.mp r' es)) (hr:r'=r) (hk:(es.all fun p=>Qb9 P kt p.1)=true) (hk2:Qb9 P kt k=true) (hn:Qdb k es 0=none)
  (hf:s.setB id (.mp r' (es++[(k,x)]))=s') (kk:SeqR P ops K rest s'.fs):SeqR P ops K (i :: rest) s.fs:=by
 subst hr hf;have core:∀ (o:Oper) (t:TypeId) (m ko xo:Operand),opAt ops s i=some o→(o.op=.insert t m ko xo∨o.op=.mapUpdate t m ko xo)→(∃ e,P.underlying t=some (.map kt e))→s.ev m=.mref id r'→keyA (s.ev ko)=some k→s.ev xo=x→o.dst=none→SeqR P ops K (i :: rest) s.fs:=by
  intro o t m ko xo ho hop hu hm hko hx hd;obtain ⟨hi,hg⟩:=Qbl ho;have hmo:m∈o.op.operands∧ko∈o.op.operands∧xo∈o.op.operands:=by
   rcases hop with h | h<;>simp [h,Op.operands]
  refine ⟨o,hi,.inr ⟨hg,.inr (.inr ⟨by rcases hop with h | h<;>(rw [h];rfl),by rcases hop with h | h<;>(rw [h];rfl),id,fun z y'=>z=.any∧y'=.mp r' (es++[(k,x)]),?_,?_⟩)⟩⟩
  ·refine Qtn.up ?_;intro D w a Q K' hD hops hbx hnd hcont;have hvm:=Qa2 hops m hmo.1;have hvk:=Qa2 hops ko hmo.2.1;have hvx:=Qa2 hops xo hmo.2.2;rw [hm] at hvm;rw [Qmz hko] at hvk;rw [hx] at hvx;generalize hmv:a.eval m=vm at hvm;generalize hkv:a.eval ko=vk at hvk;generalize hxv:a.eval xo=vx at hvx;cases hvm;cases hvk;obtain ⟨es',clock,g1,⟨g2,gB⟩,g3,g4⟩:=hbx id _ hb;obtain ⟨d,hd'⟩:=Qmy hk2;obtain ⟨e,hu⟩:=hu;have hfind:=(Qep hd' hk2 es es'.toList 0 (by simpa using g2) (fun p hp=>W1z.1 hk p hp) (fun j p e hp he=>g3 j p e hp (by simpa using he))).1 hn;have hrun:(Instr.mapUpdate t (.map (some r')) k.val vx).run P w=.ok () { w with heap:=w.heap.setIfInBounds r' (.map (es'.push { key:=k.val,val:=vx,born:=clock }) (clock+1)) }:=by
    have e1:(getObj r').run P w=.ok (.map es' clock) w:=by simp [getObj,Sem.run,g1]
    have e2:∀ o',(setObj r' o').run P w=.ok () { w with heap:=w.heap.setIfInBounds r' o' }:=fun o'=>by simp [setObj,Sem.run,g1]
    simp [Instr.mapUpdate,run_underlying hu,e1,Qbh false hk2,Instr.findKey,run_underlying hd',hfind,e2]
   have hexec:(execOp a.eval o).run P w=.ok .skip { w with heap:=w.heap.setIfInBounds r' (.map (es'.push { key:=k.val,val:=vx,born:=clock }) (clock+1)) }:=by
    rcases hop with h | h<;>simp [execOp,h,hmv,hkv,hxv,hrun]
   unfold Oper.wp;rw [hexec,Oper.upon_skip];have hlt:r'<w.heap.size:=(W06.1 g1).1;have hother:∀ q,q ≠ r'→(w.heap.setIfInBounds r' (.map (es'.push { key:=k.val,val:=vx,born:=clock }) (clock+1)))[q]?=w.heap[q]?:=fun q hq=>Array.getElem?_setIfInBounds_ne (Ne.symm hq);have hfr:∀ b u,Ra D w b u→Ra D { w with heap:=w.heap.setIfInBounds r' (.map (es'.push { key:=k.val,val:=vx,born:=clock }) (clock+1)) } b u:=fun b u hu=>
    hu.frame (fun _ h=>h) (by simp) (fun b hdb hl=>hother b (fun e=>hnd _ r' hb rfl (e ▸ hdb)))
   refine hcont undef _ .any _ _ ⟨rfl,rfl⟩ hb ⟨rfl,rfl,rfl,by simp,fun q hq=>by omega⟩ (fun q hq _=>hother q (fun e=>hq (by rw [e];rfl))) (fun g hg=>⟨.inl hg,hnd _ g hb hg⟩)
    ⟨es'.push { key:=k.val,val:=vx,born:=clock },clock+1,by simp [hlt],⟨by simp [g2],Zfl gB _ _⟩,fun j p e hp he=>?_,fun j p e hp he=>?_⟩ (.any _)
   ·by_cases hj:j<es.length
    ·rw [W0o hj] at hp;rw [Array.getElem?_push_lt (by omega)] at he;exact g3 j p e hp (by rw [← he];simp [show j<es'.size by omega])
    ·rw [W0n (by omega)] at hp;have hj2:j=es.length:=by have:=(W0i.1 hp).1;simp at this;omega
     subst hj2;simp [g2] at hp he;subst hp he;rfl
   ·by_cases hj:j<es.length
    ·rw [W0o hj] at hp;rw [Array.getElem?_push_lt (by omega)] at he;exact hfr _ _ (g4 j p e hp (by rw [← he];simp [show j<es'.size by omega]))
    ·rw [W0n (by omega)] at hp;have hj2:j=es.length:=by have:=(W0i.1 hp).1;simp at this;omega
     subst hj2;simp [g2] at hp he;subst hp he;exact hfr _ _ hvx
  ·rintro z y' ⟨rfl,rfl⟩;rw [hd];have:=kk;rw [← LS.fs_setB] at this;exact this
 unfold insO at h
 split at h
 ·rename_i o ho
  split at h
  ·rename_i t m ko xo hop
   split at h
   ·rename_i kt' e id' r kk' hu hm hko;simp only [W0k,W0s] at h;obtain ⟨rfl,rfl,rfl,rfl,hx,hd⟩:=h;exact core o t m ko xo ho (.inl hop) ⟨e,hu⟩ hm hko hx hd
   ·cases h
  ·rename_i t m ko xo hop
   split at h
   ·rename_i kt' e id' r kk' hu hm hko;simp only [W0k,W0s] at h;obtain ⟨rfl,rfl,rfl,rfl,hx,hd⟩:=h;exact core o t m ko xo ho (.inr hop) ⟨e,hu⟩ hm hko hx hd
   ·cases h
  ·cases h
 ·cases h
theorem Fz.mref (id r:Nat) (es:List (MK × AV)):FzS (.mp r es) (.mref id r) (.mp es):=fun D w v hD hy h=>by
 cases h;obtain ⟨es',clock,h1,h2,h3,h4⟩:=hy;exact .mp es r es' clock (.inr rfl) (W06.1 h1).1 h1 h2 h3 (fun j p e hp he=>(h4 j p e hp he).frame (fun b h=>.inl h) (W0m _) (fun _ _ _=>rfl))
def lkO (P:Program) (ops:Array Oper) (s:LS) (i:Nat):Option (TypeId × TypeId × List (MK × AV) × MK × Bool × Option Tmp):=
 match opAt ops s i with
 | some o=>
  match o.op with
  | .lookup t m k ok=>
   match P.underlying t,s.ev m,keyA (s.ev k) with
   | some (.map kt e),.mp es,some kk=>some (kt,e,es,kk,ok,o.dst)
   | _,_,_=>none
  | _=>none
 | none=>none
def fdV (fd:Option (Nat × AV)) (zv:Value):AV:=
 match fd with
 | some p=>p.2
 | none=>.val zv
def Qr9 (ok:Bool) (v:AV) (b:Bool):AV:=if ok then .tup [v,.val (.bool b)] else v
theorem Zlj {P:Program} {ops:Array Oper} {K:FS→Prop} {rest:List Nat} {i:Nat} {s s':LS} {kt e:TypeId} {k:MK} {es:List (MK × AV)} {ok:Bool} {d:Option Tmp} (fd:Option (Nat × AV)) (zv:Value) (h:lkO P ops s i=some (kt,e,es,k,ok,d))
  (hk:(es.all fun p=>Qb9 P kt p.1)=true) (hk2:Qb9 P kt k=true) (hz:(P.info? e).bind (·.zero)=some zv) (hn:Qdb k es 0=fd)
  (hf:s.put d (Qr9 ok (fdV fd zv) fd.isSome)=s') (kk:SeqR P ops K rest s'.fs):SeqR P ops K (i :: rest) s.fs:=by
 subst hf;unfold lkO at h
 split at h
 ·rename_i o ho;obtain ⟨hi,hg⟩:=Qbl ho
  split at h
  ·rename_i t m ko ok' hop
   split at h
   ·rename_i kt' e' es1 kk' hu hm hko;simp only [W0k,W0s] at h;obtain ⟨rfl,rfl,rfl,rfl,rfl,rfl⟩:=h;refine ⟨o,hi,.inr ⟨hg,.inr (.inl ⟨by rw [hop];rfl,fun z nb=>z=Qr9 ok' (fdV fd zv) fd.isSome∧nb=none,?_,?_⟩)⟩⟩
    ·intro D w a Q K' hD hops hbx hcont;have hvm:=Qa2 hops m (by simp [hop,Op.operands]);have hvk:=Qa2 hops ko (by simp [hop,Op.operands]);rw [hm] at hvm;rw [Qmz hko] at hvk;generalize hmv:a.eval m=vm at hvm;generalize hkv:a.eval ko=vk at hvk;cases hvk;cases hvm with
     | mp es r es' clock g1 g2 g3 g4' g5 g6=>
      obtain ⟨g4,gB⟩:=g4';obtain ⟨dd,hd'⟩:=Qmy hk2;have e1:(getObj r).run P w=.ok (.map es' clock) w:=by simp [getObj,Sem.run,g3]
      obtain ⟨f1,f2⟩:=Qep hd' hk2 es1 es'.toList 0 (by simpa using g4) (fun p hp=>W1z.1 hk p hp) (fun j p e hp he=>g5 j p e hp (by simpa using he));have main:∃ v,(execOp a.eval o).run P w=.ok (.value v) w∧Ra D w (Qr9 ok' (fdV fd zv) fd.isSome) v:=by
       cases fd with
       | none=>
        have hfind:=f1 hn;obtain ⟨inf,hi1,hi2⟩:∃ inf,P.info? e'=some inf∧inf.zero=some zv:=by
         cases hinf:P.info? e' with
         | none=>rw [hinf] at hz;cases hz
         | some inf=>rw [hinf] at hz;exact ⟨inf,rfl,hz⟩
        cases ok' with
        | true=>
         refine ⟨.tuple #[zv,.bool false],by simp [execOp,hop,hmv,hkv,Instr.lookup,run_underlying hu,e1,Qbh _ hk2,Instr.findKey,run_underlying hd',hfind,zeroValue,typeInfo,hi1,hi2],.tup _ _ rfl (fun j x v hx hv=>?_)⟩
         match j,hx,hv with
         | 0,hx,hv=>simp at hx hv;subst hx hv;exact .val _
         | 1,hx,hv=>simp at hx hv;subst hx hv;exact .val _
         | j+2,hx,_=>simp at hx
        | false=>
         exact ⟨zv,by simp [execOp,hop,hmv,hkv,Instr.lookup,run_underlying hu,e1,Qbh _ hk2,Instr.findKey,run_underlying hd',hfind,zeroValue,typeInfo,hi1,hi2],.val _⟩
       | some p=>
        obtain ⟨j,x⟩:=p;obtain ⟨en,q,q1,q2,q3,hfind⟩:=f2 j x hn;have hre:=g6 q _ en q2 (by simpa using q1);cases ok' with
        | true=>
         refine ⟨.tuple #[en.val,.bool true],by simp [execOp,hop,hmv,hkv,Instr.lookup,run_underlying hu,e1,Qbh _ hk2,Instr.findKey,run_underlying hd',hfind],.tup _ _ rfl (fun j x v hx hv=>?_)⟩
         match j,hx,hv with
         | 0,hx,hv=>simp at hx hv;subst hx hv;exact hre
         | 1,hx,hv=>simp at hx hv;subst hx hv;exact .val _
         | j+2,hx,_=>simp at hx
        | false=>
         exact ⟨en.val,by simp [execOp,hop,hmv,hkv,Instr.lookup,run_underlying hu,e1,Qbh _ hk2,Instr.findKey,run_underlying hd',hfind],hre⟩
      obtain ⟨v,m1,m2⟩:=main;unfold Oper.wp;rw [m1,Oper.upon_value];exact hcont _ w _ none D ⟨rfl,rfl⟩ (Below.refl _ _) (fun _ h=>h) (fun b h=>⟨hD b h,.inl h⟩) m2 (fun id y h=>by cases h)
    ·rintro z nb ⟨rfl,rfl⟩;refine ⟨fun id y h=>(by cases h),?_⟩;simp only [FS.addB];rw [LS.fs_put];exact kk
   ·cases h
  ·cases h
 ·cases h
end Copyhold

set_option linter.unusedSimpArgs false
namespace Go.Proofs.YtkhodpknpligpaaGreat
open Go.RowKit Copyhold
theorem Zbx {D:Nat→Prop} {w:World} {vs:List Value} {u:Value} (h:Ra D w (.agg (vs.map AV.val)) u):u=.agg vs.toArray:=by
 cases h with
 | agg cs us h1 h2 h3=>
  congr 1;apply Array.ext';apply List.ext_getElem?;intro j;have hl:us.size=vs.length:=by simpa using h1.symm
  by_cases hj:j<vs.length
  ·have e1:us.toList[j]?=some us[j]:=by simp [W17,hl,hj]
   have h4:=h3 j (AV.val vs[j]) us[j] (by simp [hj]) (by simp [hl,hj]);rw [e1,W0d hj];generalize us[j]=p at h4;generalize vs[j]=q at h4;cases h4;rfl
  ·rw [W1h (by simpa [hl] using Nat.le_of_not_lt hj),W1h (by simpa using Nat.le_of_not_lt hj)]
def eqFs (P:Program) (rec:TypeId→AV→AV→Option Bool) (xs ys:List AV):List Field→Option Bool
 | []=>some true
 | f :: fs=>
  bif f.name == "_" then none else
  match Qny P f.type (xs.drop f.offset),Qny P f.type (ys.drop f.offset) with
  | some a,some b=>
   match rec f.type a b,eqFs P rec xs ys fs with
   | some r,some q=>some (r&&q)
   | _,_=>none
  | _,_=>none
def eqA (P:Program):Nat→TypeId→AV→AV→Option Bool
 | 0,_,_,_=>none
 | d+1,t,x,y=>
  match P.underlying t,x,y with
  | some (.int _),.val (.int .i64 a),.val (.int .i64 b)=>some (a==b)
  | some (.int _),.val (.int .u8 a),.val (.int .u8 b)=>some (a==b)
  | some (.int _),.val (.int .u64 a),.val (.int .u64 b)=>some (a==b)
  | some .bool,.val (.bool a),.val (.bool b)=>some (a==b)
  | some .string,.val (.string ⟨⟨a⟩⟩),.val (.string ⟨⟨b⟩⟩)=>some (a==b)
  | some (.struct fs),.agg xs,.agg ys=>bif P.stoodInHeld t then none else eqFs P (eqA P d) xs ys fs.toList
  | _,_,_=>none
theorem Zec {P:Program}:∀ (d:Nat) (t:TypeId) (x y:AV) (b:Bool),eqA P d t x y=some b→∀ (D:Nat→Prop) (w:World) (u v:Value),Ra D w x u→Ra D w y v→∀ k,(Op.equalIn (d+k) t u v).run P w=.ok b w
 | 0,_,_,_,_,h=>by cases h
 | d+1,t,x,y,b,h=>by
  intro D w u v hu hv k;rw [show d+1+k=(d+k)+1 by omega];unfold eqA at h
  split at h
  ·rename_i e;cases hu;cases hv;cases h;simp [Op.equalIn,run_underlying e]
  ·rename_i e;cases hu;cases hv;cases h;simp [Op.equalIn,run_underlying e]
  ·rename_i e;cases hu;cases hv;cases h;simp [Op.equalIn,run_underlying e]
  ·rename_i e;cases hu;cases hv;cases h;simp [Op.equalIn,run_underlying e]
  ·rename_i e;cases hu;cases hv;cases h;simp [Op.equalIn,run_underlying e,beq_toListBytes]
  ·rename_i fs xs ys e;cases hst:P.stoodInHeld t with
   | true=>simp [hst] at h
   | false=>
   simp only [hst,cond_false] at h;cases hu with
   | agg _ us a1 a2 a3=>
   cases hv with
   | agg _ vs b1 b2 b3=>
   have hf:P.fieldsOf t=fs:=by simp [Program.fieldsOf,e]
   rw [run_equalIn_agg (ht:=by rw [hf];exact e) (hp:=hst),hf]
   revert h
   generalize fs.toList=l;intro h;clear hf e
   induction l generalizing b with
   | nil=>simp only [eqFs,W0k] at h;subst h;simp [Op.eqFields]
   | cons f l ih=>
    unfold eqFs at h
    cases hn : (f.name == "_") with
    | true=>simp [hn] at h
    | false=>
    simp only [hn,cond_false] at h
    split at h
    ·rename_i a c ha hc
     split at h
     ·rename_i r q hr hq;cases h;obtain ⟨va,ra,ha'⟩:=Qpv (P:=P) (w:=w) (D:=D) ⟨a1.symm,a2,a3⟩ ha;obtain ⟨vc,rc,hc'⟩:=Qpv (P:=P) (w:=w) (D:=D) ⟨b1.symm,b2,b3⟩ hc;have hb:=Zec d f.type a c r hr D w va vc ha' hc' k;have hi:=ih q hq;unfold Op.eqFields;rw [W1x (by simpa using hn)];simp only [Sem.run_bind,ra,rc,hb,Result.andThen_ok,Sem.run_ite,Sem.run_pure];cases r
      ·simp
      ·simpa using hi
     ·cases h
    ·cases h
  ·cases h
def eqO (P:Program) (ops:Array Oper) (s:LS) (i:Nat):Option (Nat × Bool):=
 match opAt ops s i with
 | some o=>
  match o.op,o.dst with
  | .binOp op t x y _,some d=>
   match P.underlying t,op,s.ev x,s.ev y with
   | some (.struct _),.eql,.agg xs,.agg ys=>
    bif P.eqGuardType P.depth t then none else match eqA P 20 t (.agg xs) (.agg ys) with
    | some b=>some (d,b)
    | none=>none
   | some (.struct _),.neq,.agg xs,.agg ys=>
    bif P.eqGuardType P.depth t then none else match eqA P 20 t (.agg xs) (.agg ys) with
    | some b=>some (d,!b)
    | none=>none
   | _,_,_,_=>none
  | _,_=>none
 | none=>none
theorem seqEqS {P:Program} {ops:Array Oper} {K:FS→Prop} {rest:List Nat} {i:Nat} {s s':LS} {d:Nat} {b:Bool} (h:eqO P ops s i=some (d,b))
  (hs:s.put (some d) (.val (.bool b))=s') (kk:SeqR P ops K rest s'.fs):SeqR P ops K (i :: rest) s.fs:=by
 unfold eqO at h
 split at h
 ·rename_i o ho;obtain ⟨hi,hg⟩:=Qbl ho
  split at h
  ·rename_i op t x y yt d' hop hd
   split at h
   ·rename_i fs xs ys hu hx hy;cases hgt:P.eqGuardType P.depth t with
    | true=>simp [hgt] at h
    | false=>
    simp only [hgt,cond_false] at h
    split at h
    ·rename_i b' hb;cases h;refine ⟨o,hi,.inr ⟨hg,.inl ⟨.val (.bool b),.inl fun D w ρ hops=>?_,by rw [hd,LS.fs_put,hs];exact kk⟩⟩⟩;have hvx:=Qa2 hops x (by simp [hop,Op.operands]);have hvy:=Qa2 hops y (by simp [hop,Op.operands]);rw [hx] at hvx;rw [hy] at hvy;have hq:=Zec 20 t _ _ b hb D w _ _ hvx hvy 9980;generalize hxv:ρ x=u at hvx hq;generalize hyv:ρ y=v at hvy hq;cases hvx with
     | agg _ us a1 a2 a3=>
     cases hvy with
     | agg _ vs c1 c2 c3=>
     refine ⟨_,?_,.val _⟩;have hq':(Op.equalIn 10000 t (.agg us) (.agg vs)).run P w=.ok b w:=hq;simp [execOp,hop,hxv,hyv,run_eqGuard_agg _ _ _ _ _ _ _ hgt,run_eql_struct,hq']
    ·cases h
   ·rename_i fs xs ys hu hx hy;cases hgt:P.eqGuardType P.depth t with
    | true=>simp [hgt] at h
    | false=>
    simp only [hgt,cond_false] at h
    split at h
    ·rename_i b' hb;cases h;refine ⟨o,hi,.inr ⟨hg,.inl ⟨.val (.bool (!b')),.inl fun D w ρ hops=>?_,by rw [hd,LS.fs_put,hs];exact kk⟩⟩⟩;have hvx:=Qa2 hops x (by simp [hop,Op.operands]);have hvy:=Qa2 hops y (by simp [hop,Op.operands]);rw [hx] at hvx;rw [hy] at hvy;have hq:=Zec 20 t _ _ b' hb D w _ _ hvx hvy 9980;generalize hxv:ρ x=u at hvx hq;generalize hyv:ρ y=v at hvy hq;cases hvx with
     | agg _ us a1 a2 a3=>
     cases hvy with
     | agg _ vs c1 c2 c3=>
     refine ⟨_,?_,.val _⟩;have hq':(Op.equalIn 10000 t (.agg us) (.agg vs)).run P w=.ok b' w:=hq;simp [execOp,hop,hxv,hyv,run_eqGuard_agg _ _ _ _ _ _ _ hgt,run_neq_struct,hq']
    ·cases h
   ·cases h
  ·cases h
 ·cases h
end Go.Proofs.YtkhodpknpligpaaGreat

namespace Copyhold
open Go Go.RowKit
theorem Qn3 {k:Nat}:∀ (n:Nat) (cs:List AV),cs.length=n*k→(Qc7 k cs n).flatten=cs:=by
 intro n
 induction n with
 | zero=>intro cs h;simp at h;subst h;rfl
 | succ n ih=>
  intro cs h;have h1:(cs.take (n*k)).length=n*k:=by rw [W0g,h,W2f];omega
  have e:Qc7 k cs (n+1)=Qc7 k (cs.take (n*k)) n++[cs.drop (n*k)]:=by
   unfold Qc7;rw [List.range_succ,W1r];congr 1
   ·refine List.map_congr_left fun i hi=>?_;have hi:i<n:=by simpa using hi
    have h2:(i+1)*k≤n*k:=W1d k hi;rw [W2f] at h2;rw [List.drop_take,List.take_take,Nat.min_eq_left (by omega)]
   ·simp only [W1t,List.map_nil];rw [W1a (by rw [W0p,h,W2f];omega)]
  rw [e,W19,ih _ h1];simp
def litN (P:Program) (ops:Array Oper) (s:LS) (i:Nat):Option (TypeId × Nat × Nat × Nat × List AV):=
 match opAt ops s i with
 | some o=>
  match o.op,o.dst with
  | .buildSlice t n parts,some d=>
   match Qk4 P t with
   | some e=>
    match szP P e,Qtq P e,Qhu (parts.toList.map fun p=>(p.1,s.ev p.2)) with
    | some k,some z,some qs=>
     bif Nat.beq z.length k&&(Nat.ble 1 k&&Nat.ble (n*k) 16777216) then
      match Qn4 ((List.range n).map fun j=>(j*k,k)) (List.flatten (List.replicate n z)) qs with
      | some cs=>some (e,k,d,n,cs)
      | none=>none
     else none
    | _,_,_=>none
   | none=>none
  | _,_=>none
 | none=>none
theorem Zlk {P:Program} {ops:Array Oper} {K:FS→Prop} {rest:List Nat} {i:Nat} {s:LS} {e k d n:Nat} {cs:List AV} {f:Value→LS}
  (h:litN P ops s i=some (e,k,d,n,cs)) (hn:bget s.bx d=none) (hf:∀ V',(s.put (some d) (.rw d V' n)).setB d (.row V' e k (Qc7 k cs n))=f V') (kk:∀ V',SeqR P ops K rest (f V').fs):SeqR P ops K (i :: rest) s.fs:=by
 unfold litN at h
 split at h
 ·rename_i o ho;obtain ⟨hi,hg⟩:=Qbl ho
  split at h
  ·rename_i t n' parts d' hop hd
   split at h
   ·rename_i e' he
    split at h
    ·rename_i k' z qs hks hz hqs;cases hb:(Nat.beq z.length k'&&(Nat.ble 1 k'&&Nat.ble (n'*k') 16777216)) with
     | false=>rw [hb] at h;cases h
     | true=>
      rw [hb] at h;simp only [W0r] at hb;have h1:z.length=k':=W0q hb.1;have h2:1≤k':=W05 hb.2.1;have h3:n'*k'≤16777216:=W05 hb.2.2;simp only [cond_true] at h
      split at h
      ·rename_i cs' hcs;simp only [W0k,W0s] at h;obtain ⟨rfl,rfl,rfl,rfl,rfl⟩:=h;have hlen:cs'.length=n'*k':=by
        rw [Qg6 qs _ cs' hcs];simp [h1]
       have hch:(Qc7 k' cs' n').length=n':=by simp [Qc7]
       have hnk:n'≤n'*k':=Nat.le_mul_of_pos_right n' h2;have hck:∀ l∈Qc7 k' cs' n',l.length=k':=fun l hl=>by
        unfold Qc7 at hl;obtain ⟨j,hj,rfl⟩:=W1i.1 hl;have hj:j<n':=by simpa using hj
        have:(j+1)*k'≤n'*k':=W1d k' hj;rw [W2f] at this;rw [W0g,W0p,hlen];omega
       refine ⟨o,hi,.inr ⟨hg,.inr (.inl ⟨by rw [hop];rfl,_,Qlj (e:=e') (k:=k') (xs:=Qc7 k' cs' n') hd hck (fun D w ρ hops=>?_),?_⟩)⟩⟩
       ·obtain ⟨it,zv,hi2,hzv,hrep⟩:=Qin (D:=D) (w:=w) hz;have hzs:zv.cells.size=k':=by rw [hrep.1,h1]
        obtain ⟨g1,g2⟩:=Qf5 (D:=D) (w:=w) _ qs (parts.map fun (i,x)=>(i,ρ x)).toList hqs (by simp) (fun j p v hp hv=>by
         simp only [W0v,W17] at hp;simp only [W17,Array.getElem?_map] at hv;cases hq:parts[j]? with
         | none=>rw [hq] at hp;cases hp
         | some q=>
          rw [hq] at hp hv;obtain rfl:=W0c hp;obtain rfl:=W0c hv;refine ⟨rfl,Qa2 hops q.2 ?_⟩;simp only [hop,Op.operands,List.mem_toArray,W1i,Array.mem_toList_iff];exact ⟨q,W2a hq,rfl⟩)
        have hz0:=Qhi hrep n';obtain ⟨vs',f1,f2⟩:=Qql (D:=D) (w:=w) (pf:=fun i=>some (i*k',k')) (fun i p hp=>by
         simp only [W0v] at hp;cases hr:(List.range n')[i]? with
         | none=>rw [hr] at hp;cases hp
         | some m=>
          rw [hr] at hp;obtain rfl:=W0c hp;obtain ⟨h1,h2⟩:=W0i.1 hr;simp at h2;rw [h2]) qs _ _ _ cs' hz0 g1 g2 hcs
        have hvl:vs'.size=n'*k':=by rw [f2.1,hlen]
        refine ⟨.slice (some ⟨w.heap.size,0,none⟩) n' n',w.alloc (.cells vs' e'),vs'.toList,?_,World.grownBy_alloc w _ none,?_,fun u hu=>?_,fun j a u ha hu=>?_⟩
        ·have hnn:¬ (n'*k'>2 ^ 24):=by omega
         by_cases h0:n'*k'=0
         ·have hn0:n'=0:=by omega
          subst hn0;simp at f1;simp [execOp,hop,Instr.buildSlice,run_underlying (Qgv he),Qcy hks,show Array.range 0=#[] from rfl,f1,newRow]
         ·have f1':Instr.fill (fun i=>some (i*k',k')) ((Array.range (n'*k')).map (fun x=>zv.cells[x % zv.cells.size]!)) (parts.map fun (i,x)=>(i,ρ x)).toList=some vs':=by
           rw [← f1];congr 1;have:=Qpf zv.cells n' (by omega);rw [← this];simp only [hzs]
          simp [execOp,hop,Instr.buildSlice,run_underlying (Qgv he),Qcy hks,hnn,h0,zeroValue,typeInfo,hi2,hzv];simp at f1'
          try simp [f1',newRow]
        ·rw [hch];exact ⟨by simp [hvl],.inr ⟨w.heap.size,n',vs',rfl,W0m _,heap_alloc_new w _,W0m _,by unfold maxLen;omega,hvl,by rw [W1a (by simp [hvl])]⟩⟩
        ·obtain ⟨j,hj,rfl⟩:=List.mem_iff_getElem.1 hu;exact f2.2.1 j _ (by simp at hj ⊢)
        ·rw [Qn3 n' cs' hlen] at ha;exact f2.2.2 j a u ha (by simpa using hu)
       ·rintro z' nb ⟨V',rfl,rfl⟩;refine ⟨fun id y hy=>?_,?_⟩
        ·obtain ⟨rfl,rfl⟩:=by simpa using hy
         exact hn
        ·have:=kk V';rw [← hf V',← LS.fs_setB,← LS.fs_put] at this;rw [hd,hch];exact this
      ·cases h
    ·cases h
   ·cases h
  ·cases h
 ·cases h
end Copyhold

namespace Copyhold
open Go Go.RowKit
def blkB (ops:Array Oper) (l:Array Bool) (i:Nat):Nat→Nat→Bool
 | 0,_=>false
 | n+1,j=>
  match ops[j]? with
  | some oj=>(oj.after.any fun e=>Region.binds .any e&&e.on==i)||oj.after.any fun e=>Region.binds .any e&&(!l.getD e.on true&&blkB ops l i n e.on)
  | none=>false
theorem Zkx {ops:Array Oper} {l:Array Bool} {i:Nat}:∀ n j,blkB ops l i n j=true→blkA ops l i n j=true
 | 0,_,h=>by cases h
 | n+1,j,h=>by
  unfold blkB at h;unfold blkA;cases hj:ops[j]? with
  | none=>rw [hj] at h;cases h
  | some oj=>
   rw [hj] at h;simp only at h ⊢;rw [W15] at h;rcases h with h | h
   ·obtain ⟨e,he,hb⟩:=Array.any_eq_true'.1 h;refine Array.any_eq_true'.2 ⟨e,he,?_⟩;simp only [W0r] at hb ⊢;exact ⟨hb.1,by rw [hb.2];rfl⟩
   ·obtain ⟨e,he,hb⟩:=Array.any_eq_true'.1 h;refine Array.any_eq_true'.2 ⟨e,he,?_⟩;simp only [W0r,W15] at hb ⊢;exact ⟨hb.1,.inr ⟨hb.2.1,Zkx n e.on hb.2.2⟩⟩
def Zid (P:Program) (ops:Array Oper) (l:Array Bool) (i:Nat):Bool:=
 match ops[i]? with
 | none=>false
 | some oi=>isRd P oi.op&&(List.range ops.size).all fun j=>j==i||l.getD j true||match ops[j]? with
   | some oj=>(oi.apart ops oj&&(!isLd oi.op||!Qsf oj.op))||blkB ops l i ops.size j
   | none=>true
theorem Zd3 {P:Program} {ops:Array Oper} {l:Array Bool} {i:Nat} (h:Zid P ops l i=true):Zd4 P ops l i=true:=by
 unfold Zid at h;unfold Zd4;cases hi:ops[i]? with
 | none=>rw [hi] at h;cases h
 | some oi=>
  rw [hi] at h;simp only [W0r,W1z] at h ⊢;refine ⟨h.1,fun j hj=>?_⟩;have:=h.2 j hj;simp only [W15] at this ⊢;rcases this with h1 | h1
  ·exact .inl h1
  ·refine .inr ?_;cases hoj:ops[j]? with
   | none=>rfl
   | some oj=>
    simp only [hoj,W15] at h1 ⊢;rcases h1 with h2 | h2
    ·exact .inr h2
    ·exact .inl (Zkx _ _ h2)
def Qoj (P:Program) (ops:Array Oper):List Nat→Array Bool→Bool
 | [],l=>(Region.ready .any ops l).isEmpty
 | i :: r,l=>(((Region.ready .any ops l).contains i&&Zid P ops l i)||Region.ready .any ops l==[i])&&Qoj P ops r (l.setIfInBounds i true)
theorem Qpz {P:Program} {ops:Array Oper}:∀ {r:List Nat} {l:Array Bool},Qoj P ops r l=true→Qui P ops r l=true
 | [],l,h=>h
 | i :: r,l,h=>by
  simp only [Qoj,Qui,W0r,W15] at h ⊢;refine ⟨?_,Qpz h.2⟩;rcases h.1 with h1 | h1
  ·exact .inl ⟨Zd3 h1.2,h1.1⟩
  ·exact .inr h1
def Quh (P:Program) (ops:Array Oper):List Nat→Array Bool→Bool
 | [],_=>true
 | i :: r,l=>(((Region.ready .any ops l).contains i&&Zid P ops l i)||Region.ready .any ops l==[i])&&Quh P ops r (l.setIfInBounds i true)
def aft:List Nat→Array Bool→Array Bool
 | [],l=>l
 | i :: r,l=>aft r (l.setIfInBounds i true)
theorem Qi3 {P:Program} {ops:Array Oper} {K:FS→Prop} {f:Nat}:∀ (r:List Nat) (l:Array Bool) (s:FS),Quh P ops r l=true→SeqR P ops (aAny P ops K f (aft r l)) r s→aAny P ops K (r.length+f) l s
 | [],l,s,_,hs=>by
  rw [W0f,Nat.zero_add];exact hs
 | i :: r,l,s,h,hs=>by
  simp only [Quh,W0r,W15] at h;obtain ⟨h1,h2⟩:=h;rw [W0b,show r.length+1+f=(r.length+f)+1 from by omega];rcases h1 with ⟨hr,hf0⟩ | hr
  ·have hf:=Zd3 hf0;unfold Zd4 at hf
   split at hf
   ·cases hf
   ·rename_i oi hi;simp only [W0r,W1z,List.mem_range] at hf;obtain ⟨hrd,hf⟩:=hf;obtain ⟨o,ho,hst⟩:=hs;obtain rfl:oi=o:=W0c (hi.symm.trans ho);have hfree:∀ j oj,ops[j]?=some oj→j ≠ i→l.getD j true=false→(∀ n,blkA ops l i n j=false)→oi.apart ops oj=true∧(isLd oi.op=true→Qsf oj.op=false):=by
     intro j oj hj hne hun hno;have h3:=hf j (W06.1 hj).1;simp only [hj,W15,beq_iff_eq,hne,false_or,hun,Bool.false_eq_true,W0r,Bool.not_eq_true'] at h3;rcases h3 with h3 | ⟨h3,h4⟩
     ·rw [hno ops.size] at h3;cases h3
     ·refine ⟨h3,fun hl=>?_⟩;rcases h4 with h4 | h4
      ·rw [hl] at h4;cases h4
      ·exact h4
    have key:∃ x,Yld P ops oi s x∧SeqR P ops (aAny P ops K f (aft r (l.setIfInBounds i true))) r (s.put oi.dst x):=by
     rcases hst with ⟨g,hk⟩ | ⟨g,⟨x,hx,hk⟩ | ⟨g2,_⟩ | ⟨g2,_⟩⟩
     ·exact ⟨.val undef,.inl ⟨g,rfl⟩,hk⟩
     ·exact ⟨x,.inr ⟨g,hx⟩,hk⟩
     ·rw [hrd] at g2;cases g2
     ·rw [hrd] at g2;cases g2
    obtain ⟨x,hy,hk⟩:=key;exact Qpd hi (r.length+f) l s hfree (by simpa using hr) hy (Qi3 r _ _ h2 hk)
  ·have hr':Region.ready .any ops l=[i]:=by simpa using hr
   refine ⟨fun h=>(by rw [h] at hr';cases hr'),fun j hj=>?_⟩;rw [hr'] at hj;obtain rfl:j=i:=by simpa using hj
   exact hs.mono fun s' h'=>Qi3 r _ s' h2 h'
def Zhu (P:Program) (ops:Array Oper) (l:Array Bool) (f:Nat) (alts:List (List Nat)):Bool:=
 (Region.ready .any ops l==alts.map (·.headD 0))&&(!alts.isEmpty&&alts.all fun a=>match a with
  | []=>false
  | i :: r=>r.length==f&&Qoj P ops r (l.setIfInBounds i true))
theorem Zce {P:Program} {ops:Array Oper} {K:FS→Prop} {l:Array Bool} {f:Nat} {alts:List (List Nat)} {s:FS} (h:Zhu P ops l f alts=true) (ha:∀ a∈alts,SeqR P ops K a s):aAny P ops K (f+1) l s:=by
 unfold Zhu at h;simp only [W0r,beq_iff_eq,Bool.not_eq_true',W1z] at h;obtain ⟨h1,h2,h3⟩:=h;refine ⟨fun he=>?_,fun i hi=>?_⟩
 ·rw [he] at h1;cases alts with
  | nil=>cases h2
  | cons a r=>cases h1
 ·rw [h1] at hi;obtain ⟨a,ham,rfl⟩:=W1i.1 hi;have h4:=h3 a ham;have hs:=ha a ham;cases a with
  | nil=>cases h4
  | cons i r=>
   simp only [W0r,beq_iff_eq] at h4;refine Qf9.mono hs fun s' h'=>?_;have:=Qi4 r _ s' (Qpz h4.2) h';rw [h4.1] at this;exact this
end Copyhold

namespace Copyhold
open Go Go.RowKit Go.ChangeShapes Go.WideShapes Go.ChangeAt
theorem Qiq {H:Type} {enc:TypeId × Value→H} {P:Program} (hl:laidOutB P=true) {W W':World} (hb:Below W.heap.size W W') :
  ∀ (ts:List TypeId) (vs:List Value) (ds:List (DataW H)) (ps:List MemPlace),(∀ t∈ts,P.readableRec t=true∧t<P.types.size) →
   DataW.TrodAll enc P W 0 (fun _=>true) true ts vs ds ps→(∀ x∈ps,x.block<W.heap.size)→DataW.TrodAll enc P W' 0 (fun b=>decide (b<W.heap.size)) true ts vs ds ps
 | [],vs,ds,ps,_,h,_=>by
  obtain ⟨rfl,rfl,rfl⟩:=trodAll_nil h;rfl
 | t :: ts,vs,ds,ps,ht,h,hlt=>by
  obtain ⟨v,vs',d,ds',p,q,rfl,rfl,rfl,h1,h2⟩:=trodAll_cons h;have hr:=ht t (by simp);exact trodAll_cons_mk (Below.trod hl hr.1 hr.2 h1 hb (fun x hx=>hlt x (by simp [hx])))
   (Qiq hl hb ts vs' ds' q (fun u hu=>ht u (by simp [hu])) h2 (fun x hx=>hlt x (by simp [hx])))
theorem list1 {α:Type} {l:List α} (h:l.length=1):∃ x0,l=[x0]:=by
 match l,h with
 | [x0],_=>exact ⟨x0,rfl⟩
theorem Zfy {α:Type} {l:Array α} (h:l.size=1):∃ x0,l=#[x0]:=by
 obtain ⟨l⟩:=l;obtain ⟨x0,rfl⟩:=list1 h;exact ⟨x0,rfl⟩
theorem list2 {α:Type} {l:List α} (h:l.length=2):∃ x0 x1,l=[x0,x1]:=by
 match l,h with
 | [x0,x1],_=>exact ⟨x0,x1,rfl⟩
theorem Zfx {α:Type} {l:Array α} (h:l.size=2):∃ x0 x1,l=#[x0,x1]:=by
 obtain ⟨l⟩:=l;obtain ⟨x0,x1,rfl⟩:=list2 h;exact ⟨x0,x1,rfl⟩
theorem law_post {H:Type} {enc:TypeId × Value→H} {P:Program} {f:Func} {s:ChangeSpec} {W W':World} {args:Array Value} {ds gs:List (DataW H)} {before:List MemPlace} {tb:TypeId}
  (hl:laidOutB P=true) (hp:(f.params.toList.all fun t=>P.readableRec t&&decide (t<P.types.size))=true) (hr:f.resultTypes=#[tb]) (htb:P.underlying tb=some .bool) (hv:s.vars=[])
  (hfn:(s.fn H (ds++gs)).results=[.lit (.bool true)]) (hfa:(s.fn H (ds++gs)).args=ds) (hfv:(s.fn H (ds++gs)).vars=[])
  (hW:DataW.Whole enc P f.params.toList s.vars false W args.toList ds gs before) (hb:Below W.heap.size W W') :
  s.post enc P f false true false false W args (.bool true) W':=by
 have hlt:=hW.lt;have hW':=hW;obtain ⟨p,q,hA,hV,rfl,hz,hn⟩:=hW;refine ⟨ds,gs,p++q,[],p,[],hW',?_,?_,?_,hb.frame _,fun h=>by cases h⟩
 ·rw [hfn,hr];exact trodAll_cons_mk (shut_bool htb true) trodAll_mk0
 ·rw [hfa];refine Qiq hl hb _ _ _ _ (fun t ht=>?_) hA (fun x hx=>hlt x (by simp [hx]));have:=(W1z.1 hp) t ht;simpa using this
 ·rw [hfv,hv];rfl
theorem Qob {H:Type} {P:Program} {ts:List TypeId} {ds:List (DataW H)} (h:(DataW.weightsEach P ts ds).all (·≤reachBytes)=true) {n:Nat} (hn:n∈DataW.weightsEach P ts ds):n≤140737488351232:=
 of_decide_eq_true (W1z.1 h n hn)
end Copyhold

namespace Copyhold
open Go Go.RowKit Go.ChangeShapes Go.WideShapes Go.ChangeAt Go.Deep
def SlOf {α:Type} (R:α→List Value→Prop) (w:World) (k:Nat) (v:Value) (xs:List α):Prop:=
 ∃ css:List (List Value),Sl w k v xs.length css.flatten∧css.length=xs.length∧∀ (i:Nat) cs a,css[i]?=some cs→xs[i]?=some a→cs.length=k∧R a cs
theorem SlOf.mono {α:Type} {R R':α→List Value→Prop} {w:World} {k:Nat} {v:Value} {xs:List α} (h:SlOf R w k v xs) (hr:∀ a cs,R a cs→R' a cs):SlOf R' w k v xs:=by
 obtain ⟨css,h1,h2,h3⟩:=h;exact ⟨css,h1,h2,fun i cs a hc ha=>⟨(h3 i cs a hc ha).1,hr _ _ (h3 i cs a hc ha).2⟩⟩
theorem SlOf.shape {α:Type} {R:α→List Value→Prop} {w:World} {k:Nat} {v:Value} {xs:List α} (h:SlOf R w k v xs):∃ A c,v=.slice A xs.length c:=by
 obtain ⟨css,h1,_⟩:=h;obtain ⟨A,c,rfl,_⟩:=h1.shape;exact ⟨A,c,rfl⟩
theorem SlOf.below {α:Type} {R:α→List Value→Prop} {w w':World} {k:Nat} {v:Value} {xs:List α} (h:SlOf R w k v xs) (hb:Below w.heap.size w w'):SlOf R w' k v xs:=by
 obtain ⟨css,h1,h2,h3⟩:=h;exact ⟨css,h1.below hb,h2,h3⟩
theorem Qia {k:Nat}:∀ (css:List (List Value)),(∀ cs∈css,cs.length=k)→∀ (i j:Nat),j<k→css.flatten[i*k+j]?=css[i]?.bind (·[j]?):=by
 intro css
 induction css with
 | nil=>intro _ i j _;simp
 | cons c r ih=>
  intro h i j hj;have hc:=h c List.mem_cons_self;have hr:=ih (fun cs hcs=>h cs (W11 _ hcs));rw [W1f];cases i with
  | zero=>
   rw [Nat.zero_mul,Nat.zero_add,W0o (by omega)];simp
  | succ i=>
   rw [W0n (by rw [hc,W2f];omega),hc,show (i+1)*k+j-k=i*k+j from by rw [W2f];omega,hr i j hj];simp
theorem SlOf.at {α:Type} {R:α→List Value→Prop} {w:World} {k:Nat} {A:Option Addr} {c:Nat} {xs:List α} (h:SlOf R w k (.slice A xs.length c) xs) (i:Nat) {a:α} (hi:xs[i]?=some a) :
  ∃ b off cs,A=some ⟨b,off,none⟩∧b<w.heap.size∧cs.length=k∧R a cs∧∀ j y,cs[j]?=some y→w.cell? ⟨b,off+(i*k+j),none⟩=some y:=by
 obtain ⟨css,h1,h2,h3⟩:=h;have hil:=(W0i.1 hi).1;obtain ⟨b,off,rfl,hbk,_,_,hcl⟩:=h1.at (by omega);have hcs:css[i]?=some (css[i]'(by omega)):=W0d (by omega);obtain ⟨hl,hr⟩:=h3 i _ a hcs hi;have hall:∀ cs∈css,cs.length=k:=fun cs hm=>by
  obtain ⟨j,hj,rfl⟩:=List.mem_iff_getElem.1 hm;exact (h3 j _ _ (W0d hj) (W0d (by omega))).1
 refine ⟨b,off,_,rfl,hbk,hl,hr,fun j y hy=>hcl _ _ ?_⟩;have hj:=(W0i.1 hy).1;rw [Qia css hall i j (by omega),hcs];exact hy
def rowsD {H:Type} (d:DataW H) (n:Nat):Prop:=d=.nil∧n=0∨∃ elems spare,d=.slice elems spare∧elems.length=n
theorem Qoe {H:Type} {P:Program} {t e:TypeId} {d:DataW H} {n:Nat} (hu:P.underlying t=some (.slice e)) (he:rowsD d n) (hw:∀ m∈DataW.weights P t d,m≤140737488351232):n*P.bytesOf e≤140737488351232:=by
 rcases he with ⟨rfl,rfl⟩ | ⟨elems,spare,rfl,hl⟩
 ·simp
 ·have:=hw ((elems.length+spare.length)*P.bytesOf e) (by simp only [DataW.weights,hu,W0y,true_or]);rw [Nat.add_mul,hl] at this;omega
theorem Qkk {H:Type} {P:Program} {e:TypeId}:∀ (ds:List (DataW H)) (d:DataW H),d∈ds→∀ n∈DataW.weights P e d,n∈DataW.weightsAll P e ds
 | x :: r,d,h,n,hn=>by
  simp only [DataW.weightsAll,W04];rcases W0y.1 h with rfl | h
  ·exact .inl hn
  ·exact .inr (Qkk r d h n hn)
theorem Qi2 {α:Type} {R:α→List Value→Prop} {H:Type} {enc:TypeId × Value→H} {P:Program} {W:World} {t e:TypeId} {k fuel:Nat} {cs:List Value} {x:DataW H × List MemPlace} (ht:P.underlying t=some (.slice e)) (hc:P.cellsOf e=k) (hk:0<k) (a0:α)
  (hel:∀ (n:Nat) (cs':List Value) (y:DataW H × List MemPlace),DataW.trod enc P W 0 (fun _=>true) true n e cs'=some y→(∀ p∈y.2,p.block<W.heap.size)→cs'.length=k→(∀ n∈DataW.weights P e y.1,n≤140737488351232)→∃ a,R a cs')
  (h:DataW.trod enc P W 0 (fun _=>true) true fuel t cs=some x) (hlt:∀ p∈x.2,p.block<W.heap.size) (hw:∀ n∈DataW.weights P t x.1,n≤140737488351232) :
  ∃ (v:Value) (xs:List α),cs=[v]∧SlOf R W k v xs∧rowsD x.1 xs.length:=by
 rcases open_slice ht h with ⟨rfl,rfl⟩ | ⟨a,len,cap,m,n,D,Pl,rfl,_,hl,hm,hmm,rfl,hi⟩
 ·exact ⟨_,[],rfl,⟨[],Sl.nil _ _,rfl,fun i cs a hc=>by simp at hc⟩,.inl ⟨rfl,rfl⟩⟩
 ·simp only [if_true] at hmm;subst hmm;have hel':∀ i:Nat,∃ q:α × List Value,i<len→q.2.length=k∧R q.1 q.2∧∀ j,j<k→W.cell? (a.add (i*k+j))=q.2[j]?:=by
   intro i;by_cases hil:i<len
   ·obtain ⟨cs',hcs,htr⟩:=hi i (by omega);rw [hc] at hcs;obtain ⟨_,hcl,hat⟩:=World.cells?_some hcs;obtain ⟨y,hy⟩:=hel n cs' _ htr (fun p hp=>hlt p (by
     simp only [W04,List.mem_flatMap];exact .inr ⟨i,List.mem_range.2 (by omega),hp⟩)) hcl (fun q hq=>hw q (by
     simp only [DataW.weights,ht,W0y,W04];exact .inr (.inl (Qkk _ (D i) (W1i.2 ⟨i,List.mem_range.2 hil,rfl⟩) q hq))))
    refine ⟨(y,cs'),fun _=>⟨hcl,hy,fun j hj=>?_⟩⟩;have:=hat j hj;rw [Go.Deep.add_add] at this;exact this
   ·exact ⟨(a0,[]),fun h=>absurd h hil⟩
  obtain ⟨f,hf⟩:=Classical.skolem.1 hel';have hlen:((List.range len).map fun i=>(f i).1).length=len:=by simp
  refine ⟨_,(List.range len).map fun i=>(f i).1,rfl,⟨(List.range len).map fun i=>(f i).2,?_,by simp,fun i cs y hcs hy=>?_⟩,.inr ⟨_,_,rfl,by simp⟩⟩
  ·have hall:∀ cs∈(List.range len).map fun i=>(f i).2,cs.length=k:=fun cs hm=>by
    obtain ⟨i,hi',rfl⟩:=W1i.1 hm;exact (hf i (List.mem_range.1 hi')).1
   have hfl:((List.range len).map fun i=>(f i).2).flatten.length=len*k:=by
    rw [List.length_flatten];have:(((List.range len).map fun i=>(f i).2).map List.length)=List.replicate len k:=by
     apply List.ext_getElem (by simp);intro i h1 h2;simp at h1 ⊢;exact (hf i h1).1
    rw [this];simp
   refine ⟨some a,m,by rw [hlen],by rw [hlen];exact hl,by rw [hlen];exact hfl,fun h0=>?_⟩;rw [hlen] at h0;obtain ⟨b,off,spot⟩:=a;have h00:=(hf 0 h0).2.2 0 hk;have hl0:=(hf 0 h0).1;rw [W0d (by omega)] at h00;have hspot:spot=none:=by simpa [Addr.add] using World.cell?_spot h00
   subst hspot;refine ⟨b,off,rfl,?_,fun j y hy=>?_⟩
   ·exact Qvo (b:=b) (o:=off+(0*k+0)) (by rw [← Qbb];exact h00)
   ·have hj:=(W0i.1 hy).1;rw [hfl] at hj;have hdiv:j / k<len:=Nat.div_lt_of_lt_mul (by rw [Nat.mul_comm];exact hj);have hmod:=Nat.mod_lt j hk;have hjj:j=j / k*k+j % k:=by rw [Nat.mul_comm];exact (Nat.div_add_mod j k).symm
    rw [hjj,Qia _ hall _ _ hmod,W0v,List.getElem?_range hdiv] at hy;simp only [Option.map_some,Option.bind_some] at hy;rw [hjj,← Qbb,(hf _ hdiv).2.2 _ hmod];exact hy
  ·have hil:i<len:=by have:=(W0i.1 hy).1;rwa [hlen] at this
   rw [W0v,List.getElem?_range hil] at hcs hy;simp only [Option.map_some,W0k] at hcs hy;subst hcs hy;exact ⟨(hf i hil).1,(hf i hil).2.1⟩
end Copyhold

namespace Copyhold
open Go Go.RowKit
def Qh3 (D:Nat→Prop) (w:World) (xs:List AV) (cs:List Value):Prop:=cs.length=xs.length∧∀ (j:Nat) (a:AV) (u:Value),xs[j]?=some a→cs[j]?=some u→Ra D w a u
theorem Qoh {α:Type} {R:α→List Value→Prop} {w:World} {k:Nat} {enc:α→List AV} {l:List α} {v:Value} (h:SlOf R w k v l) (D:Nat→Prop) (hD:∀ b,b<w.heap.size→D b)
  (hR:∀ x∈l,∀ cs,cs.length=k→R x cs→(∀ u∈cs,u.oneCell'=true)∧Qh3 D w (enc x) cs):Ra D w (.sl k false (l.map enc)) v:=by
 obtain ⟨css,⟨A,c,rfl,hnc,hl,hcells⟩,hcl,hel⟩:=h;have key:∀ (i:Nat) (x:α),l[i]?=some x→∃ cs,css[i]?=some cs∧cs.length=k∧(∀ u∈cs,u.oneCell'=true)∧Qh3 D w (enc x) cs:=fun i x hx=>by
  have hi:i<l.length:=(W0i.1 hx).1;have hc:css[i]?=some (css[i]'(by omega)):=W0d (by omega);obtain ⟨h1,h2⟩:=hel i _ x hc hx;obtain ⟨h3,h4⟩:=hR x (W0h hx) _ h1 h2;exact ⟨_,hc,h1,h3,h4⟩
 have hall:∀ cs∈css,cs.length=k:=fun cs hm=>by
  obtain ⟨j,hj,rfl⟩:=List.mem_iff_getElem.1 hm;exact (hel j _ _ (W0d hj) (W0d (by omega))).1
 have hb:0<l.length→∃ b off,A=some ⟨b,off,none⟩∧b<w.heap.size∧∀ (j:Nat) (x:Value),css.flatten[j]?=some x→w.cell? ⟨b,off+j,none⟩=some x:=hcells;obtain ⟨b,off,hbo⟩:∃ b off,0<l.length→A=some ⟨b,off,none⟩∧b<w.heap.size∧∀ (j:Nat) (x:Value),css.flatten[j]?=some x→w.cell? ⟨b,off+j,none⟩=some x:=by
  by_cases h0:0<l.length
  ·obtain ⟨b,off,h⟩:=hb h0;exact ⟨b,off,fun _=>h⟩
  ·exact ⟨0,0,fun h=>absurd h h0⟩
 have main:=Ra.sl (D:=D) (w:=w) k false (l.map enc) A c b off (fun i j=>(css.getD i []).getD j undef) (by simpa using hnc) (fun h=>by cases h) (fun h0=>by
   obtain ⟨h1,h2,_⟩:=hbo (by simpa using h0);exact ⟨h1,hD b h2,h2⟩) (fun i e he=>by
   simp only [W0v] at he;cases hx:l[i]? with
   | none=>rw [hx] at he;cases he
   | some x=>
    rw [hx] at he;obtain rfl:=W0c he;obtain ⟨cs,_,h2,_,h4⟩:=key i x hx;rw [← h4.1,h2]) (fun i e j y he hy=>by
   simp only [W0v] at he;cases hx:l[i]? with
   | none=>rw [hx] at he;cases he
   | some x=>
    rw [hx] at he;obtain rfl:=W0c he;obtain ⟨cs,h1,h2,h3,h4⟩:=key i x hx;have hj:j<cs.length:=by rw [h4.1];exact (W0i.1 hy).1
    have hc:cs[j]?=some cs[j]:=W0d hj;have hi:i<l.length:=(W0i.1 hx).1;obtain ⟨_,_,hcc⟩:=hbo (by omega);simp only [List.getD,h1,W2j,hc];refine ⟨hcc _ _ ?_,h3 _ (W1m hj)⟩;rw [Qia css hall i j (by omega),h1];exact hc) (fun i e j y he hy=>by
   simp only [W0v] at he;cases hx:l[i]? with
   | none=>rw [hx] at he;cases he
   | some x=>
    rw [hx] at he;obtain rfl:=W0c he;obtain ⟨cs,h1,h2,h3,h4⟩:=key i x hx;have hj:j<cs.length:=by rw [h4.1];exact (W0i.1 hy).1
    have hc:cs[j]?=some cs[j]:=W0d hj;simp only [List.getD,h1,W2j,hc];exact h4.2 j y _ hy hc)
 rw [W0a] at main;exact main
def txA (l:List UInt8):List AV:=[aS l]
theorem Zd2 {P:Program} {f:FuncId} {args:List AV} {V:Value} (h:∀ (D:Nat→Prop) (w:World) (vs:Array Value),Qc8 D w args vs→Calls P f vs w (fun e w'=>e=.returned V∧Below w.heap.size w w')):Qag P f args (.val V):=by
 intro D w vs hD hv;refine (h D w vs hv).mono ?_;rintro e w' ⟨rfl,hb⟩;exact ⟨V,D,rfl,hb,fun _ h=>h,fun b h=>⟨W08 (hD b h) hb.size,.inl h⟩,.val V⟩
theorem Qc8.one {D:Nat→Prop} {w:World} {x:AV} {vs:Array Value} (h:Qc8 D w [x] vs):∃ v,vs=#[v]∧Ra D w x v:=by
 obtain ⟨h1,h2⟩:=h;obtain ⟨v,rfl⟩:=Zfy h1.symm;exact ⟨v,rfl,h2 0 x v rfl rfl⟩
theorem Qc8.two {D:Nat→Prop} {w:World} {x y:AV} {vs:Array Value} (h:Qc8 D w [x,y] vs):∃ u v,vs=#[u,v]∧Ra D w x u∧Ra D w y v:=by
 obtain ⟨h1,h2⟩:=h;obtain ⟨u,v,rfl⟩:=Zfx h1.symm;exact ⟨u,v,rfl,h2 0 x u rfl rfl,h2 1 y v rfl rfl⟩
end Copyhold
