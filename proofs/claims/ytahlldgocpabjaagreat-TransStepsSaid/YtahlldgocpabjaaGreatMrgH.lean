import Derived.Test.YtahlldgocpabjaaGreatMrgG
import Derived.Laws.StructEq
import Derived.Test.YtahlldgocpabjaaGreatAbs2
set_option linter.unusedVariables false
namespace Copyhold
open Go Go.RowKit
def mkM (P:Program) (ops:Array Oper) (s:LS) (i:Nat):Option Nat:=
 match opAt ops s i with
 | some o=>
  match o.op,o.dst with
  | .makeMap _ none,some d=>
   match bget s.bx d with
   | none=>some d
   | _=>none
  | _,_=>none
 | none=>none
theorem Zf1 {P:Program} {ops:Array Oper} {K:FS→Prop} {rest:List Nat} {i:Nat} {s:LS} {d:Nat} {f:Nat→LS} (h:mkM P ops s i=some d)
  (hf:∀ r,(s.put (some d) (.mref d r)).setB d (.mp r [])=f r) (kk:∀ r,SeqR P ops K rest (f r).fs):SeqR P ops K (i :: rest) s.fs:=by
 unfold mkM at h
 split at h
 ·rename_i o ho;obtain ⟨hi,hg⟩:=Qbp ho
  split at h
  ·rename_i t d' hop hd
   split at h
   ·rename_i hn;obtain rfl:=Option.some.inj h;refine ⟨o,hi,.inr ⟨hg,.inr (.inl ⟨by rw [hop];rfl,fun z nb=>∃ r,z=.mref d' r∧nb=some (d',.mp r []),?_,?_⟩)⟩⟩
    ·intro D w a Q K' hD hops hbx hcont;have hrun:(execOp a.eval o).run P w=.ok (.value (.map (some w.heap.size))) (w.alloc (.map #[] 0)):=by
      simp [execOp,hop,Instr.makeMap]
     unfold Oper.wp;rw [hrun,Oper.upon_value];have hb:Below w.heap.size w (w.alloc (.map #[] 0)):=(Below.refl _ _).alloc (Nat.le_refl _) _;refine hcont _ _ _ _ D ⟨w.heap.size,rfl,rfl⟩ hb (fun _ h=>h) (fun b h=>⟨Nat.lt_of_lt_of_le (hD b h) hb.size,.inl h⟩) (.mref _ _) (fun id y hy=>?_);obtain ⟨rfl,rfl⟩:=by simpa using hy
     refine ⟨fun g hg=>?_,#[],0,heap_alloc_new w _,⟨rfl,Qzn 0⟩,fun j p e hp=>by simp at hp,fun j p e hp=>by simp at hp⟩;obtain rfl:=Option.some.inj hg;exact ⟨Nat.le_refl _,fun hd=>by have:=hD _ hd;omega⟩
    ·rintro z nb ⟨r,rfl,rfl⟩;refine ⟨fun id y hy=>?_,?_⟩
     ·obtain ⟨rfl,rfl⟩:=by simpa using hy
      exact hn
     ·have:=kk r;rw [← hf r,← LS.fs_setB,← LS.fs_put] at this;rw [hd];exact this
   ·cases h
  ·cases h
 ·cases h
def Qb5 (P:Program) (kt:TypeId):MK→Bool
 | .i _=>match P.underlying kt with
  | some (.int .i64)=>true
  | _=>false
 | .s _=>match P.underlying kt with
  | some .string=>true
  | _=>false
def keyA:AV→Option MK
 | .val (.int .i64 z)=>some (.i z)
 | .val (.string ⟨⟨l⟩⟩)=>some (.s l)
 | _=>none
theorem Qm0 {x:AV} {k:MK} (h:keyA x=some k):x=.val k.val:=by
 unfold keyA at h
 split at h
 ·obtain rfl:=Option.some.inj h;rfl
 ·obtain rfl:=Option.some.inj h;rfl
 ·cases h
def Qcf (k:MK):List (MK × AV)→Nat→Option (Nat × AV)
 | [],_=>none
 | p :: r,i=>if p.1=k then some (i,p.2) else Qcf k r (i+1)
theorem Qnn (a b:List UInt8):((⟨⟨a⟩⟩:ByteArray)==⟨⟨b⟩⟩)=decide (a=b):=by
 show ((⟨a⟩:Array UInt8)==(⟨b⟩:Array UInt8))=decide (a=b);by_cases h:a=b
 ·subst h;simp
 ·have:(⟨a⟩:Array UInt8) ≠ ⟨b⟩:=fun e=>h (by injection e);simp only [h,decide_false];exact beq_false_of_ne this
theorem Qt0 {P:Program} {kt:TypeId} {d:TypeDesc} {k k':MK} (hd:P.underlying kt=some d) (h:Qb5 P kt k=true) (h':Qb5 P kt k'=true):Instr.sameNow d k.val k'.val=some (decide (k'=k)):=by
 cases k with
 | i z=>
  simp only [Qb5,hd] at h;cases k' with
  | i z'=>
   simp only [Qb5,hd] at h'
   split at h
   ·rename_i e;obtain rfl:=Option.some.inj e;simp only [Instr.sameNow,MK.val,if_true];by_cases hz:z'=z
    ·subst hz;simp
    ·have h1:¬ z=z':=fun e=>hz e.symm;simp [hz,h1]
   ·cases h
  | s l=>
   simp only [Qb5,hd] at h'
   split at h
   ·rename_i e;obtain rfl:=Option.some.inj e;simp at h'
   ·cases h
 | s l=>
  simp only [Qb5,hd] at h;cases k' with
  | i z'=>
   simp only [Qb5,hd] at h'
   split at h
   ·rename_i e;obtain rfl:=Option.some.inj e;simp at h'
   ·cases h
  | s l'=>
   split at h
   ·rename_i e;obtain rfl:=Option.some.inj e;simp only [Instr.sameNow,MK.val];by_cases hz:l'=l
    ·subst hz;simp [Qnn]
    ·have h1:¬ l=l':=fun e=>hz e.symm;simp [Qnn,hz,h1]
   ·cases h
theorem Qem {P:Program} {kt:TypeId} {d:TypeDesc} {k:MK} (hd:P.underlying kt=some d) (h:Qb5 P kt k=true) :
  ∀ (es:List (MK × AV)) (es':List MapEntry) (i:Nat),es.length=es'.length→(∀ p∈es,Qb5 P kt p.1=true)→(∀ (j:Nat) (p:MK × AV) (e:MapEntry),es[j]?=some p→es'[j]?=some e→e.key=p.1.val) →
   (Qcf k es i=none→Instr.findNow d k.val es' i=some none) ∧
   ∀ j x,Qcf k es i=some (j,x)→∃ e q,es'[q]?=some e∧es[q]?=some (k,x)∧j=i+q∧Instr.findNow d k.val es' i=some (some (j,e.val))
 | [],[],i,_,_,_=>⟨fun _=>rfl,fun j x hx=>by simp [Qcf] at hx⟩
 | p :: es,e :: es',i,hl,hk,he=>by
  have h0:=he 0 p e rfl rfl;have hs:=Qt0 (k:=k) (k':=p.1) hd h (hk p (by simp));obtain ⟨g1,g2⟩:=Qem hd h es es' (i+1) (by simpa using hl) (fun p hp=>hk p (by simp [hp])) (fun j p e hp hq=>he (j+1) p e (by simpa using hp) (by simpa using hq));simp only [Qcf,Instr.findNow,h0,hs];by_cases hp:p.1=k
  ·simp only [hp,if_true,decide_true];refine ⟨fun h=>by simp at h,fun j x hx=>?_⟩;simp only [Option.some.injEq,Prod.mk.injEq] at hx;obtain ⟨rfl,rfl⟩:=hx;exact ⟨e,0,rfl,by simp [← hp],rfl,rfl⟩
  ·simp only [hp,if_false,decide_false];refine ⟨g1,fun j x hx=>?_⟩;obtain ⟨e',q,q1,q2,q3,q4⟩:=g2 j x hx;exact ⟨e',q+1,by simpa using q1,by simpa using q2,by omega,q4⟩
def insO (P:Program) (ops:Array Oper) (s:LS) (i:Nat):Option (TypeId × Nat × Nat × MK × AV × Option Tmp):=
 match opAt ops s i with
 | some o=>
  match o.op with
  | .insert t m k x=>
   match P.underlying t,s.ev m,keyA (s.ev k) with
   | some (.map kt _),.mref id r,some kk=>some (kt,id,r,kk,s.ev x,o.dst)
   | _,_,_=>none
  | .mapUpdate t m k x=>
   match P.underlying t,s.ev m,keyA (s.ev k) with
   | some (.map kt _),.mref id r,some kk=>some (kt,id,r,kk,s.ev x,o.dst)
   | _,_,_=>none
  | _=>none
 | none=>none
theorem Qbo {P:Program} {kt:TypeId} {k:MK} (b:Bool) (h:Qb5 P kt k=true) (w:World):(Instr.checkKey b 10000 kt k.val).run P w=.ok () w:=by
 rw [show (10000:Nat)=9999+1 from rfl,Instr.checkKey];cases k with
 | i z=>
  simp only [Qb5] at h
  split at h
  ·rename_i hu;simp [run_underlying hu,MK.val]
  ·cases h
 | s l=>
  simp only [Qb5] at h
  split at h
  ·rename_i hu;simp [run_underlying hu,MK.val]
  ·cases h
theorem Qmz {P:Program} {kt:TypeId} {k:MK} (h:Qb5 P kt k=true):∃ d,P.underlying kt=some d:=by
 cases k<;>simp only [Qb5] at h<;>split at h<;>first | (rename_i hu;exact ⟨_,hu⟩) | cases h
theorem Zje {P:Program} {ops:Array Oper} {K:FS→Prop} {rest:List Nat} {i:Nat} {s s':LS} {kt:TypeId} {id r r':Nat} {k:MK} {x:AV} {es:List (MK × AV)} (h:insO P ops s i=some (kt,id,r,k,x,none))
  (hb:bget s.bx id=some (.mp r' es)) (hr:r'=r) (hk:(es.all fun p=>Qb5 P kt p.1)=true) (hk2:Qb5 P kt k=true) (hn:Qcf k es 0=none)
  (hf:s.setB id (.mp r' (es++[(k,x)]))=s') (kk:SeqR P ops K rest s'.fs):SeqR P ops K (i :: rest) s.fs:=by
 subst hr hf;have core:∀ (o:Oper) (t:TypeId) (m ko xo:Operand),opAt ops s i=some o→(o.op=.insert t m ko xo∨o.op=.mapUpdate t m ko xo)→(∃ e,P.underlying t=some (.map kt e))→s.ev m=.mref id r'→keyA (s.ev ko)=some k→s.ev xo=x→o.dst=none→SeqR P ops K (i :: rest) s.fs:=by
  intro o t m ko xo ho hop hu hm hko hx hd;obtain ⟨hi,hg⟩:=Qbp ho;have hmo:m∈o.op.operands∧ko∈o.op.operands∧xo∈o.op.operands:=by
   rcases hop with h | h<;>simp [h,Op.operands]
  refine ⟨o,hi,.inr ⟨hg,.inr (.inr ⟨by rcases hop with h | h<;>(rw [h];rfl),by rcases hop with h | h<;>(rw [h];rfl),id,fun z y'=>z=.any∧y'=.mp r' (es++[(k,x)]),?_,?_⟩)⟩⟩
  ·refine Qtm.up ?_;intro D w a Q K' hD hops hbx hnd hcont;have hvm:=Qa5 hops m hmo.1;have hvk:=Qa5 hops ko hmo.2.1;have hvx:=Qa5 hops xo hmo.2.2;rw [hm] at hvm;rw [Qm0 hko] at hvk;rw [hx] at hvx;generalize hmv:a.eval m=vm at hvm;generalize hkv:a.eval ko=vk at hvk;generalize hxv:a.eval xo=vx at hvx;cases hvm;cases hvk;obtain ⟨es',clock,g1,⟨g2,gB⟩,g3,g4⟩:=hbx id _ hb;obtain ⟨d,hd'⟩:=Qmz hk2;obtain ⟨e,hu⟩:=hu;have hfind:=(Qem hd' hk2 es es'.toList 0 (by simpa using g2) (fun p hp=>List.all_eq_true.1 hk p hp) (fun j p e hp he=>g3 j p e hp (by simpa using he))).1 hn;have hrun:(Instr.mapUpdate t (.map (some r')) k.val vx).run P w=.ok () { w with heap:=w.heap.setIfInBounds r' (.map (es'.push { key:=k.val,val:=vx,born:=clock }) (clock+1)) }:=by
    have e1:(getObj r').run P w=.ok (.map es' clock) w:=by simp [getObj,Sem.run,g1]
    have e2:∀ o',(setObj r' o').run P w=.ok () { w with heap:=w.heap.setIfInBounds r' o' }:=fun o'=>by simp [setObj,Sem.run,g1]
    simp [Instr.mapUpdate,run_underlying hu,e1,Qbo false hk2,Instr.findKey,run_underlying hd',hfind,e2]
   have hexec:(execOp a.eval o).run P w=.ok .skip { w with heap:=w.heap.setIfInBounds r' (.map (es'.push { key:=k.val,val:=vx,born:=clock }) (clock+1)) }:=by
    rcases hop with h | h<;>simp [execOp,h,hmv,hkv,hxv,hrun]
   unfold Oper.wp;rw [hexec,Oper.upon_skip];have hlt:r'<w.heap.size:=(Array.getElem?_eq_some_iff.1 g1).1;have hother:∀ q,q ≠ r'→(w.heap.setIfInBounds r' (.map (es'.push { key:=k.val,val:=vx,born:=clock }) (clock+1)))[q]?=w.heap[q]?:=fun q hq=>Array.getElem?_setIfInBounds_ne (Ne.symm hq);have hfr:∀ b u,Ra D w b u→Ra D { w with heap:=w.heap.setIfInBounds r' (.map (es'.push { key:=k.val,val:=vx,born:=clock }) (clock+1)) } b u:=fun b u hu=>
    hu.frame (fun _ h=>h) (by simp) (fun b hdb hl=>hother b (fun e=>hnd _ r' hb rfl (e ▸ hdb)))
   refine hcont undef _ .any _ _ ⟨rfl,rfl⟩ hb ⟨rfl,rfl,rfl,by simp,fun q hq=>by omega⟩ (fun q hq _=>hother q (fun e=>hq (by rw [e];rfl))) (fun g hg=>⟨.inl hg,hnd _ g hb hg⟩)
    ⟨es'.push { key:=k.val,val:=vx,born:=clock },clock+1,by simp [hlt],⟨by simp [g2],Zeu gB _ _⟩,fun j p e hp he=>?_,fun j p e hp he=>?_⟩ (.any _)
   ·by_cases hj:j<es.length
    ·rw [List.getElem?_append_left hj] at hp;rw [Array.getElem?_push_lt (by omega)] at he;exact g3 j p e hp (by rw [← he];simp [show j<es'.size by omega])
    ·rw [List.getElem?_append_right (by omega)] at hp;have hj2:j=es.length:=by have:=(List.getElem?_eq_some_iff.1 hp).1;simp at this;omega
     subst hj2;simp [g2] at hp he;subst hp he;rfl
   ·by_cases hj:j<es.length
    ·rw [List.getElem?_append_left hj] at hp;rw [Array.getElem?_push_lt (by omega)] at he;exact hfr _ _ (g4 j p e hp (by rw [← he];simp [show j<es'.size by omega]))
    ·rw [List.getElem?_append_right (by omega)] at hp;have hj2:j=es.length:=by have:=(List.getElem?_eq_some_iff.1 hp).1;simp at this;omega
     subst hj2;simp [g2] at hp he;subst hp he;exact hfr _ _ hvx
  ·rintro z y' ⟨rfl,rfl⟩;rw [hd];have:=kk;rw [← LS.fs_setB] at this;exact this
 unfold insO at h
 split at h
 ·rename_i o ho
  split at h
  ·rename_i t m ko xo hop
   split at h
   ·rename_i kt' e id' r kk' hu hm hko;simp only [Option.some.injEq,Prod.mk.injEq] at h;obtain ⟨rfl,rfl,rfl,rfl,hx,hd⟩:=h;exact core o t m ko xo ho (.inl hop) ⟨e,hu⟩ hm hko hx hd
   ·cases h
  ·rename_i t m ko xo hop
   split at h
   ·rename_i kt' e id' r kk' hu hm hko;simp only [Option.some.injEq,Prod.mk.injEq] at h;obtain ⟨rfl,rfl,rfl,rfl,hx,hd⟩:=h;exact core o t m ko xo ho (.inr hop) ⟨e,hu⟩ hm hko hx hd
   ·cases h
  ·cases h
 ·cases h
theorem Fz.mref (id r:Nat) (es:List (MK × AV)):FzS (.mp r es) (.mref id r) (.mp es):=fun D w v hD hy h=>by
 cases h;obtain ⟨es',clock,h1,h2,h3,h4⟩:=hy;exact .mp es r es' clock (.inr rfl) (Array.getElem?_eq_some_iff.1 h1).1 h1 h2 h3 (fun j p e hp he=>(h4 j p e hp he).frame (fun b h=>.inl h) (Nat.le_refl _) (fun _ _ _=>rfl))
def lkO (P:Program) (ops:Array Oper) (s:LS) (i:Nat):Option (TypeId × TypeId × List (MK × AV) × MK × Bool × Option Tmp):=
 match opAt ops s i with
 | some o=>
  match o.op with
  | .lookup t m k ok=>
   match P.underlying t,s.ev m,keyA (s.ev k) with
   | some (.map kt e),.mp es,some kk=>some (kt,e,es,kk,ok,o.dst)
   | _,_,_=>none
  | _=>none
 | none=>none
def fdV (fd:Option (Nat × AV)) (zv:Value):AV:=
 match fd with
 | some p=>p.2
 | none=>.val zv
def Qp5 (ok:Bool) (v:AV) (b:Bool):AV:=if ok then .tup [v,.val (.bool b)] else v
theorem Zku {P:Program} {ops:Array Oper} {K:FS→Prop} {rest:List Nat} {i:Nat} {s s':LS} {kt e:TypeId} {k:MK} {es:List (MK × AV)} {ok:Bool} {d:Option Tmp} (fd:Option (Nat × AV)) (zv:Value) (h:lkO P ops s i=some (kt,e,es,k,ok,d))
  (hk:(es.all fun p=>Qb5 P kt p.1)=true) (hk2:Qb5 P kt k=true) (hz:(P.info? e).bind (·.zero)=some zv) (hn:Qcf k es 0=fd)
  (hf:s.put d (Qp5 ok (fdV fd zv) fd.isSome)=s') (kk:SeqR P ops K rest s'.fs):SeqR P ops K (i :: rest) s.fs:=by
 subst hf;unfold lkO at h
 split at h
 ·rename_i o ho;obtain ⟨hi,hg⟩:=Qbp ho
  split at h
  ·rename_i t m ko ok' hop
   split at h
   ·rename_i kt' e' es1 kk' hu hm hko;simp only [Option.some.injEq,Prod.mk.injEq] at h;obtain ⟨rfl,rfl,rfl,rfl,rfl,rfl⟩:=h;refine ⟨o,hi,.inr ⟨hg,.inr (.inl ⟨by rw [hop];rfl,fun z nb=>z=Qp5 ok' (fdV fd zv) fd.isSome∧nb=none,?_,?_⟩)⟩⟩
    ·intro D w a Q K' hD hops hbx hcont;have hvm:=Qa5 hops m (by simp [hop,Op.operands]);have hvk:=Qa5 hops ko (by simp [hop,Op.operands]);rw [hm] at hvm;rw [Qm0 hko] at hvk;generalize hmv:a.eval m=vm at hvm;generalize hkv:a.eval ko=vk at hvk;cases hvk;cases hvm with
     | mp es r es' clock g1 g2 g3 g4' g5 g6=>
      obtain ⟨g4,gB⟩:=g4';obtain ⟨dd,hd'⟩:=Qmz hk2;have e1:(getObj r).run P w=.ok (.map es' clock) w:=by simp [getObj,Sem.run,g3]
      obtain ⟨f1,f2⟩:=Qem hd' hk2 es1 es'.toList 0 (by simpa using g4) (fun p hp=>List.all_eq_true.1 hk p hp) (fun j p e hp he=>g5 j p e hp (by simpa using he));have main:∃ v,(execOp a.eval o).run P w=.ok (.value v) w∧Ra D w (Qp5 ok' (fdV fd zv) fd.isSome) v:=by
       cases fd with
       | none=>
        have hfind:=f1 hn;obtain ⟨inf,hi1,hi2⟩:∃ inf,P.info? e'=some inf∧inf.zero=some zv:=by
         cases hinf:P.info? e' with
         | none=>rw [hinf] at hz;cases hz
         | some inf=>rw [hinf] at hz;exact ⟨inf,rfl,hz⟩
        cases ok' with
        | true=>
         refine ⟨.tuple #[zv,.bool false],by simp [execOp,hop,hmv,hkv,Instr.lookup,run_underlying hu,e1,Qbo _ hk2,Instr.findKey,run_underlying hd',hfind,zeroValue,typeInfo,hi1,hi2],.tup _ _ rfl (fun j x v hx hv=>?_)⟩
         match j,hx,hv with
         | 0,hx,hv=>simp at hx hv;subst hx hv;exact .val _
         | 1,hx,hv=>simp at hx hv;subst hx hv;exact .val _
         | j+2,hx,_=>simp at hx
        | false=>
         exact ⟨zv,by simp [execOp,hop,hmv,hkv,Instr.lookup,run_underlying hu,e1,Qbo _ hk2,Instr.findKey,run_underlying hd',hfind,zeroValue,typeInfo,hi1,hi2],.val _⟩
       | some p=>
        obtain ⟨j,x⟩:=p;obtain ⟨en,q,q1,q2,q3,hfind⟩:=f2 j x hn;have hre:=g6 q _ en q2 (by simpa using q1);cases ok' with
        | true=>
         refine ⟨.tuple #[en.val,.bool true],by simp [execOp,hop,hmv,hkv,Instr.lookup,run_underlying hu,e1,Qbo _ hk2,Instr.findKey,run_underlying hd',hfind],.tup _ _ rfl (fun j x v hx hv=>?_)⟩
         match j,hx,hv with
         | 0,hx,hv=>simp at hx hv;subst hx hv;exact hre
         | 1,hx,hv=>simp at hx hv;subst hx hv;exact .val _
         | j+2,hx,_=>simp at hx
        | false=>
         exact ⟨en.val,by simp [execOp,hop,hmv,hkv,Instr.lookup,run_underlying hu,e1,Qbo _ hk2,Instr.findKey,run_underlying hd',hfind],hre⟩
      obtain ⟨v,m1,m2⟩:=main;unfold Oper.wp;rw [m1,Oper.upon_value];exact hcont _ w _ none D ⟨rfl,rfl⟩ (Below.refl _ _) (fun _ h=>h) (fun b h=>⟨hD b h,.inl h⟩) m2 (fun id y h=>by cases h)
    ·rintro z nb ⟨rfl,rfl⟩;refine ⟨fun id y h=>(by cases h),?_⟩;simp only [FS.addB];rw [LS.fs_put];exact kk
   ·cases h
  ·cases h
 ·cases h
end Copyhold

set_option linter.unusedSimpArgs false
namespace Go.Proofs.YtahlldgocpabjaaGreat
open Go.RowKit Copyhold
theorem Zbm {D:Nat→Prop} {w:World} {vs:List Value} {u:Value} (h:Ra D w (.agg (vs.map AV.val)) u):u=.agg vs.toArray:=by
 cases h with
 | agg cs us h1 h2 h3=>
  congr 1;apply Array.ext';apply List.ext_getElem?;intro j;have hl:us.size=vs.length:=by simpa using h1.symm
  by_cases hj:j<vs.length
  ·have e1:us.toList[j]?=some us[j]:=by simp [Array.getElem?_toList,hl,hj]
   have h4:=h3 j (AV.val vs[j]) us[j] (by simp [hj]) (by simp [hl,hj]);rw [e1,List.getElem?_eq_getElem hj];generalize us[j]=p at h4;generalize vs[j]=q at h4;cases h4;rfl
  ·rw [List.getElem?_eq_none (by simpa [hl] using Nat.le_of_not_lt hj),List.getElem?_eq_none (by simpa using Nat.le_of_not_lt hj)]
def eqFs (P:Program) (rec:TypeId→AV→AV→Option Bool) (xs ys:List AV):List Field→Option Bool
 | []=>some true
 | f :: fs=>
  bif f.name == "_" then none else
  match Qny P f.type (xs.drop f.offset),Qny P f.type (ys.drop f.offset) with
  | some a,some b=>
   match rec f.type a b,eqFs P rec xs ys fs with
   | some r,some q=>some (r&&q)
   | _,_=>none
  | _,_=>none
def eqA (P:Program):Nat→TypeId→AV→AV→Option Bool
 | 0,_,_,_=>none
 | d+1,t,x,y=>
  match P.underlying t,x,y with
  | some (.int _),.val (.int .i64 a),.val (.int .i64 b)=>some (a==b)
  | some (.int _),.val (.int .u8 a),.val (.int .u8 b)=>some (a==b)
  | some .bool,.val (.bool a),.val (.bool b)=>some (a==b)
  | some .string,.val (.string ⟨⟨a⟩⟩),.val (.string ⟨⟨b⟩⟩)=>some (a==b)
  | some (.struct fs),.agg xs,.agg ys=>bif P.stoodInHeld t then none else eqFs P (eqA P d) xs ys fs.toList
  | _,_,_=>none
theorem Zdy {P:Program}:∀ (d:Nat) (t:TypeId) (x y:AV) (b:Bool),eqA P d t x y=some b→∀ (D:Nat→Prop) (w:World) (u v:Value),Ra D w x u→Ra D w y v→∀ k,(Op.equalIn (d+k) t u v).run P w=.ok b w
 | 0,_,_,_,_,h=>by cases h
 | d+1,t,x,y,b,h=>by
  intro D w u v hu hv k;rw [show d+1+k=(d+k)+1 by omega];unfold eqA at h
  split at h
  ·rename_i e;cases hu;cases hv;cases h;simp [Op.equalIn,run_underlying e]
  ·rename_i e;cases hu;cases hv;cases h;simp [Op.equalIn,run_underlying e]
  ·rename_i e;cases hu;cases hv;cases h;simp [Op.equalIn,run_underlying e]
  ·rename_i e;cases hu;cases hv;cases h;simp [Op.equalIn,run_underlying e,beq_toListBytes]
  ·rename_i fs xs ys e;cases hst:P.stoodInHeld t with
   | true=>simp [hst] at h
   | false=>
   simp only [hst,cond_false] at h;cases hu with
   | agg _ us a1 a2 a3=>
   cases hv with
   | agg _ vs b1 b2 b3=>
   have hf:P.fieldsOf t=fs:=by simp [Program.fieldsOf,e]
   rw [run_equalIn_agg (ht:=by rw [hf];exact e) (hp:=hst),hf]
   revert h
   generalize fs.toList=l;intro h;clear hf e
   induction l generalizing b with
   | nil=>simp only [eqFs,Option.some.injEq] at h;subst h;simp [Op.eqFields]
   | cons f l ih=>
    unfold eqFs at h
    cases hn : (f.name == "_") with
    | true=>simp [hn] at h
    | false=>
    simp only [hn,cond_false] at h
    split at h
    ·rename_i a c ha hc
     split at h
     ·rename_i r q hr hq;cases h;obtain ⟨va,ra,ha'⟩:=Qpx (P:=P) (w:=w) (D:=D) ⟨a1.symm,a2,a3⟩ ha;obtain ⟨vc,rc,hc'⟩:=Qpx (P:=P) (w:=w) (D:=D) ⟨b1.symm,b2,b3⟩ hc;have hb:=Zdy d f.type a c r hr D w va vc ha' hc' k;have hi:=ih q hq;unfold Op.eqFields;rw [if_pos (by simpa using hn)];simp only [Sem.run_bind,ra,rc,hb,Result.andThen_ok,Sem.run_ite,Sem.run_pure];cases r
      ·simp
      ·simpa using hi
     ·cases h
    ·cases h
  ·cases h
def eqO (P:Program) (ops:Array Oper) (s:LS) (i:Nat):Option (Nat × Bool):=
 match opAt ops s i with
 | some o=>
  match o.op,o.dst with
  | .binOp op t x y _,some d=>
   match P.underlying t,op,s.ev x,s.ev y with
   | some (.struct _),.eql,.agg xs,.agg ys=>
    bif P.eqGuardType P.depth t then none else match eqA P 20 t (.agg xs) (.agg ys) with
    | some b=>some (d,b)
    | none=>none
   | some (.struct _),.neq,.agg xs,.agg ys=>
    bif P.eqGuardType P.depth t then none else match eqA P 20 t (.agg xs) (.agg ys) with
    | some b=>some (d,!b)
    | none=>none
   | _,_,_,_=>none
  | _,_=>none
 | none=>none
theorem seqEqS {P:Program} {ops:Array Oper} {K:FS→Prop} {rest:List Nat} {i:Nat} {s s':LS} {d:Nat} {b:Bool} (h:eqO P ops s i=some (d,b))
  (hs:s.put (some d) (.val (.bool b))=s') (kk:SeqR P ops K rest s'.fs):SeqR P ops K (i :: rest) s.fs:=by
 unfold eqO at h
 split at h
 ·rename_i o ho;obtain ⟨hi,hg⟩:=Qbp ho
  split at h
  ·rename_i op t x y yt d' hop hd
   split at h
   ·rename_i fs xs ys hu hx hy;cases hgt:P.eqGuardType P.depth t with
    | true=>simp [hgt] at h
    | false=>
    simp only [hgt,cond_false] at h
    split at h
    ·rename_i b' hb;cases h;refine ⟨o,hi,.inr ⟨hg,.inl ⟨.val (.bool b),.inl fun D w ρ hops=>?_,by rw [hd,LS.fs_put,hs];exact kk⟩⟩⟩;have hvx:=Qa5 hops x (by simp [hop,Op.operands]);have hvy:=Qa5 hops y (by simp [hop,Op.operands]);rw [hx] at hvx;rw [hy] at hvy;have hq:=Zdy 20 t _ _ b hb D w _ _ hvx hvy 9980;generalize hxv:ρ x=u at hvx hq;generalize hyv:ρ y=v at hvy hq;cases hvx with
     | agg _ us a1 a2 a3=>
     cases hvy with
     | agg _ vs c1 c2 c3=>
     refine ⟨_,?_,.val _⟩;have hq':(Op.equalIn 10000 t (.agg us) (.agg vs)).run P w=.ok b w:=hq;simp [execOp,hop,hxv,hyv,run_eqGuard_agg _ _ _ _ _ _ _ hgt,run_eql_struct,hq']
    ·cases h
   ·rename_i fs xs ys hu hx hy;cases hgt:P.eqGuardType P.depth t with
    | true=>simp [hgt] at h
    | false=>
    simp only [hgt,cond_false] at h
    split at h
    ·rename_i b' hb;cases h;refine ⟨o,hi,.inr ⟨hg,.inl ⟨.val (.bool (!b')),.inl fun D w ρ hops=>?_,by rw [hd,LS.fs_put,hs];exact kk⟩⟩⟩;have hvx:=Qa5 hops x (by simp [hop,Op.operands]);have hvy:=Qa5 hops y (by simp [hop,Op.operands]);rw [hx] at hvx;rw [hy] at hvy;have hq:=Zdy 20 t _ _ b' hb D w _ _ hvx hvy 9980;generalize hxv:ρ x=u at hvx hq;generalize hyv:ρ y=v at hvy hq;cases hvx with
     | agg _ us a1 a2 a3=>
     cases hvy with
     | agg _ vs c1 c2 c3=>
     refine ⟨_,?_,.val _⟩;have hq':(Op.equalIn 10000 t (.agg us) (.agg vs)).run P w=.ok b' w:=hq;simp [execOp,hop,hxv,hyv,run_eqGuard_agg _ _ _ _ _ _ _ hgt,run_neq_struct,hq']
    ·cases h
   ·cases h
  ·cases h
 ·cases h
end Go.Proofs.YtahlldgocpabjaaGreat

namespace Copyhold
open Go Go.RowKit
theorem Qn2 {k:Nat}:∀ (n:Nat) (cs:List AV),cs.length=n*k→(Qc9 k cs n).flatten=cs:=by
 intro n
 induction n with
 | zero=>intro cs h;simp at h;subst h;rfl
 | succ n ih=>
  intro cs h;have h1:(cs.take (n*k)).length=n*k:=by rw [List.length_take,h,Nat.succ_mul];omega
  have e:Qc9 k cs (n+1)=Qc9 k (cs.take (n*k)) n++[cs.drop (n*k)]:=by
   unfold Qc9;rw [List.range_succ,List.map_append];congr 1
   ·refine List.map_congr_left fun i hi=>?_;have hi:i<n:=by simpa using hi
    have h2:(i+1)*k≤n*k:=Nat.mul_le_mul_right k hi;rw [Nat.succ_mul] at h2;rw [List.drop_take,List.take_take,Nat.min_eq_left (by omega)]
   ·simp only [List.map_cons,List.map_nil];rw [List.take_of_length_le (by rw [List.length_drop,h,Nat.succ_mul];omega)]
  rw [e,List.flatten_append,ih _ h1];simp
def litN (P:Program) (ops:Array Oper) (s:LS) (i:Nat):Option (TypeId × Nat × Nat × Nat × List AV):=
 match opAt ops s i with
 | some o=>
  match o.op,o.dst with
  | .buildSlice t n parts,some d=>
   match Qkn P t with
   | some e=>
    match szP P e,Qq9 P e,Qhz (parts.toList.map fun p=>(p.1,s.ev p.2)) with
    | some k,some z,some qs=>
     bif Nat.beq z.length k&&(Nat.ble 1 k&&Nat.ble (n*k) 16777216) then
      match Qn3 ((List.range n).map fun j=>(j*k,k)) (List.flatten (List.replicate n z)) qs with
      | some cs=>some (e,k,d,n,cs)
      | none=>none
     else none
    | _,_,_=>none
   | none=>none
  | _,_=>none
 | none=>none
theorem Zkv {P:Program} {ops:Array Oper} {K:FS→Prop} {rest:List Nat} {i:Nat} {s:LS} {e k d n:Nat} {cs:List AV} {f:Value→LS}
  (h:litN P ops s i=some (e,k,d,n,cs)) (hn:bget s.bx d=none) (hf:∀ V',(s.put (some d) (.rw d V' n)).setB d (.row V' e k (Qc9 k cs n))=f V') (kk:∀ V',SeqR P ops K rest (f V').fs):SeqR P ops K (i :: rest) s.fs:=by
 unfold litN at h
 split at h
 ·rename_i o ho;obtain ⟨hi,hg⟩:=Qbp ho
  split at h
  ·rename_i t n' parts d' hop hd
   split at h
   ·rename_i e' he
    split at h
    ·rename_i k' z qs hks hz hqs;cases hb:(Nat.beq z.length k'&&(Nat.ble 1 k'&&Nat.ble (n'*k') 16777216)) with
     | false=>rw [hb] at h;cases h
     | true=>
      rw [hb] at h;simp only [Bool.and_eq_true] at hb;have h1:z.length=k':=Nat.eq_of_beq_eq_true hb.1;have h2:1≤k':=Nat.le_of_ble_eq_true hb.2.1;have h3:n'*k'≤16777216:=Nat.le_of_ble_eq_true hb.2.2;simp only [cond_true] at h
      split at h
      ·rename_i cs' hcs;simp only [Option.some.injEq,Prod.mk.injEq] at h;obtain ⟨rfl,rfl,rfl,rfl,rfl⟩:=h;have hlen:cs'.length=n'*k':=by
        rw [Qg9 qs _ cs' hcs];simp [h1]
       have hch:(Qc9 k' cs' n').length=n':=by simp [Qc9]
       have hnk:n'≤n'*k':=Nat.le_mul_of_pos_right n' h2;have hck:∀ l∈Qc9 k' cs' n',l.length=k':=fun l hl=>by
        unfold Qc9 at hl;obtain ⟨j,hj,rfl⟩:=List.mem_map.1 hl;have hj:j<n':=by simpa using hj
        have:(j+1)*k'≤n'*k':=Nat.mul_le_mul_right k' hj;rw [Nat.succ_mul] at this;rw [List.length_take,List.length_drop,hlen];omega
       refine ⟨o,hi,.inr ⟨hg,.inr (.inl ⟨by rw [hop];rfl,_,Qjf (e:=e') (k:=k') (xs:=Qc9 k' cs' n') hd hck (fun D w ρ hops=>?_),?_⟩)⟩⟩
       ·obtain ⟨it,zv,hi2,hzv,hrep⟩:=Qfx (D:=D) (w:=w) hz;have hzs:zv.cells.size=k':=by rw [hrep.1,h1]
        obtain ⟨g1,g2⟩:=Qga (D:=D) (w:=w) _ qs (parts.map fun (i,x)=>(i,ρ x)).toList hqs (by simp) (fun j p v hp hv=>by
         simp only [List.getElem?_map,Array.getElem?_toList] at hp;simp only [Array.getElem?_toList,Array.getElem?_map] at hv;cases hq:parts[j]? with
         | none=>rw [hq] at hp;cases hp
         | some q=>
          rw [hq] at hp hv;obtain rfl:=Option.some.inj hp;obtain rfl:=Option.some.inj hv;refine ⟨rfl,Qa5 hops q.2 ?_⟩;simp only [hop,Op.operands,List.mem_toArray,List.mem_map,Array.mem_toList_iff];exact ⟨q,Array.mem_of_getElem? hq,rfl⟩)
        have hz0:=Qfq hrep n';obtain ⟨vs',f1,f2⟩:=Qql (D:=D) (w:=w) (pf:=fun i=>some (i*k',k')) (fun i p hp=>by
         simp only [List.getElem?_map] at hp;cases hr:(List.range n')[i]? with
         | none=>rw [hr] at hp;cases hp
         | some m=>
          rw [hr] at hp;obtain rfl:=Option.some.inj hp;obtain ⟨h1,h2⟩:=List.getElem?_eq_some_iff.1 hr;simp at h2;rw [h2]) qs _ _ _ cs' hz0 g1 g2 hcs
        have hvl:vs'.size=n'*k':=by rw [f2.1,hlen]
        refine ⟨.slice (some ⟨w.heap.size,0,none⟩) n' n',w.alloc (.cells vs' e'),vs'.toList,?_,World.grownBy_alloc w _ none,?_,fun u hu=>?_,fun j a u ha hu=>?_⟩
        ·have hnn:¬ (n'*k'>2 ^ 24):=by omega
         by_cases h0:n'*k'=0
         ·have hn0:n'=0:=by omega
          subst hn0;simp at f1;simp [execOp,hop,Instr.buildSlice,run_underlying (Qg0 he),Qct hks,show Array.range 0=#[] from rfl,f1,newRow]
         ·have f1':Instr.fill (fun i=>some (i*k',k')) ((Array.range (n'*k')).map (fun x=>zv.cells[x % zv.cells.size]!)) (parts.map fun (i,x)=>(i,ρ x)).toList=some vs':=by
           rw [← f1];congr 1;have:=Qld zv.cells n' (by omega);rw [← this];simp only [hzs]
          simp [execOp,hop,Instr.buildSlice,run_underlying (Qg0 he),Qct hks,hnn,h0,zeroValue,typeInfo,hi2,hzv];simp at f1'
          try simp [f1',newRow]
        ·rw [hch];exact ⟨by simp [hvl],.inr ⟨w.heap.size,n',vs',rfl,Nat.le_refl _,heap_alloc_new w _,Nat.le_refl _,by unfold maxLen;omega,hvl,by rw [List.take_of_length_le (by simp [hvl])]⟩⟩
        ·obtain ⟨j,hj,rfl⟩:=List.mem_iff_getElem.1 hu;exact f2.2.1 j _ (by simp at hj ⊢)
        ·rw [Qn2 n' cs' hlen] at ha;exact f2.2.2 j a u ha (by simpa using hu)
       ·rintro z' nb ⟨V',rfl,rfl⟩;refine ⟨fun id y hy=>?_,?_⟩
        ·obtain ⟨rfl,rfl⟩:=by simpa using hy
         exact hn
        ·have:=kk V';rw [← hf V',← LS.fs_setB,← LS.fs_put] at this;rw [hd,hch];exact this
      ·cases h
    ·cases h
   ·cases h
  ·cases h
 ·cases h
end Copyhold

namespace Copyhold
open Go Go.RowKit
def blkB (ops:Array Oper) (l:Array Bool) (i:Nat):Nat→Nat→Bool
 | 0,_=>false
 | n+1,j=>
  match ops[j]? with
  | some oj=>(oj.after.any fun e=>Region.binds .any e&&e.on==i)||oj.after.any fun e=>Region.binds .any e&&(!l.getD e.on true&&blkB ops l i n e.on)
  | none=>false
theorem Zj8 {ops:Array Oper} {l:Array Bool} {i:Nat}:∀ n j,blkB ops l i n j=true→blkA ops l i n j=true
 | 0,_,h=>by cases h
 | n+1,j,h=>by
  unfold blkB at h;unfold blkA;cases hj:ops[j]? with
  | none=>rw [hj] at h;cases h
  | some oj=>
   rw [hj] at h;simp only at h ⊢;rw [Bool.or_eq_true] at h;rcases h with h | h
   ·obtain ⟨e,he,hb⟩:=Array.any_eq_true'.1 h;refine Array.any_eq_true'.2 ⟨e,he,?_⟩;simp only [Bool.and_eq_true] at hb ⊢;exact ⟨hb.1,by rw [hb.2];rfl⟩
   ·obtain ⟨e,he,hb⟩:=Array.any_eq_true'.1 h;refine Array.any_eq_true'.2 ⟨e,he,?_⟩;simp only [Bool.and_eq_true,Bool.or_eq_true] at hb ⊢;exact ⟨hb.1,.inr ⟨hb.2.1,Zj8 n e.on hb.2.2⟩⟩
def Zhq (P:Program) (ops:Array Oper) (l:Array Bool) (i:Nat):Bool:=
 match ops[i]? with
 | none=>false
 | some oi=>isRd P oi.op&&(List.range ops.size).all fun j=>j==i||l.getD j true||match ops[j]? with
   | some oj=>(oi.apart ops oj&&(!isLd oi.op||!Qsc oj.op))||blkB ops l i ops.size j
   | none=>true
theorem Zdp {P:Program} {ops:Array Oper} {l:Array Bool} {i:Nat} (h:Zhq P ops l i=true):Zdq P ops l i=true:=by
 unfold Zhq at h;unfold Zdq;cases hi:ops[i]? with
 | none=>rw [hi] at h;cases h
 | some oi=>
  rw [hi] at h;simp only [Bool.and_eq_true,List.all_eq_true] at h ⊢;refine ⟨h.1,fun j hj=>?_⟩;have:=h.2 j hj;simp only [Bool.or_eq_true] at this ⊢;rcases this with h1 | h1
  ·exact .inl h1
  ·refine .inr ?_;cases hoj:ops[j]? with
   | none=>rfl
   | some oj=>
    simp only [hoj,Bool.or_eq_true] at h1 ⊢;rcases h1 with h2 | h2
    ·exact .inr h2
    ·exact .inl (Zj8 _ _ h2)
def Qoq (P:Program) (ops:Array Oper):List Nat→Array Bool→Bool
 | [],l=>(Region.ready .any ops l).isEmpty
 | i :: r,l=>(((Region.ready .any ops l).contains i&&Zhq P ops l i)||Region.ready .any ops l==[i])&&Qoq P ops r (l.setIfInBounds i true)
theorem Qpy {P:Program} {ops:Array Oper}:∀ {r:List Nat} {l:Array Bool},Qoq P ops r l=true→Qup P ops r l=true
 | [],l,h=>h
 | i :: r,l,h=>by
  simp only [Qoq,Qup,Bool.and_eq_true,Bool.or_eq_true] at h ⊢;refine ⟨?_,Qpy h.2⟩;rcases h.1 with h1 | h1
  ·exact .inl ⟨Zdp h1.2,h1.1⟩
  ·exact .inr h1
def Quo (P:Program) (ops:Array Oper):List Nat→Array Bool→Bool
 | [],_=>true
 | i :: r,l=>(((Region.ready .any ops l).contains i&&Zhq P ops l i)||Region.ready .any ops l==[i])&&Quo P ops r (l.setIfInBounds i true)
def aft:List Nat→Array Bool→Array Bool
 | [],l=>l
 | i :: r,l=>aft r (l.setIfInBounds i true)
theorem Qi9 {P:Program} {ops:Array Oper} {K:FS→Prop} {f:Nat}:∀ (r:List Nat) (l:Array Bool) (s:FS),Quo P ops r l=true→SeqR P ops (aAny P ops K f (aft r l)) r s→aAny P ops K (r.length+f) l s
 | [],l,s,_,hs=>by
  rw [List.length_nil,Nat.zero_add];exact hs
 | i :: r,l,s,h,hs=>by
  simp only [Quo,Bool.and_eq_true,Bool.or_eq_true] at h;obtain ⟨h1,h2⟩:=h;rw [List.length_cons,show r.length+1+f=(r.length+f)+1 from by omega];rcases h1 with ⟨hr,hf0⟩ | hr
  ·have hf:=Zdp hf0;unfold Zdq at hf
   split at hf
   ·cases hf
   ·rename_i oi hi;simp only [Bool.and_eq_true,List.all_eq_true,List.mem_range] at hf;obtain ⟨hrd,hf⟩:=hf;obtain ⟨o,ho,hst⟩:=hs;obtain rfl:oi=o:=Option.some.inj (hi.symm.trans ho);have hfree:∀ j oj,ops[j]?=some oj→j ≠ i→l.getD j true=false→(∀ n,blkA ops l i n j=false)→oi.apart ops oj=true∧(isLd oi.op=true→Qsc oj.op=false):=by
     intro j oj hj hne hun hno;have h3:=hf j (Array.getElem?_eq_some_iff.1 hj).1;simp only [hj,Bool.or_eq_true,beq_iff_eq,hne,false_or,hun,Bool.false_eq_true,Bool.and_eq_true,Bool.not_eq_true'] at h3;rcases h3 with h3 | ⟨h3,h4⟩
     ·rw [hno ops.size] at h3;cases h3
     ·refine ⟨h3,fun hl=>?_⟩;rcases h4 with h4 | h4
      ·rw [hl] at h4;cases h4
      ·exact h4
    have key:∃ x,Yld P ops oi s x∧SeqR P ops (aAny P ops K f (aft r (l.setIfInBounds i true))) r (s.put oi.dst x):=by
     rcases hst with ⟨g,hk⟩ | ⟨g,⟨x,hx,hk⟩ | ⟨g2,_⟩ | ⟨g2,_⟩⟩
     ·exact ⟨.val undef,.inl ⟨g,rfl⟩,hk⟩
     ·exact ⟨x,.inr ⟨g,hx⟩,hk⟩
     ·rw [hrd] at g2;cases g2
     ·rw [hrd] at g2;cases g2
    obtain ⟨x,hy,hk⟩:=key;exact Qpe hi (r.length+f) l s hfree (by simpa using hr) hy (Qi9 r _ _ h2 hk)
  ·have hr':Region.ready .any ops l=[i]:=by simpa using hr
   refine ⟨fun h=>(by rw [h] at hr';cases hr'),fun j hj=>?_⟩;rw [hr'] at hj;obtain rfl:j=i:=by simpa using hj
   exact hs.mono fun s' h'=>Qi9 r _ s' h2 h'
def Zgx (P:Program) (ops:Array Oper) (l:Array Bool) (f:Nat) (alts:List (List Nat)):Bool:=
 (Region.ready .any ops l==alts.map (·.headD 0))&&(!alts.isEmpty&&alts.all fun a=>match a with
  | []=>false
  | i :: r=>r.length==f&&Qoq P ops r (l.setIfInBounds i true))
theorem Zb8 {P:Program} {ops:Array Oper} {K:FS→Prop} {l:Array Bool} {f:Nat} {alts:List (List Nat)} {s:FS} (h:Zgx P ops l f alts=true) (ha:∀ a∈alts,SeqR P ops K a s):aAny P ops K (f+1) l s:=by
 unfold Zgx at h;simp only [Bool.and_eq_true,beq_iff_eq,Bool.not_eq_true',List.all_eq_true] at h;obtain ⟨h1,h2,h3⟩:=h;refine ⟨fun he=>?_,fun i hi=>?_⟩
 ·rw [he] at h1;cases alts with
  | nil=>cases h2
  | cons a r=>cases h1
 ·rw [h1] at hi;obtain ⟨a,ham,rfl⟩:=List.mem_map.1 hi;have h4:=h3 a ham;have hs:=ha a ham;cases a with
  | nil=>cases h4
  | cons i r=>
   simp only [Bool.and_eq_true,beq_iff_eq] at h4;refine Qgc.mono hs fun s' h'=>?_;have:=Qja r _ s' (Qpy h4.2) h';rw [h4.1] at this;exact this
end Copyhold
