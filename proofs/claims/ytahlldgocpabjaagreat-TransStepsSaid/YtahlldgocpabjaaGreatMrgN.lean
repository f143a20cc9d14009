import Derived.Test.YtahlldgocpabjaaGreatMrgM
import Derived.MapKept
import Derived.Test.YtahlldgocpabjaaGreatMrgJ
set_option linter.unusedVariables false
set_option linter.unusedSimpArgs false
namespace Go.Proofs.YtahlldgocpabjaaGreat
open Go Go.RowKit Copyhold
theorem Qmy {P:Program} {kt:TypeId} (h:Qb5 P kt (.i 0)=true) (es:List (MK × AV)) (he:∀ p∈es,∃ z,p.1=.i z):(es.all fun p=>Qb5 P kt p.1)=true:=by
 rw [List.all_eq_true];intro p hp;obtain ⟨z,hz⟩:=he p hp;rw [hz];exact h
def lkS (ok:Bool) (fd:Option (Nat × AV)) (zv:Value) (y:AV):Prop:=Sub (Qp5 ok (fdV fd zv) fd.isSome) y
theorem Zf2 {P:Program} {ops:Array Oper} {K:FS→Prop} {rest:List Nat} {i:Nat} {s:LS} {kt e:TypeId} {k:MK} {es:List (MK × AV)} {ok:Bool} {d:Option Tmp} (fd:Option (Nat × AV)) (zv:Value) (h:lkO P ops s i=some (kt,e,es,k,ok,d))
  (hk:(es.all fun p=>Qb5 P kt p.1)=true) (hk2:Qb5 P kt k=true) (hz:(P.info? e).bind (·.zero)=some zv) (hn:Qcf k es 0=fd)
  {y:AV} (hy:lkS ok fd zv y) (kk:SeqR P ops K rest (s.put d y).fs):SeqR P ops K (i :: rest) s.fs:=by
 unfold lkO at h
 split at h
 ·rename_i o ho;obtain ⟨hi,hg⟩:=Qbp ho
  split at h
  ·rename_i t m ko ok' hop
   split at h
   ·rename_i kt' e' es1 kk' hu hm hko;simp only [Option.some.injEq,Prod.mk.injEq] at h;obtain ⟨rfl,rfl,rfl,rfl,rfl,rfl⟩:=h;refine ⟨o,hi,.inr ⟨hg,.inr (.inl ⟨by rw [hop];rfl,fun z nb=>z=y∧nb=none,?_,?_⟩)⟩⟩
    ·intro D w a Q K' hD hops hbx hcont;have hvm:=Qa5 hops m (by simp [hop,Op.operands]);have hvk:=Qa5 hops ko (by simp [hop,Op.operands]);rw [hm] at hvm;rw [Qm0 hko] at hvk;generalize hmv:a.eval m=vm at hvm;generalize hkv:a.eval ko=vk at hvk;cases hvk;cases hvm with
     | mp es r es' clock g1 g2 g3 g4' g5 g6=>
      obtain ⟨g4,gB⟩:=g4';obtain ⟨dd,hd'⟩:=Qmz hk2;have e1:(getObj r).run P w=.ok (.map es' clock) w:=by simp [getObj,Sem.run,g3]
      obtain ⟨f1,f2⟩:=Qem hd' hk2 es1 es'.toList 0 (by simpa using g4) (fun p hp=>List.all_eq_true.1 hk p hp) (fun j p e hp he=>g5 j p e hp (by simpa using he));have main:∃ v,(execOp a.eval o).run P w=.ok (.value v) w∧Ra D w (Qp5 ok' (fdV fd zv) fd.isSome) v:=by
       cases fd with
       | none=>
        have hfind:=f1 hn;obtain ⟨inf,hi1,hi2⟩:∃ inf,P.info? e'=some inf∧inf.zero=some zv:=by
         cases hinf:P.info? e' with
         | none=>rw [hinf] at hz;cases hz
         | some inf=>rw [hinf] at hz;exact ⟨inf,rfl,hz⟩
        cases ok' with
        | true=>
         refine ⟨.tuple #[zv,.bool false],by simp [execOp,hop,hmv,hkv,Instr.lookup,run_underlying hu,e1,Qbo _ hk2,Instr.findKey,run_underlying hd',hfind,zeroValue,typeInfo,hi1,hi2],.tup _ _ rfl (fun j x v hx hv=>?_)⟩
         match j,hx,hv with
         | 0,hx,hv=>simp at hx hv;subst hx hv;exact .val _
         | 1,hx,hv=>simp at hx hv;subst hx hv;exact .val _
         | j+2,hx,_=>simp at hx
        | false=>
         exact ⟨zv,by simp [execOp,hop,hmv,hkv,Instr.lookup,run_underlying hu,e1,Qbo _ hk2,Instr.findKey,run_underlying hd',hfind,zeroValue,typeInfo,hi1,hi2],.val _⟩
       | some p=>
        obtain ⟨j,x⟩:=p;obtain ⟨en,q,q1,q2,q3,hfind⟩:=f2 j x hn;have hre:=g6 q _ en q2 (by simpa using q1);cases ok' with
        | true=>
         refine ⟨.tuple #[en.val,.bool true],by simp [execOp,hop,hmv,hkv,Instr.lookup,run_underlying hu,e1,Qbo _ hk2,Instr.findKey,run_underlying hd',hfind],.tup _ _ rfl (fun j x v hx hv=>?_)⟩
         match j,hx,hv with
         | 0,hx,hv=>simp at hx hv;subst hx hv;exact hre
         | 1,hx,hv=>simp at hx hv;subst hx hv;exact .val _
         | j+2,hx,_=>simp at hx
        | false=>
         exact ⟨en.val,by simp [execOp,hop,hmv,hkv,Instr.lookup,run_underlying hu,e1,Qbo _ hk2,Instr.findKey,run_underlying hd',hfind],hre⟩
      obtain ⟨v,m1,m2⟩:=main;unfold Oper.wp;rw [m1,Oper.upon_value];exact hcont _ w _ none D ⟨rfl,rfl⟩ (Below.refl _ _) (fun _ h=>h) (fun b h=>⟨hD b h,.inl h⟩) (hy D w v m2) (fun id y h=>by cases h)
    ·rintro z nb ⟨rfl,rfl⟩;refine ⟨fun id y h=>(by cases h),?_⟩;simp only [FS.addB];rw [LS.fs_put];exact kk
   ·cases h
  ·cases h
 ·cases h
def lkB (P:Program) (ops:Array Oper) (s:LS) (i:Nat):Option (TypeId × TypeId × Nat × Nat × MK × Bool × Option Tmp):=
 match opAt ops s i with
 | some o=>
  match o.op with
  | .lookup t m k ok=>
   match P.underlying t,s.ev m,keyA (s.ev k) with
   | some (.map kt e),.mref id r,some kk=>some (kt,e,id,r,kk,ok,o.dst)
   | _,_,_=>none
  | _=>none
 | none=>none
theorem Zf3 {P:Program} {ops:Array Oper} {K:FS→Prop} {rest:List Nat} {i:Nat} {s:LS} {kt e:TypeId} {k:MK} {es:List (MK × AV)} {ok:Bool} {d:Option Tmp} (fd:Option (Nat × AV)) (zv:Value) {id r r':Nat} (h:lkB P ops s i=some (kt,e,id,r,k,ok,d)) (hbx0:bget s.bx id=some (.mp r' es)) (hr0:r'=r)
  (hk:(es.all fun p=>Qb5 P kt p.1)=true) (hk2:Qb5 P kt k=true) (hz:(P.info? e).bind (·.zero)=some zv) (hn:Qcf k es 0=fd)
  {y:AV} (hy:lkS ok fd zv y) (kk:SeqR P ops K rest (s.put d y).fs):SeqR P ops K (i :: rest) s.fs:=by
 unfold lkB at h
 split at h
 ·rename_i o ho;obtain ⟨hi,hg⟩:=Qbp ho
  split at h
  ·rename_i t m ko ok' hop
   split at h
   ·rename_i kt' e' id1 r1 kk' hu hm hko;simp only [Option.some.injEq,Prod.mk.injEq] at h;obtain ⟨rfl,rfl,rfl,rfl,rfl,rfl,rfl⟩:=h;subst hr0;refine ⟨o,hi,.inr ⟨hg,.inr (.inl ⟨by rw [hop];rfl,fun z nb=>z=y∧nb=none,?_,?_⟩)⟩⟩
    ·intro D w a Q K' hD hops hbx hcont;have hvm:=Qa5 hops m (by simp [hop,Op.operands]);have hvk:=Qa5 hops ko (by simp [hop,Op.operands]);rw [hm] at hvm;rw [Qm0 hko] at hvk;generalize hmv:a.eval m=vm at hvm;generalize hkv:a.eval ko=vk at hvk;cases hvk;cases hvm
     ·obtain ⟨es',clock,g3,⟨g4,gB⟩,g5,g6⟩:=hbx id1 _ hbx0;obtain ⟨dd,hd'⟩:=Qmz hk2;have e1:(getObj r').run P w=.ok (.map es' clock) w:=by simp [getObj,Sem.run,g3]
      obtain ⟨f1,f2⟩:=Qem hd' hk2 es es'.toList 0 (by simpa using g4) (fun p hp=>List.all_eq_true.1 hk p hp) (fun j p e hp he=>g5 j p e hp (by simpa using he));have main:∃ v,(execOp a.eval o).run P w=.ok (.value v) w∧Ra D w (Qp5 ok' (fdV fd zv) fd.isSome) v:=by
       cases fd with
       | none=>
        have hfind:=f1 hn;obtain ⟨inf,hi1,hi2⟩:∃ inf,P.info? e'=some inf∧inf.zero=some zv:=by
         cases hinf:P.info? e' with
         | none=>rw [hinf] at hz;cases hz
         | some inf=>rw [hinf] at hz;exact ⟨inf,rfl,hz⟩
        cases ok' with
        | true=>
         refine ⟨.tuple #[zv,.bool false],by simp [execOp,hop,hmv,hkv,Instr.lookup,run_underlying hu,e1,Qbo _ hk2,Instr.findKey,run_underlying hd',hfind,zeroValue,typeInfo,hi1,hi2],.tup _ _ rfl (fun j x v hx hv=>?_)⟩
         match j,hx,hv with
         | 0,hx,hv=>simp at hx hv;subst hx hv;exact .val _
         | 1,hx,hv=>simp at hx hv;subst hx hv;exact .val _
         | j+2,hx,_=>simp at hx
        | false=>
         exact ⟨zv,by simp [execOp,hop,hmv,hkv,Instr.lookup,run_underlying hu,e1,Qbo _ hk2,Instr.findKey,run_underlying hd',hfind,zeroValue,typeInfo,hi1,hi2],.val _⟩
       | some p=>
        obtain ⟨j,x⟩:=p;obtain ⟨en,q,q1,q2,q3,hfind⟩:=f2 j x hn;have hre:=g6 q _ en q2 (by simpa using q1);cases ok' with
        | true=>
         refine ⟨.tuple #[en.val,.bool true],by simp [execOp,hop,hmv,hkv,Instr.lookup,run_underlying hu,e1,Qbo _ hk2,Instr.findKey,run_underlying hd',hfind],.tup _ _ rfl (fun j x v hx hv=>?_)⟩
         match j,hx,hv with
         | 0,hx,hv=>simp at hx hv;subst hx hv;exact hre
         | 1,hx,hv=>simp at hx hv;subst hx hv;exact .val _
         | j+2,hx,_=>simp at hx
        | false=>
         exact ⟨en.val,by simp [execOp,hop,hmv,hkv,Instr.lookup,run_underlying hu,e1,Qbo _ hk2,Instr.findKey,run_underlying hd',hfind],hre⟩
      obtain ⟨v,m1,m2⟩:=main;unfold Oper.wp;rw [m1,Oper.upon_value];exact hcont _ w _ none D ⟨rfl,rfl⟩ (Below.refl _ _) (fun _ h=>h) (fun b h=>⟨hD b h,.inl h⟩) (hy D w v m2) (fun id y h=>by cases h)
    ·rintro z nb ⟨rfl,rfl⟩;refine ⟨fun id y h=>(by cases h),?_⟩;simp only [FS.addB];rw [LS.fs_put];exact kk
   ·cases h
  ·cases h
 ·cases h
def lkRO (P:Program) (ops:Array Oper) (s:LS) (i:Nat):Option ((TypeId × Option Value) × List (MK × AV) × MK × Bool × Option Tmp):=
 match lkO P ops s i with
 | some (kt,e,es,k,ok,d)=>some ((kt,(P.info? e).bind (·.zero)),es,k,ok,d)
 | none=>none
def lkRB (P:Program) (ops:Array Oper) (s:LS) (i:Nat):Option ((TypeId × Option Value) × (Nat × Nat × Nat × List (MK × AV)) × MK × Bool × Option Tmp):=
 match lkB P ops s i with
 | some (kt,e,id,r,k,ok,d)=>
  (match bget s.bx id with
  | some (.mp r' es)=>some ((kt,(P.info? e).bind (·.zero)),(id,r,r',es),k,ok,d)
  | _=>none)
 | none=>none
theorem Qkc {P:Program} {kt:TypeId} {zv:Value} {es:List (MK × AV)} {k:MK} {ok:Bool} {d:Option Tmp} (fd:Option (Nat × AV)) {y:AV}
  (hk:(es.all fun p=>Qb5 P kt p.1)=true) (hk2:Qb5 P kt k=true) (hn:Qcf k es 0=fd) (hy:lkS ok fd zv y) :
  ∀ (ops:Array Oper) (i:Nat) (s:LS) (K:FS→Prop) (rest:List Nat),lkRO P ops s i=some ((kt,some zv),es,k,ok,d)→(∀ a:Unit,SeqR P ops K rest (s.put d y).fs)→SeqR P ops K (i :: rest) s.fs:=by
 intro ops i s K rest h kk;unfold lkRO at h
 split at h
 ·rename_i kt' e es' k' ok' d' ho;simp only [Option.some.injEq,Prod.mk.injEq] at h;obtain ⟨⟨rfl,hz⟩,rfl,rfl,rfl,rfl⟩:=h;exact Zf2 fd zv ho hk hk2 hz hn hy (kk ())
 ·cases h
theorem Qof {P:Program} {kt:TypeId} {zv:Value} {id r:Nat} {es:List (MK × AV)} {k:MK} {ok:Bool} {d:Option Tmp} (fd:Option (Nat × AV)) {y:AV}
  (hk:(es.all fun p=>Qb5 P kt p.1)=true) (hk2:Qb5 P kt k=true) (hn:Qcf k es 0=fd) (hy:lkS ok fd zv y) :
  ∀ (ops:Array Oper) (i:Nat) (s:LS) (K:FS→Prop) (rest:List Nat),lkRB P ops s i=some ((kt,some zv),(id,r,r,es),k,ok,d)→(∀ a:Unit,SeqR P ops K rest (s.put d y).fs)→SeqR P ops K (i :: rest) s.fs:=by
 intro ops i s K rest h kk;unfold lkRB at h
 split at h
 ·rename_i kt' e id' r' k' ok' d' ho
  split at h
  ·rename_i r2 es' hb;simp only [Option.some.injEq,Prod.mk.injEq] at h;obtain ⟨⟨rfl,hz⟩,⟨rfl,rfl,rfl,rfl⟩,rfl,rfl,rfl⟩:=h;exact Zf3 fd zv ho hb rfl hk hk2 hz hn hy (kk ())
  ·cases h
 ·cases h
def insR (P:Program) (ops:Array Oper) (s:LS) (i:Nat):Option (TypeId × (Nat × Nat × Nat × List (MK × AV)) × MK × AV):=
 match insO P ops s i with
 | some (kt,id,r,k,x,none)=>
  (match bget s.bx id with
  | some (.mp r' es)=>some (kt,(id,r,r',es),k,x)
  | _=>none)
 | _=>none
theorem Zau {P:Program} {kt:TypeId} {id r:Nat} {es es2:List (MK × AV)} {k:MK} {x:AV}
  (hk:(es.all fun p=>Qb5 P kt p.1)=true) (hk2:Qb5 P kt k=true) (hn:Qcf k es 0=none) (he:es++[(k,x)]=es2) :
  ∀ (ops:Array Oper) (i:Nat) (s:LS) (K:FS→Prop) (rest:List Nat),insR P ops s i=some (kt,(id,r,r,es),k,x)→(∀ a:Unit,SeqR P ops K rest (s.setB id (.mp r es2)).fs)→SeqR P ops K (i :: rest) s.fs:=by
 subst he;intro ops i s K rest h kk;unfold insR at h
 split at h
 ·rename_i kt' id' r' k' x' ho
  split at h
  ·rename_i r2 es' hb;simp only [Option.some.injEq,Prod.mk.injEq] at h;obtain ⟨rfl,⟨rfl,rfl,rfl,rfl⟩,rfl,rfl⟩:=h;exact Zje ho hb rfl hk hk2 hn rfl (kk ())
  ·cases h
 ·cases h
theorem Qvm {es:Array MapEntry} {clock:Nat} (h:Born es clock) (i:Nat) (f:MapEntry→MapEntry) (hf:∀ e,(f e).born=e.born):Born (es.modify i f) clock:=by
 have hm:(es.modify i f).toList.map (·.born)=es.toList.map (·.born):=by
  apply List.ext_getElem?;intro j;simp only [List.getElem?_map,Array.getElem?_toList,Array.getElem?_modify];by_cases hij:i=j
  ·subst hij;cases he:es[i]? with
   | none=>simp
   | some e=>simp [hf e]
  ·simp [hij]
 refine ⟨fun x hx=>?_,by rw [hm];exact h.2⟩;have:x.born∈(es.modify i f).toList.map (·.born):=List.mem_map_of_mem hx;rw [hm] at this;obtain ⟨y,hy,he⟩:=List.mem_map.1 this;rw [← he];exact h.1 y hy
theorem seqUpd {P:Program} {ops:Array Oper} {K:FS→Prop} {rest:List Nat} {i:Nat} {s s':LS} {kt:TypeId} {id r r':Nat} {k:MK} {x:AV} {es:List (MK × AV)} (h:insO P ops s i=some (kt,id,r,k,x,none))
  (hb:bget s.bx id=some (.mp r' es)) (hr:r'=r) (hk:(es.all fun p=>Qb5 P kt p.1)=true) (hk2:Qb5 P kt k=true) {j0:Nat} {x0:AV} (hn:Qcf k es 0=some (j0,x0))
  (hf:s.setB id (.mp r' (es.set j0 (k,x)))=s') (kk:SeqR P ops K rest s'.fs):SeqR P ops K (i :: rest) s.fs:=by
 subst hr hf;have core:∀ (o:Oper) (t:TypeId) (m ko xo:Operand),opAt ops s i=some o→(o.op=.insert t m ko xo∨o.op=.mapUpdate t m ko xo)→(∃ e,P.underlying t=some (.map kt e))→s.ev m=.mref id r'→keyA (s.ev ko)=some k→s.ev xo=x→o.dst=none→SeqR P ops K (i :: rest) s.fs:=by
  intro o t m ko xo ho hop hu hm hko hx hd;obtain ⟨hi,hg⟩:=Qbp ho;have hmo:m∈o.op.operands∧ko∈o.op.operands∧xo∈o.op.operands:=by
   rcases hop with h | h<;>simp [h,Op.operands]
  refine ⟨o,hi,.inr ⟨hg,.inr (.inr ⟨by rcases hop with h | h<;>(rw [h];rfl),by rcases hop with h | h<;>(rw [h];rfl),id,fun z y'=>z=.any∧y'=.mp r' (es.set j0 (k,x)),?_,?_⟩)⟩⟩
  ·refine Qtm.up ?_;intro D w a Q K' hD hops hbx hnd hcont;have hvm:=Qa5 hops m hmo.1;have hvk:=Qa5 hops ko hmo.2.1;have hvx:=Qa5 hops xo hmo.2.2;rw [hm] at hvm;rw [Qm0 hko] at hvk;rw [hx] at hvx;generalize hmv:a.eval m=vm at hvm;generalize hkv:a.eval ko=vk at hvk;generalize hxv:a.eval xo=vx at hvx;cases hvm;cases hvk;obtain ⟨es',clock,g1,⟨g2,gB⟩,g3,g4⟩:=hbx id _ hb;obtain ⟨d,hd'⟩:=Qmz hk2;obtain ⟨e,hu⟩:=hu;obtain ⟨en,q0,q1,q2,q3,hfind⟩:=(Qem hd' hk2 es es'.toList 0 (by simpa using g2) (fun p hp=>List.all_eq_true.1 hk p hp) (fun j p e hp he=>g3 j p e hp (by simpa using he))).2 j0 x0 hn;have hq:q0=j0:=by omega
   subst hq;have hen:es'[q0]?=some en:=by simpa using q1
   have hkey:en.key=k.val:=g3 q0 _ en q2 hen;have hstay:(Instr.keyThatStays k.val k.val).run P w=.ok k.val w:=by
    cases k<;>simp [Instr.keyThatStays,MK.val,Instr.sameBits,Qnn]
   have hrun:(Instr.mapUpdate t (.map (some r')) k.val vx).run P w=.ok () { w with heap:=w.heap.setIfInBounds r' (.map (es'.modify q0 fun e=>{ e with key:=k.val,val:=vx }) clock) }:=by
    have e1:(getObj r').run P w=.ok (.map es' clock) w:=by simp [getObj,Sem.run,g1]
    have e2:∀ o',(setObj r' o').run P w=.ok () { w with heap:=w.heap.setIfInBounds r' o' }:=fun o'=>by simp [setObj,Sem.run,g1]
    simp [Instr.mapUpdate,run_underlying hu,e1,Qbo false hk2,Instr.findKey,run_underlying hd',hfind,e2,hen,hkey,hstay]
   have hexec:(execOp a.eval o).run P w=.ok .skip { w with heap:=w.heap.setIfInBounds r' (.map (es'.modify q0 fun e=>{ e with key:=k.val,val:=vx }) clock) }:=by
    rcases hop with h | h<;>simp [execOp,h,hmv,hkv,hxv,hrun]
   unfold Oper.wp;rw [hexec,Oper.upon_skip];have hlt:r'<w.heap.size:=(Array.getElem?_eq_some_iff.1 g1).1;have hother:∀ q,q ≠ r'→(w.heap.setIfInBounds r' (.map (es'.modify q0 fun e=>{ e with key:=k.val,val:=vx }) clock))[q]?=w.heap[q]?:=fun q hq=>Array.getElem?_setIfInBounds_ne (Ne.symm hq);have hfr:∀ b u,Ra D w b u→Ra D { w with heap:=w.heap.setIfInBounds r' (.map (es'.modify q0 fun e=>{ e with key:=k.val,val:=vx }) clock) } b u:=fun b u hu=>
    hu.frame (fun _ h=>h) (by simp) (fun b hdb hl=>hother b (fun e=>hnd _ r' hb rfl (e ▸ hdb)))
   refine hcont undef _ .any _ _ ⟨rfl,rfl⟩ hb ⟨rfl,rfl,rfl,by simp,fun q hq=>by omega⟩ (fun q hq _=>hother q (fun e=>hq (by rw [e];rfl))) (fun g hg=>⟨.inl hg,hnd _ g hb hg⟩)
    ⟨(es'.modify q0 fun e=>{ e with key:=k.val,val:=vx }),clock,by simp [hlt],⟨by simp [g2],Qvm gB _ _ fun e=>rfl⟩,fun j p e hp he=>?_,fun j p e hp he=>?_⟩ (.any _)
   ·rw [Array.getElem?_modify] at he;rw [List.getElem?_set] at hp;by_cases hj:q0=j
    ·subst hj;rw [if_pos rfl,hen] at he;simp only [Option.map_some,Option.some.injEq] at he;have hl:=Qan q2;rw [if_pos rfl,if_pos hl] at hp;obtain rfl:=Option.some.inj hp;subst he;rfl
    ·rw [if_neg hj] at he hp;exact g3 j p e hp he
   ·rw [Array.getElem?_modify] at he;rw [List.getElem?_set] at hp;by_cases hj:q0=j
    ·subst hj;rw [if_pos rfl,hen] at he;simp only [Option.map_some,Option.some.injEq] at he;have hl:=Qan q2;rw [if_pos rfl,if_pos hl] at hp;obtain rfl:=Option.some.inj hp;subst he;exact hfr _ _ hvx
    ·rw [if_neg hj] at he hp;exact hfr _ _ (g4 j p e hp he)
  ·rintro z y' ⟨rfl,rfl⟩;rw [hd];have:=kk;rw [← LS.fs_setB] at this;exact this
 unfold insO at h
 split at h
 ·rename_i o ho
  split at h
  ·rename_i t m ko xo hop
   split at h
   ·rename_i kt' e id' r kk' hu hm hko;simp only [Option.some.injEq,Prod.mk.injEq] at h;obtain ⟨rfl,rfl,rfl,rfl,hx,hd⟩:=h;exact core o t m ko xo ho (.inl hop) ⟨e,hu⟩ hm hko hx hd
   ·cases h
  ·rename_i t m ko xo hop
   split at h
   ·rename_i kt' e id' r kk' hu hm hko;simp only [Option.some.injEq,Prod.mk.injEq] at h;obtain ⟨rfl,rfl,rfl,rfl,hx,hd⟩:=h;exact core o t m ko xo ho (.inr hop) ⟨e,hu⟩ hm hko hx hd
   ·cases h
  ·cases h
 ·cases h
theorem Zaq {P:Program} {kt:TypeId} {id r:Nat} {es es2:List (MK × AV)} {k:MK} {x:AV} {j0:Nat} {x0:AV}
  (hk:(es.all fun p=>Qb5 P kt p.1)=true) (hk2:Qb5 P kt k=true) (hn:Qcf k es 0=some (j0,x0)) (he:es.set j0 (k,x)=es2) :
  ∀ (ops:Array Oper) (i:Nat) (s:LS) (K:FS→Prop) (rest:List Nat),insR P ops s i=some (kt,(id,r,r,es),k,x)→(∀ a:Unit,SeqR P ops K rest (s.setB id (.mp r es2)).fs)→SeqR P ops K (i :: rest) s.fs:=by
 subst he;intro ops i s K rest h kk;unfold insR at h
 split at h
 ·rename_i kt' id' r' k' x' ho
  split at h
  ·rename_i r2 es' hb;simp only [Option.some.injEq,Prod.mk.injEq] at h;obtain ⟨rfl,⟨rfl,rfl,rfl,rfl⟩,rfl,rfl⟩:=h;exact seqUpd ho hb rfl hk hk2 hn rfl (kk ())
  ·cases h
 ·cases h
def mpR (id:Nat) (s:LS):Option (Nat × List (MK × AV)):=
 match bget s.bx id with
 | some (.mp r es)=>some (r,es)
 | _=>none
theorem Qt2 {P:Program} {id r:Nat} {es es':List (MK × AV)} (he:es=es'):∀ (c:Cx) (Q:Exit→FS→Prop) (code:Code) (s:LS),mpR id s=some (r,es)→(∀ a:Unit,AWp c P code Q (s.setB id (.mp r es')).fs)→AWp c P code Q s.fs:=by
 subst he;intro c Q code s h kk;unfold mpR at h
 split at h
 ·rename_i r' es' hb;simp only [Option.some.injEq,Prod.mk.injEq] at h;obtain ⟨rfl,rfl⟩:=h;have:=kk ();rw [← LS.fs_setB] at this;have e:s.fs.setB id (some (.mp r' es'))=s.fs:=by
   show FS.mk _ _=FS.mk _ _;congr 1;funext i;show (if i=id then some (Bx.mp r' es') else s.fs.bx i)=s.fs.bx i
   split
   ·rename_i hi;subst hi;exact hb.symm
   ·rfl
  rw [e] at this;exact this
 ·cases h
def Qh8 (P:Program) (f:FuncId) (args:List AV) (y:Bx) (r:AV) (y':Bx):Prop:=
 ∀ (D:Nat→Prop) (w:World) (vs:Array Value),(∀ b,D b→b<w.heap.size)→Qc0 D w args vs→BoxR D w y→(∀ g,y.blk=some g→¬ D g) →
  Calls P f vs w (fun e w'=>∃ v,∃ D':Nat→Prop,e=.returned v∧Below 0 w w'∧(∀ k,y.blk ≠ some k→k<w.heap.size→w'.heap[k]?=w.heap[k]?)∧(∀ b,D b→D' b) ∧
   (∀ b,D' b→b<w'.heap.size∧(D b∨y.blk=some b∨w.heap.size≤b))∧(∀ g,y'.blk=some g→(y.blk=some g∨w.heap.size≤g)∧¬ D' g)∧BoxR D' w' y'∧Ra D' w' r v)
theorem Zcn {P:Program} {f:FuncId} {F:Func} {code:Code} {args:List AV} {q:Nat} {y y':Bx} {r:AV} (n:Nat) (ct:Ct P) (hf:P.funcs[f]?=some F) (hb:F.body=some code)
  (hk:(decide (args.length≤F.ntmps)&&(P.follows .mixedOrders&&(F.results.toList.all fun rv=>decide ((match rv with | .tmp t=>t | .cell t _=>t)<F.ntmps))))=true)
  (h:vcC ct=vc P F (.valB r q y') n ct (.code code) [] ⟨Qcn args 0,[(q,y)]⟩):Qh8 P f args y r y':=by
 simp only [Bool.and_eq_true] at hk;have hsz:args.length≤F.ntmps:=of_decide_eq_true hk.1;have hn:=hk.2.2;have hv:vc P F (.valB r q y') n ct (.code code) [] ⟨Qcn args 0,[(q,y)]⟩:=h ▸ Qaw ct;intro D w vs hD hvs hy hyD;refine calls_of_wp hf hb ?_
 let c:Cx:=⟨w.heap.size,w,F.ntmps,D,fun k=>y.blk=some k⟩
 have hawp:AWp c P code (FinG P F (.valB r q y')) (LS.mk (Qcn args 0) [(q,y)]).fs:=Qaz (c:=c) rfl hk.2.1 n ct (.code code) [] _ hv;have htm:∀ t,(LS.mk (Qcn args 0) [(q,y)]).fs.tm t=args.getD t .any:=fun t=>by
  show lget (Qcn args 0) t=_;rw [Qej];simp
 have hbx:∀ i x,(LS.mk (Qcn args 0) [(q,y)]).fs.bx i=some x→i=q∧x=y:=fun i x hx=>by
  have hx':bget [(q,y)] i=some x:=hx;simp only [bget] at hx';cases hb:Nat.beq q i with
  | true=>
   rw [hb] at hx';exact ⟨(Nat.eq_of_beq_eq_true hb).symm,(Option.some.inj hx').symm⟩
  | false=>rw [hb] at hx';cases hx'
 have hrel:Rel c (LS.mk (Qcn args 0) [(q,y)]).fs { tmps:=vs++Array.replicate (F.ntmps-vs.size) undef,defers:=[] } w:=by
  refine ⟨Nat.le_refl _,D,rfl,?_,BelowL.refl (c:=c),hD,⟨fun _ h=>h,fun _ h=>.inl h⟩,fun t v hv=>?_,fun id x h=>?_,fun i j x z hx hz hij=>?_⟩
  ·have:=hvs.1;simp [c];omega
  ·rw [htm];by_cases ht:t<vs.size
   ·rw [Array.getElem?_append_left ht] at hv;have hta:t<args.length:=by rw [hvs.1];exact ht
    have:=hvs.2 t args[t] v (List.getElem?_eq_getElem hta) hv;simpa [List.getD,List.getElem?_eq_getElem hta] using this
   ·have hta:args.length≤t:=by rw [hvs.1];omega
    have:args.getD t .any=.any:=by simp [List.getD,List.getElem?_eq_none hta]
    rw [this];exact .any v
  ·obtain ⟨_,rfl⟩:=hbx id x h;exact ⟨fun g hg=>⟨.inr hg,hyD g hg⟩,hy⟩
  ·exact absurd ((hbx i x hx).1.trans (hbx j z hz).1.symm) hij
 refine wp_mono (hawp _ _ hrel) fun e' a' w' ⟨s',hq,hc,D',hR⟩=>?_;obtain ⟨he,hd,hby⟩:=hq;have hn':∀ rv∈F.results.toList,(match rv with | .tmp t=>t | .cell t _=>t)<c.n:=fun rv hrv=>by
  have:=List.all_eq_true.1 hn rv hrv;simpa using this
 obtain ⟨v,hv1,hrv⟩:=Qet hR hn' hd;have fin:∃ u,∃ D'':Nat→Prop,Ending.returned v=.returned u∧Below 0 w w'∧(∀ k,y.blk ≠ some k→k<w.heap.size→w'.heap[k]?=w.heap[k]?)∧(∀ b,D b→D'' b) ∧
   (∀ b,D'' b→b<w'.heap.size∧(D b∨y.blk=some b∨w.heap.size≤b))∧(∀ g,y'.blk=some g→(y.blk=some g∨w.heap.size≤g)∧¬ D'' g)∧BoxR D'' w' y'∧Ra D'' w' r u:=
  ⟨v,D',rfl,⟨hR.below.os,hR.below.tape,hR.below.output,hR.below.size,fun k hk=>absurd hk (by omega)⟩,fun k hk hl=>hR.below.block k hl hk,hR.old.1,
   fun b hb=>⟨hR.dlt b hb,(hR.old.2 b hb).imp id fun h=>h.symm⟩,fun g hg=>⟨((hR.bx q y' hby).1 g hg).1.symm.imp id id,((hR.bx q y' hby).1 g hg).2⟩,(hR.bx q y' hby).2,hrv⟩
 rcases he with rfl | rfl
 ·exact ⟨hR.defers,v,hv1,fin⟩
 ·exact ⟨hR.defers,v,hv1,fin⟩
theorem Qdd {P:Program} {q:Nat} {f:FuncId} {args args':List AV} {d:Option Tmp} {y y':Bx} {r:AV} (hs:Qc2 args args') (hsp:Qh8 P f args' y r y') :
  ∀ (ops:Array Oper) (i:Nat) (s:LS) (K:FS→Prop),lcR P q ops s i=some ((f,args,d),y)→(∀ a:Unit,K ((s.put d r).setB q y').fs)→Qtk P ops i s.fs K:=by
 intro ops i s K h kk;unfold lcR at h
 split at h
 ·rename_i f' args0 d' y1 hc hr;cases he:entB P f' with
  | false=>rw [he] at h;cases h
  | true=>
   rw [he] at h;simp only [cond_true,Option.some.injEq,Prod.mk.injEq] at h;obtain ⟨⟨rfl,rfl,rfl⟩,rfl⟩:=h;obtain ⟨o,hi,hg,hrd,hd,hrun⟩:=Qjz (P:=P) hc;refine ⟨o,hi,hg,.inl ⟨q,fun x z=>x=r∧z=y',?_,?_⟩⟩
   ·intro D w a Q K' hD hops hbx hnd hcont;obtain ⟨hl,hsa⟩:=hs.ok;obtain ⟨vs,h1,h2⟩:=hrun D w a.eval hops;have hra:Qc0 D w args' vs:=by
     refine ⟨by rw [← hl];exact h2.1,fun j x v hx hv=>?_⟩;have hj:j<args0.length:=by have:=(List.getElem?_eq_some_iff.1 hx).1;omega
     exact hsa j args0[j] x (List.getElem?_eq_getElem hj) hx D w v (h2.2 j args0[j] v (List.getElem?_eq_getElem hj) hv)
    unfold Oper.wp;rw [h1,Qil he,Oper.upon_enter];refine (hsp D w _ hD hra (hbx q _ hr) (fun g hg=>hnd _ g hr hg)).mono ?_;rintro e' w' ⟨v,D',rfl,g1,g2,g3,g4,g6,g7,g5⟩;exact hcont v w' r _ y' D' ⟨rfl,rfl⟩ hr g1 g2 g3 g4 g6 g7 g5
   ·rintro x z ⟨rfl,rfl⟩;rw [hd,LS.fs_put,LS.fs_setB];exact kk ()
 ·cases h
def mput (es:List (MK × AV)) (k:MK) (x:AV):List (MK × AV):=
 match Qcf k es 0 with
 | some (j,_)=>es.set j (k,x)
 | none=>es++[(k,x)]
theorem Qrl {P:Program} {kt:TypeId} {id r:Nat} {es es2:List (MK × AV)} {k:MK} {x:AV}
  (hk:(es.all fun p=>Qb5 P kt p.1)=true) (hk2:Qb5 P kt k=true) (he:mput es k x=es2) :
  ∀ (ops:Array Oper) (i:Nat) (s:LS) (K:FS→Prop) (rest:List Nat),insR P ops s i=some (kt,(id,r,r,es),k,x)→(∀ a:Unit,SeqR P ops K rest (s.setB id (.mp r es2)).fs)→SeqR P ops K (i :: rest) s.fs:=by
 unfold mput at he
 split at he
 ·rename_i j x0 hn;exact Zaq hk hk2 hn he
 ·rename_i hn;exact Zau hk hk2 hn he
def CLn (F:FuncId) (pre:List AV):Nat→AV
 | 0=>.any
 | n+1=>.clo F (pre++[.dptr [CLn F pre n]])
def recR (id:Nat) (s:LS):Option (Nat × TypeId × FuncId × List AV × Nat × Nat):=
 match bget s.bx id with
 | some (.box b T [.clo F caps])=>
  (match caps.reverse with
  | .ptr id' b' 0 :: pre=>some (b,T,F,pre.reverse,id',b')
  | _=>none)
 | _=>none
def recS (id t:Nat) (x:AV) (ts bs:List Nat) (s:LS):LS:=
 ⟨(t,.dptr [x]) :: ts.map (fun q=>(q,lget s.tm q)),bs.filterMap fun q=>(bif Nat.beq q id then none else bget s.bx q).map fun y=>(q,y)⟩
theorem Zev {l:List Nat} {g:Nat→Option Bx} {i:Nat} {y:Bx} (h:bget (l.filterMap fun q=>(g q).map fun y=>(q,y)) i=some y):g i=some y:=by
 induction l with
 | nil=>cases h
 | cons q r ih=>
  cases hg:g q with
  | none=>rw [List.filterMap_cons_none (by rw [hg];rfl)] at h;exact ih h
  | some z=>
   rw [List.filterMap_cons_some (by rw [hg];rfl)] at h;simp only [bget] at h;cases hb:Nat.beq q i with
   | true=>rw [hb] at h;obtain rfl:=Nat.eq_of_beq_eq_true hb;rw [hg];exact h
   | false=>rw [hb] at h;exact ih h
theorem Qwr {s:LS}:∀ (l:List Nat) (i:Nat),lget (l.map fun q=>(q,lget s.tm q)) i=lget s.tm i∨lget (l.map fun q=>(q,lget s.tm q)) i=.any
 | [],i=>.inr rfl
 | q :: r,i=>by
  simp only [List.map_cons,lget];cases hb:Nat.beq q i with
  | true=>left;obtain rfl:=Nat.eq_of_beq_eq_true hb;rfl
  | false=>exact Qwr r i
theorem Zf8 {P:Program} {id t b:Nat} {T:TypeId} {F:FuncId} {pre:List AV} (N:Nat) (ts bs:List Nat) :
  ∀ (c:Cx) (Q:Exit→FS→Prop) (code:Code) (s:LS),((recR id s).map fun x=>(x,lget s.tm t))=some ((b,T,F,pre,id,b),.ptr id b 0)→(∀ a:Unit,AWp c P code Q (recS id t (CLn F pre N) ts bs s).fs)→AWp c P code Q s.fs:=by
 intro c Q code s h kk a w hr;cases hq:recR id s with
 | none=>rw [hq] at h;cases h
 | some x=>
 rw [hq] at h;simp only [Option.map_some,Option.some.injEq,Prod.mk.injEq] at h;obtain ⟨hx,ht⟩:=h;subst hx;unfold recR at hq
 split at hq
 ·rename_i b1 T1 F1 caps hb
  split at hq
  ·rename_i id1 b2 pre1 hc;simp only [Option.some.injEq,Prod.mk.injEq] at hq;obtain ⟨rfl,rfl,rfl,rfl,rfl,rfl⟩:=hq;have hcaps:caps=pre1.reverse++[.ptr id1 b2 0]:=by rw [← List.reverse_reverse caps,hc,List.reverse_cons]
   subst hcaps;obtain ⟨hcb,D,hR⟩:=hr;obtain ⟨ho,hB⟩:=hR.bx _ _ hb;obtain ⟨vs,htb,hsz,hone,hcell⟩:=hB;have hv0:∃ v,vs[0]?=some v∧Ra D w (.clo F1 (pre1.reverse++[.ptr id1 b2 0])) v:=by
    have h0:0<vs.size:=by rw [hsz];simp
    exact ⟨vs[0],Array.getElem?_eq_getElem h0,hcell 0 _ _ rfl (Array.getElem?_eq_getElem h0)⟩
   obtain ⟨C,hC,hRC⟩:=hv0;obtain ⟨us,hCe,h1,h2⟩:∃ us:Array Value,C=.func (.func F1) #[] us∧(pre1.reverse++[AV.ptr id1 b2 0]).length=us.size∧∀ (j:Nat) (x:AV) (v:Value),(pre1.reverse++[AV.ptr id1 b2 0])[j]?=some x→us[j]?=some v→Ra D w x v:=by
    cases hRC with
    | clo f caps us h1 h2=>exact ⟨us,rfl,h1,h2⟩
   have hbD:¬ D b2:=(ho b2 rfl).2;have hblt:b2<w.heap.size:=htb.lt
   let D':Nat→Prop:=fun k=>D k∨k=b2
   have fr:∀ {x:AV} {v:Value},Ra D w x v→Ra D' w x v:=fun h=>h.frame (fun _ h=>.inl h) (Nat.le_refl _) (fun _ _ _=>rfl);have key:∀ n,Ra D' w (.dptr [CLn F1 pre1.reverse n]) (.pointer (some ⟨b2,0,none⟩)):=by
    intro n;have hcl:Ra D' w (CLn F1 pre1.reverse n) C:=by
     induction n with
     | zero=>exact .any _
     | succ n ih=>
      refine hCe ▸ .clo _ _ us (by rw [← h1];simp) (fun j x v hx hv=>?_);by_cases hj:j<pre1.reverse.length
      ·have hx':(pre1.reverse++[AV.ptr id1 b2 0])[j]?=some x:=by rw [List.getElem?_append_left hj] at hx ⊢;exact hx
       exact fr (h2 j x v hx' hv)
      ·rw [List.getElem?_append_right (by omega)] at hx;have hj2:j=pre1.reverse.length:=by have:=(List.getElem?_eq_some_iff.1 hx).1;simp only [List.length_cons,List.length_nil] at this;omega
       subst hj2;simp only [Nat.sub_self,List.getElem?_cons_zero,Option.some.injEq] at hx;subst hx;have hp:=h2 pre1.reverse.length (AV.ptr id1 b2 0) v (by rw [List.getElem?_append_right (Nat.le_refl _)];simp) hv;cases hp;refine .dptr _ b2 0 (fun _=>C) (.inr rfl) hblt (fun j x hx=>?_) (fun j x hx=>?_)
       ·match j,hx with
        | 0,hx=>exact ⟨by rw [htb.cell];exact hC,hone 0 C hC⟩
        | j+1,hx=>simp at hx
       ·match j,hx with
        | 0,hx=>
         obtain rfl:=Option.some.inj hx;exact ih
        | j+1,hx=>simp at hx
    refine .dptr _ b2 0 (fun _=>C) (.inr rfl) hblt (fun j x hx=>?_) (fun j x hx=>?_)
    ·match j,hx with
     | 0,hx=>exact ⟨by rw [htb.cell];exact hC,hone 0 C hC⟩
     | j+1,hx=>simp at hx
    ·match j,hx with
     | 0,hx=>obtain rfl:=Option.some.inj hx;exact hcl
     | j+1,hx=>simp at hx
   refine kk () a w ⟨hcb,D',?_⟩;have hbx':∀ i y,(recS id1 t (CLn F1 pre1.reverse N) ts bs s).fs.bx i=some y→i ≠ id1∧s.fs.bx i=some y:=fun i y h=>by
    have h2:=Zev (g:=fun q=>bif Nat.beq q id1 then none else bget s.bx q) (i:=i) (y:=y) h;cases hbq:Nat.beq i id1 with
    | true=>simp [hbq] at h2
    | false=>simp only [hbq,cond_false] at h2;exact ⟨Nat.ne_of_beq_eq_false hbq,h2⟩
   refine ⟨hR.defers,hR.size,hR.below,fun k hk=>?_,⟨fun k hk=>.inl (hR.old.1 k hk),fun k hk=>?_⟩,fun q v hv=>?_,fun i y hy=>?_,fun i j y z hy hz hij=>?_⟩
   ·rcases hk with hk | rfl
    ·exact hR.dlt k hk
    ·exact hblt
   ·rcases hk with hk | rfl
    ·exact hR.old.2 k hk
    ·exact .inr (ho k rfl).1
   ·have hv2:=hR.tm q v hv;show Ra D' w (lget ((t,AV.dptr [CLn F1 pre1.reverse N]) :: ts.map fun q=>(q,lget s.tm q)) q) v;simp only [lget];cases hbq:Nat.beq t q with
    | true=>
     obtain rfl:=Nat.eq_of_beq_eq_true hbq;have hv3:Ra D w (lget s.tm t) v:=hv2;rw [ht] at hv3;cases hv3;exact key N
    | false=>
     rcases Qwr (s:=s) ts q with e | e
     ·simp only [e];exact fr hv2
     ·simp only [e];exact .any v
   ·obtain ⟨h3,h4⟩:=hbx' i y hy;obtain ⟨g1,g2⟩:=hR.bx i y h4;refine ⟨fun g hg=>⟨(g1 g hg).1,fun hd=>?_⟩,g2.frame (fun _ h=>.inl h) (Nat.le_refl _) (fun _ _ _=>rfl) (fun _ _=>rfl)⟩;rcases hd with hd | rfl
    ·exact (g1 g hg).2 hd
    ·exact hR.apart i id1 y _ h4 hb h3 g hg rfl
   ·exact hR.apart i j y z (hbx' i y hy).2 (hbx' j z hz).2 hij
  ·cases hq
 ·cases hq
theorem Qjh {P:Program} {f:FuncId} {F:Func} {code:Code} {args:List AV} {q:Nat} {y y':Bx} {r:AV} (hf:P.funcs[f]?=some F) (ct:Ct P) (n:Nat:=400) (hb:F.body=some code:=by rfl)
  (hk:(decide (args.length≤F.ntmps)&&(P.follows .mixedOrders&&(F.results.toList.all fun rv=>decide ((match rv with | .tmp t=>t | .cell t _=>t)<F.ntmps))))=true:=by kernel_rfl)
  (h:vcC ct=vc P F (.valB r q y') n ct (.code code) [] ⟨Qcn args 0,[(q,y)]⟩:=by kernel_rfl):Qh8 P f args y r y':=Zcn n ct hf hb hk h
theorem Zeh {l:List Nod} {i:Int} (hr:Qbq l):∀ x∈outN l i,x.ino ≠ i∧x∈l:=by
 intro x hx;rw [Qf3 hr] at hx;obtain ⟨h1,h2⟩:=List.mem_filter.1 hx;exact ⟨by simpa using h2,h1⟩
theorem Qwf {l:List Nod} {i:Int} (hr:Qbq l):Qbq (outN l i):=by
 rw [Qf3 hr];exact List.Pairwise.filter _ hr
theorem Qwe {f:Fsy} {i:Int} (h:Qam f):Qam (outF f i):=by
 obtain ⟨h1,h2,h3,h4⟩:=Qbg.1 h;exact Qbg.2 ⟨Nat.le_trans (Qun f.l i) h1,h2,fun n hn=>h3 n (Zeh h4 n hn).2,Qwf h4⟩
theorem Zhv {f:Fsy} {i j:Int} (hr:Qbq f.l):Qau (outF f i) j=(if j=i then false else Qau f j)∧Qaa (outF f i) j=(if j=i then nod0 else Qaa f j):=by
 have key:(outN f.l i).find? (isNo j)=if j=i then none else f.l.find? (isNo j):=by
  rw [Qf3 hr,List.find?_filter];by_cases h:j=i
  ·rw [if_pos h];refine List.find?_eq_none.2 fun x _=>?_;subst h;simp [isNo]
  ·rw [if_neg h];congr 1;funext x;by_cases hx:x.ino=j
   ·have:¬ x.ino=i:=by omega
    simp [isNo,hx,this,h]
   ·simp [isNo,hx]
 have hb:∀ f:Fsy,Qau f j=(f.l.find? (isNo j)).isSome:=fun f=>by
  unfold Qau
  induction f.l with
  | nil=>rfl
  | cons n r ih=>
   simp only [List.any_cons,List.find?_cons];cases h:isNo j n<;>simp [ih]
 constructor
 ·rw [hb,hb];show ((outN f.l i).find? (isNo j)).isSome=_;rw [key]
  split<;>rfl
 ·show ((outN f.l i).find? (isNo j)).getD nod0=_;rw [key]
  split<;>rfl
theorem out_ok {f:Fsy} {i:Int} (okf:OkF f) (hr:Qbq f.l):OkF (outF f i):=⟨okf.1,Nat.le_trans (Qun f.l i) okf.2.1,fun n hn=>okf.2.2 n (Zeh hr n hn).2⟩
theorem Quv {l:List Nod} {n x:Nod} (h:x∈putN l n):x=n∨x∈l:=by
 unfold putN at h;rcases List.mem_append.1 h with h | h
 ·exact .inr (List.mem_of_mem_take h)
 ·rcases List.mem_cons.1 h with h | h
  ·exact .inl h
  ·exact .inr (List.mem_of_mem_drop h)
theorem Qoo {f:Fsy} {n:Nod} (okf:OkF f) (okn:OkN n) (hn:n.ino<9223372036854775807) (hl:f.l.length≤100000):OkF (putF f n):=by
 refine ⟨?_,?_,fun x hx=>?_⟩
 ·show I64 (if n.ino+1>f.next then n.ino+1 else f.next)
  split
  ·exact ⟨by have:=okn.1.1;omega,by omega⟩
  ·exact okf.1
 ·have:=Qmf f.l n;show (putN f.l n).length≤_;omega
 ·rcases Quv hx with rfl | hx
  ·exact okn
  ·exact okf.2.2 x hx
theorem Qhm {l:List Nod} {n:Nod} (hr:Qbq l):Qbq (putN l n):=by
 have hc:=hr.cut n.ino;have e:putN l n=l.take (plN l n.ino)++n :: (l.drop (plN l n.ino)).filter (fun x=>x.ino != n.ino):=by unfold putN;rw [Qf7 hr]
 rw [e];refine List.pairwise_append.2 ⟨List.Pairwise.sublist (List.take_sublist _ _) hr,List.pairwise_cons.2 ⟨fun x hx=>?_,List.Pairwise.filter _ (List.Pairwise.sublist (List.drop_sublist _ _) hr)⟩,fun x hx y hy=>?_⟩
 ·obtain ⟨h1,h2⟩:=List.mem_filter.1 hx;have h3:=hc.2 x h1;have h4:¬ x.ino=n.ino:=by simpa using h2
  show n.ino<x.ino;omega
 ·have h1:=hc.1 x hx;rcases List.mem_cons.1 hy with rfl | hy
  ·exact h1
  ·have h3:=hc.2 y (List.mem_filter.1 hy).1;show x.ino<y.ino;omega
theorem Zgg {f:Fsy} {n:Nod} (h:Qam f) (hn:nodP n) (hl:f.l.length<256):Qam (putF f n):=by
 obtain ⟨h1,h2,h3,h4⟩:=Qbg.1 h;have hnx:f.next≤(putF f n).next∧n.ino+1≤(putF f n).next:=by
  show f.next≤(if n.ino+1>f.next then n.ino+1 else f.next)∧n.ino+1≤(if n.ino+1>f.next then n.ino+1 else f.next)
  split<;>omega
 refine Qbg.2 ⟨by have:=Qmf f.l n;show (putN f.l n).length≤256;omega,by omega,fun x hx=>?_,Qhm h4⟩;rcases Quv hx with rfl | hx
 ·exact ⟨hn,by omega⟩
 ·have:=h3 x hx;exact ⟨this.1,by omega⟩
theorem Qna {l:List Nod} {i:Int} {x:Nod} (hr:Qbq l) (hx:x∈l) (hi:x.ino=i):l.find? (isNo i)=some x:=by
 cases h:l.find? (isNo i) with
 | none=>exact absurd (List.find?_eq_none.1 h x hx) (by simp [isNo,hi])
 | some y=>
  have hy:=List.mem_of_find?_eq_some h;have hp:(y.ino==i)=true:=List.find?_some (p:=isNo i) h;obtain ⟨j,hj⟩:=List.getElem?_of_mem hx;obtain ⟨k,hk⟩:=List.getElem?_of_mem hy;have h3:=List.pairwise_iff_getElem.1 hr;have l1:=Qan hj;have l2:=Qan hk;have e1:l[j]=x:=Option.some.inj ((List.getElem?_eq_getElem l1).symm.trans hj);have e2:l[k]=y:=Option.some.inj ((List.getElem?_eq_getElem l2).symm.trans hk);have hyi:y.ino=i:=by simpa using hp
  rcases Nat.lt_trichotomy j k with hlt | rfl | hlt
  ·have:=h3 j k l1 l2 hlt;rw [e1,e2] at this;omega
  ·rw [← e1,← e2]
  ·have:=h3 k j l2 l1 hlt;rw [e1,e2] at this;omega
theorem Qw6 (f:Fsy) (j:Int):Qau f j=(f.l.find? (isNo j)).isSome:=by
 unfold Qau
 induction f.l with
 | nil=>rfl
 | cons n r ih=>
  simp only [List.any_cons,List.find?_cons];cases h:isNo j n<;>simp [ih]
theorem Qqk {f:Fsy} {n:Nod} (hr:Qbq f.l):Qau (putF f n) n.ino=true∧Qaa (putF f n) n.ino=n:=by
 have h:(putN f.l n).find? (isNo n.ino)=some n:=Qna (Qhm hr) (by unfold putN;simp) rfl;refine ⟨?_,?_⟩
 ·rw [Qw6];show ((putN f.l n).find? (isNo n.ino)).isSome=true;rw [h];rfl
 ·show ((putN f.l n).find? (isNo n.ino)).getD nod0=n;rw [h];rfl
theorem Qn0 {f:Fsy} {n:Nod} {j:Int} (hr:Qbq f.l) (hj:¬ j=n.ino):Qau (putF f n) j=Qau f j∧Qaa (putF f n) j=Qaa f j:=by
 have key:(putN f.l n).find? (isNo j)=f.l.find? (isNo j):=by
  have e:putN f.l n=f.l.take (plN f.l n.ino)++n :: (f.l.drop (plN f.l n.ino)).filter (fun x=>x.ino != n.ino):=by unfold putN;rw [Qf7 hr]
  have hn:isNo j n=false:=by simp [isNo];omega
  have e2:((f.l.drop (plN f.l n.ino)).filter (fun x=>x.ino != n.ino)).find? (isNo j)=(f.l.drop (plN f.l n.ino)).find? (isNo j):=by
   rw [List.find?_filter];congr 1;funext x;by_cases hx:x.ino=j
   ·have:¬ x.ino=n.ino:=by omega
    simp [isNo,hx,hj]
   ·simp [isNo,hx]
  rw [e,List.find?_append,List.find?_cons,hn,e2]
  conv=>rhs;rw [← List.take_append_drop (plN f.l n.ino) f.l,List.find?_append]
 exact ⟨by rw [Qw6,Qw6];show ((putN f.l n).find? (isNo j)).isSome=_;rw [key],by show ((putN f.l n).find? (isNo j)).getD nod0=_;rw [key];rfl⟩
end Go.Proofs.YtahlldgocpabjaaGreat
