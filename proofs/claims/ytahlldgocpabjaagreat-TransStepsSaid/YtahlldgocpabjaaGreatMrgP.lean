import Derived.Test.YtahlldgocpabjaaGreatMrgN
import Derived.Laws.IdiomRangeMap
import Derived.Test.YtahlldgocpabjaaGreatMrgO
import Derived.Test.YtahlldgocpabjaaGreatMrgM
import Derived.Test.YtahlldgocpabjaaGreatMrgB
set_option maxRecDepth 100000
set_option maxHeartbeats 8000000
set_option linter.unusedVariables false
set_option linter.unusedSimpArgs false
namespace Go.Proofs.YtahlldgocpabjaaGreat
open Go Go.RowKit Copyhold Go.Proofs.Tryz
def nav:List Nat→Code→Code
 | 0 :: r,.seq x _=>nav r x
 | 1 :: r,.seq _ y=>nav r y
 | 2 :: r,.block _ x=>nav r x
 | 2 :: r,.loop x=>nav r x
 | 2 :: r,.scope x=>nav r x
 | 3 :: r,.cond _ x _=>nav r x
 | 4 :: r,.cond _ _ y=>nav r y
 | _,c=>c
def rngR (m it:Nat) (s:LS):Option (List (MK × AV)):=
 match lget s.tm m,bget s.bx it with
 | .mp es,none=>some es
 | _,_=>none
theorem Zar {P:Program} {nt m x it id7 ty:Nat} {o0 o1:Oper} {code rest:Code} {kt et:TypeId} {es:List (MK × AV)} (hc:code=.seq (.region id7 #[o0,o1] false) rest)
  (h0:o0.op=.move (.tmp m)∧o0.dst=some x∧o0.guard=none) (h1:o1.op=.range ty (.tmp x)∧o1.dst=some it∧o1.guard=none) (hu:P.underlying ty=some (.map kt et)) (hn:m<nt∧x<nt∧it<nt) :
  ∀ (c:Cx) (Q:Exit→FS→Prop) (s:LS),c.n=nt→P.follows .mixedOrders=true→rngR m it s=some es→(∀ b:Nat,AWp c P rest Q (((s.put (some x) .any).put (some it) (.ptr it b 0)).setB it (.iter b es [])).fs)→AWp c P code Q s.fs:=by
 subst hc;intro c Q s hcn hm hrd kk a w hr;obtain ⟨hcb,D,hR⟩:=hr;obtain ⟨n1,n2,n3⟩:=hn;unfold rngR at hrd
 split at hrd
 ·rename_i es0 hmp hbx;obtain rfl:=Option.some.inj hrd;have hv:=hR.ev (.tmp m) (fun t' e=>by cases e;rw [hcn];exact n1);have hev:s.fs.ev (.tmp m)=.mp es0:=hmp;rw [hev] at hv;have hsz:a.tmps.size=nt:=hR.size.trans hcn;generalize hva:a.eval (.tmp m)=v at hv;cases hv with
  | mp es r es' clock hDr hlt hhp hlen hkeys hvals=>
   refine wp_seq (wp_region ?_);show wpOps P #[o0,o1] _ [0,1] a w;refine Qeo (o:=o0) rfl h0.2.2 (v:=.map (some r)) (w':=w) (by simp [execOp,h0.1,hva]) ?_;rw [h0.2.1];have he1:=Qlr (a:=a) (d:=x) (v:=.map (some r)) (by omega);have hs1:=Qv2 a (some x) (.map (some r));refine Qeo (o:=o1) rfl h1.2.2 (v:=.pointer (some ⟨w.heap.size,0,none⟩)) (w':=w.alloc (.mapIter (some r) clock #[] clock)) (by
    simp [execOp,h1.1,he1,Instr.range,run_underlying hu,getObj,Sem.run,hhp,newObj]) ?_
   rw [h1.2.1];generalize ha1:a.put (some x) (.map (some r))=a1 at he1 hs1;have hD1:RelD c D (s.put (some x) .any).fs a1 w:=by
    rw [← LS.fs_put,← ha1];exact hR.put _ (.any _)
   obtain ⟨w2,hw2⟩:∃ w2,w2=w.alloc (.mapIter (some r) clock #[] clock):=⟨_,rfl⟩
   have hb2:Below w.heap.size w w2:=hw2 ▸ (Below.refl _ _).alloc (Nat.le_refl _) _;have hit:w2.heap[w.heap.size]?=some (.mapIter (some r) clock #[] clock):=hw2 ▸ heap_alloc_new w _;have hmap:w2.heap[r]?=some (.map es' clock):=(hb2.block r hlt).trans hhp;rw [← hw2];have hbx':(s.put (some x) .any).fs.bx it=none:=hbx;have h:=hD1.grow (D':=D) hcb hb2 (fun _ h=>h) (fun b h=>⟨Nat.lt_of_lt_of_le (hR.dlt b h) hb2.size,.inl h⟩) (some (it,.iter w.heap.size es0 [])) (fun id y h=>by
    simp only [Option.some.injEq,Prod.mk.injEq] at h;obtain ⟨rfl,rfl⟩:=h;refine ⟨hbx',fun g hg=>?_,r,es',clock,#[],hit,hDr,Nat.lt_of_lt_of_le hlt hb2.size,hmap,hlen,hkeys,fun j p e hp he=>(hvals j p e hp he).frame (fun _ h=>h) hb2.size (fun b _ hl=>hb2.block b hl),fun j e he=>by simp,fun j hj=>by simp at hj⟩;obtain rfl:=Option.some.inj hg;exact ⟨Nat.le_refl _,fun hd=>Nat.lt_irrefl _ (hR.dlt _ hd)⟩)
   have h2:=h.put (some it) (x:=.ptr it w.heap.size 0) (v:=.pointer (some ⟨w.heap.size,0,none⟩)) (.ptr _ _ _);refine kk w.heap.size _ _ ⟨Nat.le_trans hcb hb2.size,D,?_⟩;rw [← LS.fs_setB,← LS.fs_put];exact h2
 ·cases hrd
def nxtP (es:List (MK × AV)) (seen:List Nat):Option Nat→Prop
 | none=>∀ j,j<es.length→j∈seen
 | some j=>j<es.length∧j ∉ seen
def nxtS (seen:List Nat):Option Nat→List Nat
 | none=>seen
 | some j=>j :: seen
def nxtR (it:Nat) (s:LS):Option (Nat × Nat × List (MK × AV) × List Nat):=
 match lget s.tm it with
 | .ptr id b' 0=>
  (match bget s.bx id with
  | some (.iter b es seen)=>some (b',b,es,seen)
  | _=>none)
 | _=>none
theorem Zg1 {P:Program} {w:World} {b r clock ty:Nat} {es:Array MapEntry} {sn:Array Nat} (hb:w.heap[b]?=some (.mapIter (some r) clock sn clock)) (hr:w.heap[r]?=some (.map es clock)) (hB:Born es clock) :
  ((∀ e∈es.toList,sn.contains e.born=true)∧(Instr.next (.pointer (some ⟨b,0,none⟩)) false ty).run P w=.ok (.tuple #[.bool false]) w) ∨
  ∃ e∈es.toList,sn.contains e.born=false∧∃ w1,(w1=w∨w1={ w with drawn:=w.drawn+1 })∧(Instr.next (.pointer (some ⟨b,0,none⟩)) false ty).run P w=.ok (.tuple #[.bool true,e.key,e.val]) { w1 with heap:=w1.heap.setIfInBounds b (.mapIter (some r) clock (sn.push e.born) clock) }:=by
 simp only [Instr.next,getObj,Sem.run_bind,Sem.run,hb,hr,Result.andThen,next_test_false sn es clock clock hB.1 (Nat.le_refl _),Bool.false_eq_true,if_false];have hmem:∀ x∈(Array.filter (fun e=>!sn.contains e.born) es).toList,x.born<clock∧x∈es.toList∧sn.contains x.born=false:=fun x hx=>by
  simp at hx;exact ⟨hB.1 x (by simpa using hx.1),by simpa using hx.1,by simpa using hx.2⟩
 have hall:(Array.filter (fun e=>!sn.contains e.born) es).size=0→∀ e∈es.toList,sn.contains e.born=true:=fun h0 e he=>by
  cases hc:sn.contains e.born with
  | true=>rfl
  | false=>
   have:e∈Array.filter (fun e=>!sn.contains e.born) es:=Array.mem_filter.2 ⟨by simpa using he,by rw [hc];rfl⟩;rw [Array.eq_empty_of_size_eq_zero h0] at this;simp at this
 generalize Array.filter (fun e=>!sn.contains e.born) es=L at hmem hall ⊢;have e1:L.filter (fun x=>decide (x.born<clock))=L:=Array.filter_eq_self.2 (fun x hx=>by simpa using (hmem x (by simpa using hx)).1);have e2:L.filter (fun x=>decide (x.born≥clock))=#[]:=by
  rw [Array.filter_eq_empty_iff];intro x hx;have:=(hmem x (by simpa using hx)).1;simp;omega
 simp only [e1,e2,Array.append_empty];by_cases h0:L.size=0
 ·left;refine ⟨hall h0,?_⟩;have:L=#[]:=Array.eq_empty_of_size_eq_zero h0;subst this;simp [choose,Sem.run,Question.forced]
 ·right;have hne:L.isEmpty=false:=by simp [Array.isEmpty,h0]
  simp only [hne,Bool.false_eq_true,if_false,Array.empty_append,Array.size_map];have hch:∃ (j:Nat) (w1:World),j<L.size∧(w1=w∨w1={ w with drawn:=w.drawn+1 })∧(choose (Question.mapNext L.size)).run P w=.ok j w1:=by
   by_cases hf:L.size≤1
   ·exact ⟨0,w,by omega,.inl rfl,by simp [choose,Sem.run,Question.forced,hf]⟩
   ·exact ⟨_,{ w with drawn:=w.drawn+1 },Nat.mod_lt _ (by omega),.inr rfl,by
     simp only [choose,Sem.run,Question.forced,decide_eq_true_eq,hf,if_false,Question.cut];rfl⟩
  obtain ⟨j,w1,hj,hal,hrun⟩:=hch;have hw1:w1.heap[b]?=some (.mapIter (some r) clock sn clock):=by rcases hal with rfl | rfl<;>exact hb
  refine ⟨L[j],(hmem _ (by simp)).2.1,(hmem _ (by simp)).2.2,w1,hal,?_⟩;simp only [hrun,Array.getElem?_map,Array.getElem?_eq_getElem hj,Option.map_some,Sem.run_bind,setObj,Sem.run,hw1,Result.andThen];rfl
theorem Zas {P:Program} {nt it nx t id8 b:Nat} {o2 o3:Oper} {code rest:Code} {es:List (MK × AV)} {seen:List Nat} (id:Nat) (hc:code=.seq (.region id8 #[o2,o3] false) rest)
  (h2:o2.op=.next (.tmp it) false∧o2.dst=some nx∧o2.guard=none) (h3:o3.op=.extract (.tmp nx) 0∧o3.dst=some t∧o3.guard=none) (hn:it<nt∧nx<nt∧t<nt) :
  ∀ (c:Cx) (Q:Exit→FS→Prop) (s:LS),c.n=nt→P.follows .mixedOrders=true→((nxtR it s).map fun x=>(x,lget s.tm it))=some ((b,b,es,seen),.ptr id b 0) →
   (∀ a:{ a:Option Nat // nxtP es seen a },AWp c P rest Q (((s.put (some nx) .any).put (some t) (aB a.1.isSome)).setB id (.iter b es (nxtS seen a.1))).fs)→AWp c P code Q s.fs:=by
 subst hc;intro c Q s hcn hm hrd kk a w hr;obtain ⟨hcb,D,hR⟩:=hr;obtain ⟨n1,n2,n3⟩:=hn;cases hq:nxtR it s with
 | none=>rw [hq] at hrd;cases hrd
 | some y=>
 rw [hq] at hrd;simp only [Option.map_some,Option.some.injEq,Prod.mk.injEq] at hrd;obtain ⟨rfl,ht⟩:=hrd;unfold nxtR at hq;rw [ht] at hq;simp only at hq
 split at hq
 ·rename_i b1 es1 seen1 hbx;simp only [Option.some.injEq,Prod.mk.injEq] at hq;obtain ⟨_,rfl,rfl,rfl⟩:=hq;obtain ⟨hown,r,es',clock,sn,g1,g2,g3,g4,g5,g6,g7,g8,g9⟩:=hR.bx id _ hbx;have hv:=hR.ev (.tmp it) (fun t' e=>by cases e;rw [hcn];exact n1);have hev:s.fs.ev (.tmp it)=.ptr id b1 0:=ht;rw [hev] at hv;have hsz:a.tmps.size=nt:=hR.size.trans hcn;generalize hva:a.eval (.tmp it)=v at hv;cases hv;have hbD:¬ D b1:=(hown b1 rfl).2;have hblt:b1<w.heap.size:=(Array.getElem?_eq_some_iff.1 g1).1;have fin:∀ (x:{ a:Option Nat // nxtP es1 seen1 a }) (tv:Value) (w':World) (sn':Array Nat),(execOp a.eval o2).run P w=.ok (.value tv) w'→(∀ w'':World,(execOp (a.put (some nx) tv).eval o3).run P w''=.ok (.value (.bool x.1.isSome)) w'') →
    Below 0 w w'→(∀ k,k ≠ b1→w'.heap[k]?=w.heap[k]?)→w'.heap[b1]?=some (.mapIter (some r) clock sn' clock) →
    (∀ (j:Nat) (e:MapEntry),es'[j]?=some e→(sn'.contains e.born=true↔j∈nxtS seen1 x.1))→(∀ j,(nxtS seen1 x.1).head?=some j→∃ e,es'[j]?=some e∧sn'.back?=some e.born) →
    (Code.seq (.region id8 #[o2,o3] false) rest).wp P (fun e a' w'=>∃ s',Q e s'∧Rel c s' a' w') a w:=by
   intro x tv w' sn' hrun2 hrun3 h0 hk hb' hs1 hs2;refine wp_seq (wp_region ?_);show wpOps P #[o2,o3] _ [0,1] a w;refine Qeo (o:=o2) rfl h2.2.2 hrun2 ?_;rw [h2.2.1];refine Qeo (o:=o3) rfl h3.2.2 (hrun3 w') ?_;rw [h3.2.1];have hfr:∀ {x:AV} {v:Value},Ra D w x v→Ra D w' x v:=fun h=>h.frame (fun _ h=>h) h0.size (fun q hd _=>hk q (fun e=>hbD (e ▸ hd)));have hR2:=hR.mut hcb id (.iter b1 es1 seen1) (.iter b1 es1 (nxtS seen1 x.1)) hbx h0 (fun k hk' _=>hk k (fun e=>hk' (by rw [e];rfl))) (fun g hg=>⟨.inl hg,by obtain rfl:=Option.some.inj hg;exact hbD⟩)
    ⟨r,es',clock,sn',hb',g2,Nat.lt_of_lt_of_le g3 h0.size,(hk r (fun e=>hbD (e ▸ g2))).trans g4,g5,g6,fun j p e hp he=>hfr (g7 j p e hp he),hs1,hs2⟩
   refine kk x _ _ ⟨Nat.le_trans hcb h0.size,D,?_⟩;rw [← LS.fs_setB,← LS.fs_put,← LS.fs_put];exact (hR2.put (some nx) (.any _)).put (some t) (.val _)
  have hex:∀ (tv:Value) (bv:Bool) (vs:Array Value),tv=.tuple vs→vs[0]?=some (.bool bv)→∀ (w'':World),(execOp (a.put (some nx) tv).eval o3).run P w''=.ok (.value (.bool bv)) w'':=fun tv bv vs h1 h2 w''=>by
   subst h1;have he:=Qlr (a:=a) (d:=nx) (v:=.tuple vs) (by omega);simp [execOp,h3.1,he,Instr.extract,h2]
  rcases Zg1 (P:=P) (ty:=o2.type) g1 g4 g5.2 with ⟨hall,hrun⟩ | ⟨e,hem,hns,w1,hw1,hrun⟩
  ·refine fin ⟨none,fun j hj=>?_⟩ (.tuple #[.bool false]) w sn ?_ (hex _ false _ rfl rfl) (Below.refl 0 w) (fun _ _=>rfl) g1 g8 g9
   ·have hj':j<es'.size:=by rw [← g5.1];exact hj
    exact (g8 j es'[j] (Array.getElem?_eq_getElem hj')).1 (hall _ (by simp))
   ·simp [execOp,h2.1,hva,hrun]
  ·obtain ⟨j,hj⟩:=List.getElem?_of_mem hem;have hj':es'[j]?=some e:=by simpa using hj
   have hjl:j<es1.length:=by rw [g5.1];exact (Array.getElem?_eq_some_iff.1 hj').1
   have hjs:j ∉ seen1:=fun h=>by rw [(g8 j e hj').2 h] at hns;cases hns
   have hheap:w1.heap=w.heap:=by rcases hw1 with rfl | rfl<;>rfl
   refine fin ⟨some j,hjl,hjs⟩ (.tuple #[.bool true,e.key,e.val]) { w1 with heap:=w1.heap.setIfInBounds b1 (.mapIter (some r) clock (sn.push e.born) clock) } (sn.push e.born) ?_ (hex _ true _ rfl rfl) ?_ (fun k hk=>?_) ?_ ?_ ?_
   ·simp [execOp,h2.1,hva,hrun]
   ·rcases hw1 with rfl | rfl<;>exact ⟨rfl,rfl,rfl,by simp,fun q hq=>absurd hq (Nat.not_lt_zero q)⟩
   ·show (w1.heap.setIfInBounds b1 _)[k]?=_;rw [hheap];exact Array.getElem?_setIfInBounds_ne (Ne.symm hk)
   ·show (w1.heap.setIfInBounds b1 _)[b1]?=_;rw [hheap];simp [hblt]
   ·intro k e' he';rw [contains_push];show _↔k∈j :: seen1;rw [List.mem_cons,Bool.or_eq_true,g8 k e' he'];constructor
    ·rintro (h | h)
     ·exact .inr h
     ·left;have hb:e'.born=e.born:=by simpa using h
      have hk1:=(Array.getElem?_eq_some_iff.1 he').1;have hj1:=(Array.getElem?_eq_some_iff.1 hj').1;have hnd:=g5.2.2;rw [List.nodup_iff_pairwise_ne] at hnd;have hp:=List.pairwise_iff_getElem.1 hnd;have ek:(es'.toList.map (·.born))[k]'(by simpa using hk1)=e'.born:=by simp [(Array.getElem?_eq_some_iff.1 he').2]
      have ej:(es'.toList.map (·.born))[j]'(by simpa using hj1)=e.born:=by simp [(Array.getElem?_eq_some_iff.1 hj').2]
      rcases Nat.lt_trichotomy k j with hlt | heq | hlt
      ·exact absurd (ek.trans (hb.trans ej.symm)) (hp k j (by simpa using hk1) (by simpa using hj1) hlt)
      ·exact heq
      ·exact absurd (ej.trans (hb.symm.trans ek.symm)) (hp j k (by simpa using hj1) (by simpa using hk1) hlt)
    ·rintro (h | h)
     ·right;subst h;rw [hj'] at he';obtain rfl:=Option.some.inj he';simp
     ·exact .inl h
   ·intro k hk;obtain rfl:j=k:=by simpa [nxtS] using hk
    exact ⟨e,hj',by simp⟩
 ·cases hq
theorem Qx8 {P:Program} {nt it en kx kd id9 b:Nat} {o4 o5 o6:Oper} {code rest:Code} {es:List (MK × AV)} {j:Nat} {seen:List Nat} (id:Nat) {p:MK × AV} (hp:es[j]?=some p) (hc:code=.seq (.region id9 #[o4,o5,o6] false) rest)
  (h4:o4.op=.entry (.tmp it)∧o4.dst=some en∧o4.guard=none) (h5:o5.op=.extract (.tmp en) 0∧o5.dst=some kx∧o5.guard=none) (h6:o6.op=.assign (.tmp kx)∧o6.dst=some kd∧o6.guard=none) (hn:it<nt∧en<nt∧kx<nt∧kd<nt) :
  ∀ (c:Cx) (Q:Exit→FS→Prop) (s:LS),c.n=nt→P.follows .mixedOrders=true→((nxtR it s).map fun x=>(x,lget s.tm it))=some ((b,b,es,j :: seen),.ptr id b 0) →
   (∀ _:Unit,AWp c P rest Q (((s.put (some en) .any).put (some kx) (.val p.1.val)).put (some kd) (.val p.1.val)).fs)→AWp c P code Q s.fs:=by
 subst hc;intro c Q s hcn hm hrd kk a w hr;obtain ⟨hcb,D,hR⟩:=hr;obtain ⟨n1,n2,n3,n4⟩:=hn;cases hq:nxtR it s with
 | none=>rw [hq] at hrd;cases hrd
 | some y=>
 rw [hq] at hrd;simp only [Option.map_some,Option.some.injEq,Prod.mk.injEq] at hrd;obtain ⟨rfl,ht⟩:=hrd;unfold nxtR at hq;rw [ht] at hq;simp only at hq
 split at hq
 ·rename_i b1 es1 seen1 hbx;simp only [Option.some.injEq,Prod.mk.injEq] at hq;obtain ⟨_,rfl,rfl,hse⟩:=hq;subst hse;obtain ⟨hown,r,es',clock,sn,g1,g2,g3,g4,g5,g6,g7,g8,g9⟩:=hR.bx id _ hbx;obtain ⟨e,he,hback⟩:=g9 j rfl;have hkey:=g6 j p e hp he;have hv:=hR.ev (.tmp it) (fun t' e=>by cases e;rw [hcn];exact n1);have hev:s.fs.ev (.tmp it)=.ptr id b1 0:=ht;rw [hev] at hv;have hsz:a.tmps.size=nt:=hR.size.trans hcn;generalize hva:a.eval (.tmp it)=v at hv;cases hv;have hfind:es'.find? (·.born==e.born)=some e:=by
   rw [← Array.find?_toList];exact find_born e es'.toList g5.2.2 (by have:=List.mem_of_getElem? (show es'.toList[j]?=some e by simpa using he);exact this)
  have hrun:(Instr.entry (.pointer (some ⟨b1,0,none⟩))).run P w=.ok (.tuple #[e.key,e.val]) w:=by
   simp only [Instr.entry,getObj,Sem.run_bind,Sem.run,g1,g4,Result.andThen,hback,bne_self_eq_false,Bool.false_eq_true,if_false,hfind];rfl
  refine wp_seq (wp_region ?_);show wpOps P #[o4,o5,o6] _ [0,1,2] a w;refine Qeo (o:=o4) rfl h4.2.2 (v:=.tuple #[e.key,e.val]) (w':=w) (by simp [execOp,h4.1,hva,hrun]) ?_;rw [h4.2.1];have he1:=Qlr (a:=a) (d:=en) (v:=.tuple #[e.key,e.val]) (by omega);have hs1:=Qv2 a (some en) (.tuple #[e.key,e.val]);refine Qeo (o:=o5) rfl h5.2.2 (v:=e.key) (w':=w) (by simp [execOp,h5.1,he1,Instr.extract]) ?_;rw [h5.2.1];have he2:=Qlr (a:=a.put (some en) (.tuple #[e.key,e.val])) (d:=kx) (v:=e.key) (by omega);refine Qeo (o:=o6) rfl h6.2.2 (v:=e.key) (w':=w) (by simp [execOp,h6.1,he2]) ?_;rw [h6.2.1];refine kk () _ _ ⟨hcb,D,?_⟩;rw [← LS.fs_put,← LS.fs_put,← LS.fs_put];have hkv:Ra D w (.val p.1.val) e.key:=by rw [hkey];exact .val _
  exact ((hR.put (some en) (.any _)).put (some kx) hkv).put (some kd) hkv
 ·cases hq
def itR (id:Nat) (s:LS):Option (Nat × List (MK × AV) × List Nat):=
 match bget s.bx id with
 | some (.iter b es sn)=>some (b,es,sn)
 | _=>none
theorem Zkx {P:Program} {id b:Nat} {es:List (MK × AV)} {sn sn':List Nat} (he:sn=sn'):∀ (c:Cx) (Q:Exit→FS→Prop) (code:Code) (s:LS),itR id s=some (b,es,sn)→(∀ a:Unit,AWp c P code Q (s.setB id (.iter b es sn')).fs)→AWp c P code Q s.fs:=by
 subst he;intro c Q code s h kk;unfold itR at h
 split at h
 ·rename_i b' es' sn' hb;simp only [Option.some.injEq,Prod.mk.injEq] at h;obtain ⟨rfl,rfl,rfl⟩:=h;have:=kk ();rw [← LS.fs_setB] at this;have e:s.fs.setB id (some (.iter b' es' sn'))=s.fs:=by
   show FS.mk _ _=FS.mk _ _;congr 1;funext i;show (if i=id then some (Bx.iter b' es' sn') else s.fs.bx i)=s.fs.bx i
   split
   ·rename_i hi;subst hi;exact hb.symm
   ·rfl
  rw [e] at this;exact this
 ·cases h
def Qur (f:Fsy) (_:Nat) (n:Nod):Prop:=1≤n.links∧n.links=(cntG (Qbs f) n.ino:Int)∧(n.kind=2→n.links=1∧hasB (Qcj f 1) n.ino=true)
def keyT (f:Fsy) (z:Int):Prop:=Qau f z=true∧¬ z=1
def Qgp (f:Fsy):Prop:=Qam f∧(∃ n,f.l[0]?=some n∧n.ino=1∧n.kind=2∧n.links=0)∧(∀ p∈Qbs f,keyT f p.1)∧AllQ (Qur f) (f.l.drop 1)
theorem Qr0:∀ {U A:List Nat},U.Nodup→(∀ z∈U,z∈A)→U.length≤A.length
 | [],A,_,_=>Nat.zero_le _
 | x :: r,A,hn,hs=>by
  obtain ⟨h1,h2⟩:=List.nodup_cons.1 hn;have hx:x∈A:=hs x (by simp);have:=Qr0 (U:=r) (A:=A.erase x) h2 fun z hz=>(List.mem_erase_of_ne (a:=z) (b:=x) (fun e=>h1 (by rw [← e];exact hz))).2 (hs z (by simp [hz]));rw [List.length_erase_of_mem hx] at this;have:=List.length_pos_of_mem hx;simp only [List.length_cons];omega
theorem Zca {L:List Nat} {n:Nat} (h:L.Nodup) (hl:∀ j∈L,j<n):L.length≤n:=by
 have:=Qr0 (A:=List.range n) h fun j hj=>List.mem_range.2 (hl j hj)
 rwa [List.length_range] at this
def Qj1 (f:Fsy) (sn:List Nat):Prop:=sn.Nodup∧(∀ j∈sn,j<(Qbs f).length)∧∀ j∈sn,∀ p,(Qbs f)[j]?=some p→keyT f p.1
theorem Qj1.nil (f:Fsy):Qj1 f []:=⟨List.nodup_nil,fun j h=>(by cases h),fun j h=>(by cases h)⟩
theorem Qj1.more {f:Fsy} {sn:List Nat} {j:Nat} {y:Int × Nat} (h:Qj1 f sn) (hl:j<(Qbs f).length) (hn:j ∉ sn) (hy:(Qbs f)[j]?=some y) (hk:keyT f y.1):Qj1 f (j :: sn):=by
 refine ⟨List.nodup_cons.2 ⟨hn,h.1⟩,fun k hk'=>?_,fun k hk' p hp=>?_⟩
 ·rcases List.mem_cons.1 hk' with rfl | hk'
  ·exact hl
  ·exact h.2.1 k hk'
 ·rcases List.mem_cons.1 hk' with rfl | hk'
  ·rw [hy] at hp;obtain rfl:=Option.some.inj hp;exact hk
  ·exact h.2.2 k hk' p hp
theorem Qj1.less {f:Fsy} {sn:List Nat} {j:Nat} (h:Qj1 f sn) (hl:j<(Qbs f).length) (hn:j ∉ sn):sn.length<(Qbs f).length:=by
 have:=Zca (List.nodup_cons.2 ⟨hn,h.1⟩) (n:=(Qbs f).length) fun k hk=>by
  rcases List.mem_cons.1 hk with rfl | hk
  ·exact hl
  ·exact h.2.1 k hk
 simp only [List.length_cons] at this;omega
theorem Qj1.all {f:Fsy} {sn:List Nat} (h:Qj1 f sn) (ha:∀ j,j<(cntM (Qbs f)).length→j∈sn):∀ p∈Qbs f,keyT f p.1:=fun p hp=>by
 obtain ⟨j,hj⟩:=List.getElem?_of_mem hp;exact h.2.2 j (ha j (by have:=Qan hj;simpa [cntM] using this)) p hj
theorem Zgy {es:List (MK × AV)} {sn:List Nat} (a:{ a:Option Nat // nxtP es sn a }) (h:a.1.isSome=false):∀ j,j<es.length→j∈sn:=by
 obtain ⟨x,hx⟩:=a;cases x with
 | none=>exact hx
 | some j=>cases h
theorem Qk0 (f:Fsy) (okf:OkF f):Qaf prog 44 [.agg (fsyA f)] (aB (dP (Qgp f))):=by
 exact Qac func44 (let R:AV:=aB (dP (Qgp f));
 .into<|.new fun b1=>.r 1<|.into<|.into<|.u 1 [b1]<|
 .call (Zaw f okf)<|
 .r 2<|.br 16 (!(dP (Qam f))) (fun q1=>have q1:=notT q1;have p1:=booF q1;.r 5<|.into<|.r 1<|.f R [] (aB false) (by
  refine sF (fun h=>?_);obtain ⟨g,⟨n,hn,a,b,c⟩,_⟩:=h
  first | exact Qab.1 (by assumption) g | (have:=Qan hn;omega)))
 <| fun q1=>have q1:=notF q1;have p1:=booT q1;have hp:=Qas.1 q1;have hfl:=hp.1;.u 3 [b1]<|
 .lm 19 f.l nodA<|.r 2<|.br 21 ((f.l.length:Int)==0) (fun q2=>have p2:=beqT q2;.into<|.r 1<|.f R [] (aB false) (by
  refine sF (fun h=>?_);obtain ⟨g,⟨n,hn,a,b,c⟩,_⟩:=h
  first | exact Qab.1 (by assumption) g | (have:=Qan hn;omega)))
 <| fun q2=>have p2:=beqF q2;.into<|.u 2 [b1]<|
 .idxM f.l nodA 0 (m:=0) rfl (by omega) fun x1 hx1=>
 .r 1<|.new fun b2=>.u 1 [b2]<|
 .into<|.into<|.u 4 [b2]<|
 .br 29 (x1.ino != 1) (fun q3=>have p3:=bneT q3;.r 9<|.into<|.r 1<|.f R [] (aB false) (by
  refine sF (fun h=>?_);obtain ⟨g,⟨n,hn,a,b,c⟩,_⟩:=h
  first | exact Qab.1 (by assumption) g | (have:=Qan hn;omega)| (rw [hx1] at hn;obtain rfl:=Option.some.inj hn;omega)))
 <| fun q3=>have p3:=bneF q3;.u 5 [b2]<|
 .br 34 (x1.kind != 2) (fun q4=>have p4:=bneT q4;.r 4<|.into<|.r 1<|.f R [] (aB false) (by
  refine sF (fun h=>?_);obtain ⟨g,⟨n,hn,a,b,c⟩,_⟩:=h
  first | exact Qab.1 (by assumption) g | (have:=Qan hn;omega)| (rw [hx1] at hn;obtain rfl:=Option.some.inj hn;omega)))
 <| fun q4=>have p4:=bneF q4;.u 4 [b2]<|
 .br 38 (x1.links != 0) (fun q5=>have p5:=bneT q5;.into<|.r 1<|.f R [] (aB false) (by
  refine sF (fun h=>?_);obtain ⟨g,⟨n,hn,a,b,c⟩,_⟩:=h
  first | exact Qab.1 (by assumption) g | (have:=Qan hn;omega)| (rw [hx1] at hn;obtain rfl:=Option.some.inj hn;omega)))
 <| fun q5=>have p5:=bneF q5;.into<|.u 1 [b1]<|
 .call (Qzj f hp)<|
 .r 1<|.into<|.via 101 (nav [1,1,1,1,1,0] (f44.body.getD .skip)) (nav [1,1,1,1,1,0,1] (f44.body.getD .skip)) (rngR 4 42) (cntM (Qbs f)) (fun (b:Nat) σ=>((σ.put (some 41) .any).put (some 42) (.ptr 42 b 0)).setB 42 (.iter b (cntM (Qbs f)) [])) (Zar (kt:=3) (et:=3) rfl ⟨rfl,rfl,rfl⟩ ⟨rfl,rfl,rfl⟩ (by kernel_rfl) (by decide)) fun b3=>
 .into<|let L1:Lp (List Nat):=⟨fun a1=>⟨[(1,.ptr 1 b1 0),(4,.mp (cntM (Qbs f))),(42,.ptr 42 b3 0)],[(1,.box b1 28 (fsyA f)),(42,.iter b3 (cntM (Qbs f)) a1)]⟩,fun a1=>(Qbs f).length-a1.length,fun a1=>Qj1 f a1⟩
 .lp L1 ([]) (show Qj1 f ([]) from (Qj1.nil f)) [] [] sr3 bb2 fun a1 ha1=>
 (fun (sn:List Nat) (hH1:Qj1 f sn)=>.via 101 (nav [1,1,1,1,1,0,1,2,2] (f44.body.getD .skip)) (nav [1,1,1,1,1,0,1,2,2,1] (f44.body.getD .skip)) (fun s=>(nxtR 42 s).map fun x=>(x,lget s.tm 42)) ((b3,b3,cntM (Qbs f),sn),.ptr 42 b3 0) (fun (a:{ a:Option Nat // nxtP (cntM (Qbs f)) sn a }) σ=>((σ.put (some 43) .any).put (some 44) (aB a.1.isSome)).setB 42 (.iter b3 (cntM (Qbs f)) (nxtS sn a.1))) (Zas 42 rfl ⟨rfl,rfl,rfl⟩ ⟨rfl,rfl,rfl⟩ (by decide)) fun a2n=>
 .into<|.br 44 (a2n.1.isSome) (fun q6=>have p6:=booT q6;.into<|.ex (Option.isSome_iff_exists.1 q6) fun j3n hj3n=>have hpj3n:nxtP (cntM (Qbs f)) sn (some j3n):=(hj3n ▸ a2n.2);have hlj3n:j3n<(Qbs f).length:=(by have:=hpj3n.1;simpa [cntM] using this);
 .st (itR 42) (b3,cntM (Qbs f),nxtS sn a2n.1) (fun (_:Unit) σ=>σ.setB 42 (.iter b3 (cntM (Qbs f)) (j3n :: sn))) (Zkx (by rw [hj3n];rfl)) fun _=>
 .ex (Qfe (l:=(Qbs f)) (k:=j3n) hlj3n) fun x4 hx4=>
 .via 101 (nav [1,1,1,1,1,0,1,2,2,1,1,2] (f44.body.getD .skip)) (nav [1,1,1,1,1,0,1,2,2,1,1,2,1] (f44.body.getD .skip)) (fun s=>(nxtR 42 s).map fun x=>(x,lget s.tm 42)) ((b3,b3,cntM (Qbs f),j3n :: sn),.ptr 42 b3 0) (fun (_:Unit) σ=>(((σ.put (some 45) .any).put (some 46) (aI x4.1)).put (some 5) (aI x4.1))) (Qx8 42 (p:=(.i x4.1,aI (x4.2:Int))) (by unfold cntM;rw [List.getElem?_map,hx4];rfl) rfl ⟨rfl,rfl,rfl⟩ ⟨rfl,rfl,rfl⟩ ⟨rfl,rfl,rfl⟩ (by decide)) fun _=>
 .into<|.u 2 [b1]<|
 .call (Qb4 f x4.1 (by omega) (Qad hp))<|
 .r 3<|.new fun b4=>.u 2 [b4]<|
 .into<|.r 3<|.br 55 (!(Qau f x4.1)) (fun q7=>have q7:=notT q7;have p7:=booF q7;.r 3<|.into<|.r 1<|.f R [] (aB false) (by
  refine sF (fun h=>?_);obtain ⟨g1,g2⟩:=h.2.2.1 x4 (List.mem_of_getElem? hx4)
  first | (rw [g1] at *;contradiction) | simp_all))
 <| fun q7=>have q7:=notF q7;have p7:=booT q7;.r 3<|.br 58 (x4.1==1) (fun q8=>have p8:=beqT q8;.into<|.r 1<|.f R [] (aB false) (by
  refine sF (fun h=>?_);obtain ⟨g1,g2⟩:=h.2.2.1 x4 (List.mem_of_getElem? hx4)
  first | (rw [g1] at *;contradiction) | simp_all))
 <| fun q8=>have p8:=beqF q8;.bk L1 sn (j3n :: sn) (show Qj1 f (j3n :: sn) from (hH1.more hlj3n hpj3n.2 hx4 ⟨q7,by simpa using q8⟩)) (show (Qbs f).length-(j3n :: sn).length<(Qbs f).length-sn.length from (by have:=hH1.less hlj3n hpj3n.2;simp only [List.length_cons];omega)) [] [] sr3 bb2)
 <| fun q6=>have p6:=booF q6;.into<|.u 1 [b1]<|
 .call (Qol f 1 okf (by omega) (Qad hp))<|
 .r 1<|.into<|.into<|.u 2 [b1]<|
 .slc 5 false (f.l.map nodA) (some 1) none none 1 ((f.l.map nodA).length) false (.inr rfl) (.inl ⟨rfl,rfl⟩) (.inl ⟨rfl,fun h=>by cases h⟩) (by simp<;>omega) (by simp<;>omega)<|
 .r 2<|.into<|let L2:Lp (Nat):=⟨fun a2=>⟨[(4,.mp (cntM (Qbs f))),(8,.mp (setM (Qcj f 1))),(65,aI (a2:Int)),(63,.sl 5 false ((f.l.drop 1).map nodA)),(64,aI ((f.l.drop 1).length:Int))],[]⟩,fun a2=>(f.l.drop 1).length-a2,fun a2=>Qa1 (Qur f) (f.l.drop 1) a2⟩
 .lp L2 0 (show Qa1 (Qur f) (f.l.drop 1) 0 from (Qa1.zero _ _)) [(65,aI 0),(63,.sl 5 false (((f.l.map nodA).take ((f.l.map nodA).length)).drop 1)),(64,aI ((((f.l.map nodA).take ((f.l.map nodA).length)).drop 1).length:Int))] [] ⟨sR,sR,sO,Sub.of_eq (congrArg (AV.sl 5 false) (by rw [Qav (by simp),List.map_drop])),Sub.of_eq (congrArg aI (by simp)),trivial⟩ trivial fun a2 ha2=>
 (fun (k:Nat) (hH2:Qa1 (Qur f) (f.l.drop 1) k)=>have hld:(f.l.drop 1).length=f.l.length-1:=List.length_drop;.into<|.r 1<|.into<|.br 66 (decide ((k:Int)<((f.l.drop 1).length:Int))) (fun q9=>have p9:=decT q9;.into<|.into<|.into<|.idxM (f.l.drop 1) nodA k (m:=(k:Int)) rfl (by omega) fun x5 hx5=>
 .r 1<|.new fun b5=>.u 1 [b5]<|
 .into<|.into<|.u 4 [b5]<|
 .bd 72 (x5.links<1) (fun p10=>.r 8<|.into<|.r 1<|.f R [] (aB false) (by
  refine sF (fun h=>?_);obtain ⟨g1,g2,g3⟩:=h.2.2.2.at hx5
  first | omega | (have:=g3 (by omega);first | omega | simp_all)))
 <| fun p10=>.u 5 [b5,b5]<|
 .op (lkRO prog) ((3,some (.int .i64 0)),cntM (Qbs f),.i x5.ino,false,some 78) (fun (_:Unit) σ=>σ.put (some 78) (aI (cntG (Qbs f) x5.ino:Int))) (Qkc (Qcf (.i x5.ino) (cntM (Qbs f)) 0) (Qmy (by kernel_rfl) _ (Qnj (Qbs f))) (by kernel_rfl) rfl (Qs3 (Qbs f) x5.ino)) fun _=>
 have hcg:=Qvh (Qbs f) x5.ino;.r 2<|.bn 80 x5.links (cntG (Qbs f) x5.ino:Int) (fun p11=>.into<|.r 1<|.f R [] (aB false) (by
  refine sF (fun h=>?_);obtain ⟨g1,g2,g3⟩:=h.2.2.2.at hx5
  first | omega | (have:=g3 (by omega);first | omega | simp_all)))
 <| fun p11=>.into<|.u 3 [b5]<|
 .op (lkRO prog) ((3,some (.agg #[])),setM (Qcj f 1),.i x5.ino,true,some 85) (fun (_:Unit) σ=>σ.put (some 85) (.tup [.agg [],aB (hasB (Qcj f 1) x5.ino)])) (Qkc (Qcf (.i x5.ino) (setM (Qcj f 1)) 0) (Qmy (by kernel_rfl) _ (Qiz (Qcj f 1))) (by kernel_rfl) rfl (Ql9 (Qcj f 1) x5.ino)) fun _=>
 .r 3<|.new fun b6=>.u 2 [b6]<|
 .into<|.u 4 [b5]<|
 .be 91 x5.kind 2 (fun p12=>.u 4 [b5]<|
 .bn 95 x5.links 1 (fun p13=>.r 4<|.into<|.r 1<|.f R [] (aB false) (by
  refine sF (fun h=>?_);obtain ⟨g1,g2,g3⟩:=h.2.2.2.at hx5
  first | omega | (have:=g3 (by omega);first | omega | simp_all)))
 <| fun p13=>.r 4<|.nbb 99 (hasB (Qcj f 1) x5.ino) (fun p14=>.into<|.r 1<|.f R [] (aB false) (by
  refine sF (fun h=>?_);obtain ⟨g1,g2,g3⟩:=h.2.2.2.at hx5
  first | omega | (have:=g3 (by omega);first | omega | simp_all)))
 <| fun p14=>.run 2 [rng .i64 ((k:Int)+1)] ⟨Qaj (by omega) (by omega),trivial⟩<|
 .bk L2 k (k+1) (show Qa1 (Qur f) (f.l.drop 1) (k+1) from (hH2.step hx5 ⟨by omega,by omega,fun hk=>by simp_all⟩)) (show (f.l.drop 1).length-(k+1)<(f.l.drop 1).length-k from (by omega)) [(65,aI ((k:Int)+1))] [] ⟨sR,sR,sO,sR,sR,trivial⟩ trivial)
 <| fun p12=>.r 8<|.run 2 [rng .i64 ((k:Int)+1)] ⟨Qaj (by omega) (by omega),trivial⟩<|
 .bk L2 k (k+1) (show Qa1 (Qur f) (f.l.drop 1) (k+1) from (hH2.step hx5 ⟨by omega,by omega,fun hk=>by simp_all⟩)) (show (f.l.drop 1).length-(k+1)<(f.l.drop 1).length-k from (by omega)) [(65,aI ((k:Int)+1))] [] ⟨sR,sR,sO,sR,sR,trivial⟩ trivial)
 <| fun q9=>have p9:=decF q9;.into<|.r 1<|.f R [] (aB true) (by refine sT ⟨hp,⟨x1,hx1,by omega,by omega,by omega⟩,hH1.all (Zgy a2n (by assumption)),hH2.full (by omega)⟩)) a2 ha2) a1 ha1)
theorem Qjn (U:List Int) (i:Int) (hl:U.length≤100000):Qaf prog 87 [.sl 1 false (U.map intA),aI i] (aB (hasB U i)):=by
 exact Qac func87 (
 .r 1<|.r 1<|let L1:Lp (Nat):=⟨fun a1=>⟨[(0,.sl 1 false (U.map intA)),(1,aI i),(5,aI (a1:Int))],[]⟩,fun a1=>U.length-a1,fun a1=>Qa1 (fun _ z=>(z==i)=false) U a1⟩
 .lp L1 0 (show Qa1 (fun _ z=>(z==i)=false) U 0 from Qa1.zero _ _) [(5,aI 0)] [] ⟨sR,sR,sO,trivial⟩ trivial fun a1 ha1=>
 (fun (k:Nat) (hH1:Qa1 (fun _ z=>(z==i)=false) U k)=>.r 3<|.lm 8 U intA<|.r 1<|.br 9 (decide ((k:Int)<(U.length:Int))) (fun q1=>have p1:=decT q1;.r 2<|.idxM U intA k (m:=(k:Int)) rfl (by omega) fun x1 hx1=>
 .r 3<|.br 17 (x1==i) (fun q2=>have p2:=beqT q2;.r 1<|.f (aB (hasB U i)) [] (aB true) (by exact Sub.of_eq (congrArg aB (Zlt hx1 (by assumption)).symm)))
 <| fun q2=>have p2:=beqF q2;.run 3 [rng .i64 ((k:Int)+1)] ⟨Qaj (by omega) (by omega),trivial⟩<|
 .bk L1 k (k+1) (show Qa1 (fun _ z=>(z==i)=false) U (k+1) from (hH1.step hx1 (by assumption))) (show U.length-(k+1)<U.length-k from (by omega)) [(5,aI ((k:Int)+1))] [] ⟨sR,sR,sO,trivial⟩ trivial)
 <| fun q1=>have p1:=decF q1;.r 1<|.f (aB (hasB U i)) [] (aB false) (by exact Sub.of_eq (congrArg aB (has_no (hH1.full (by omega))).symm))) a1 ha1)
end Go.Proofs.YtahlldgocpabjaaGreat

namespace Go.Proofs.YtahlldgocpabjaaGreat
open Go Go.RowKit Copyhold Copyhold.Name
abbrev NEnt:=Copyhold.Name.Ent
def entO (x:NEnt):Ent:=⟨x.1,x.2⟩
def lI (l:List Ent):List NEnt:=l.map fun e=>((e.name,e.ino):NEnt)
theorem lI_O (l:List Ent):(lI l).map entO=l:=by
 unfold lI;rw [List.map_map];have:(entO ∘ fun e:Ent=>((e.name,e.ino):NEnt))=id:=by funext e;rfl
 rw [this,List.map_id]
theorem Qkp {s:Txt}:okN s=true↔Qnl s:=by
 simp only [okN,Qnl,Bool.and_eq_true,Bool.not_eq_true',decide_eq_true_eq,beq_eq_false_iff_ne,ne_eq];constructor
 ·rintro ⟨⟨⟨⟨⟨h1,h2⟩,h3⟩,h4⟩,h5⟩,h6⟩;exact ⟨h1,h2,h3,h4,by simpa using h5,by simpa using h6⟩
 ·rintro ⟨h1,h2,h3,h4,h5,h6⟩;exact ⟨⟨⟨⟨⟨h1,h2⟩,h3⟩,h4⟩,by simpa using h5⟩,by simpa using h6⟩
theorem Qv6 (l:List NEnt):rightE l=true↔rowP (l.map entO):=by
 simp only [rightE,rowP,Bool.and_eq_true,decide_eq_true_eq,List.all_eq_true,List.mem_range,List.length_map];refine and_congr_right fun _=>⟨fun h i e he=>?_,fun h i hi=>?_⟩
 ·rw [List.getElem?_map] at he;cases hx:l[i]? with
  | none=>rw [hx] at he;cases he
  | some x=>
   rw [hx] at he;obtain rfl:=Option.some.inj he;have:=h i (Qan hx);simp only [okAt,hx,Bool.and_eq_true,okE,decide_eq_true_eq] at this;refine ⟨Qkp.1 this.1.1,this.1.2,fun d h0 hd=>?_⟩;rw [List.getElem?_map] at hd;cases hy:l[i-1]? with
   | none=>rw [hy] at hd;cases hd
   | some y=>
    rw [hy] at hd;obtain rfl:=Option.some.inj hd;have hu:=this.2;simp only [upAt,hy,Bool.or_eq_true,beq_iff_eq,decide_eq_true_eq] at hu;show Op.bytesLess y.1 x.1=true;rw [Qms];exact decide_eq_true (hu.resolve_left (by omega))
 ·have hx:=List.getElem?_eq_getElem hi;have:=h i (entO l[i]) (by rw [List.getElem?_map,hx];rfl);simp only [okAt,hx,Bool.and_eq_true,okE,decide_eq_true_eq];refine ⟨⟨Qkp.2 this.1,this.2.1⟩,?_⟩;simp only [upAt,Bool.or_eq_true,beq_iff_eq];by_cases h0:i=0
  ·exact .inl h0
  ·have hy:=List.getElem?_eq_getElem (l:=l) (i:=i-1) (by omega);right;rw [hy];have h2:=this.2.2 (entO l[i-1]) (by omega) (by rw [List.getElem?_map,hy];rfl);have h3:Op.bytesLess l[i-1].1 l[i].1=true:=h2;rw [Qms] at h3;exact h3
theorem Zkb {D:Nat→Prop} {w:World} {vals us:List Value} (hl:us.length=vals.length) (h:∀ (j:Nat) (a:AV) (u:Value),(vals.map AV.val)[j]?=some a→us[j]?=some u→Ra D w a u):us=vals:=by
 apply List.ext_getElem?;intro j;by_cases hj:j<vals.length
 ·have h1:=List.getElem?_eq_getElem hj;have h2:=List.getElem?_eq_getElem (l:=us) (i:=j) (by omega);have:=h j (.val vals[j]) us[j] (by rw [List.getElem?_map,h1];rfl) h2;rw [h1,h2];generalize us[j]=u at this;cases this;rfl
 ·rw [List.getElem?_eq_none (by omega),List.getElem?_eq_none (by omega)]
theorem Zd0 (l:List Ent):(l.map entA).flatten=((l.map fun e=>((e.name,e.ino):NEnt)).flatMap Copyhold.Name.entC).map AV.val:=by
 induction l with
 | nil=>rfl
 | cons e r ih=>
  simp only [List.map_cons,List.flatten_cons,List.flatMap_cons,List.map_append,ih];rfl
theorem Qcu {l:List Ent} (h:rowP l):Srt (lI l):=Za6 ((Qv6 (lI l)).2 (by rw [lI_O];exact h))
def getI (l:List Ent) (s:Txt):Int:=(getE (lI l) s).getD 0
def isB (l:List Ent) (s:Txt):Bool:=isAt (lI l) s
theorem Qqe {l:List Ent} {s:Txt} (h:isB l s=false):getI l s=0:=by
 unfold getI isB at *;unfold isAt at h;unfold getE;rw [List.find?_eq_none.2 fun x hx=>by simpa using List.any_eq_false.1 h x hx];rfl
theorem Qhu {D:Nat→Prop} {w:World} {t:Bool} {l:List Ent} {v:Value} (h:Ra D w (.sl 2 t (l.map entA)) v):∃ A c,v=.slice A (lI l).length c∧Ents w v (lI l):=by
 obtain ⟨us,hsl,hus,hru⟩:=Qhf h;rw [Zd0] at hru;have hsl0:=hsl;obtain ⟨A,cc,rfl,hc,hl,hh⟩:=hsl0;have hlen:∀ l:List NEnt,(l.flatMap Copyhold.Name.entC).length=l.length*2:=fun l=>by
  induction l with
  | nil=>rfl
  | cons y r ih=>simp only [List.flatMap_cons,List.length_append,ih,List.length_cons];simp [Copyhold.Name.entC];omega
 have e:=Zkb (by rw [hlen,hl];simp) hru;subst e;simp only [List.length_map] at hsl ⊢;have hn:(lI l).length=l.length:=by simp [lI]
 refine ⟨A,cc,by rw [hn],?_⟩;show Sl w 2 _ (lI l).length _;rw [hn];exact hsl
theorem Qfy (a b:Value) (D:Nat→Prop) (w:World):Ra D w (.tup [.val a,.val b]) (.tuple #[a,b]):=.tup _ _ rfl fun j x v hx hv=>by
 match j,hx,hv with
 | 0,hx,hv=>cases hx;cases hv;exact .val _
 | 1,hx,hv=>cases hx;cases hv;exact .val _
 | j+2,hx,_=>simp at hx
theorem Qb6 {P:Program} {f:FuncId} {args:List AV} {r:AV} {v:Value} (hr:∀ D w,Ra D w r v) (h:∀ D w vs,Qc0 D w args vs→Calls P f vs w (fun e w'=>e=.returned v∧Below w.heap.size w w')):Qaf P f args r:=fun D w vs hD hv=>
 (h D w vs hv).mono fun e w' ⟨h1,h2⟩=>⟨v,D,h1,h2,fun _ h=>h,fun b hb=>⟨Nat.lt_of_lt_of_le (hD b hb) h2.size,.inl hb⟩,hr D w'⟩
theorem Qfv (l:List Ent) (s:Txt) (hl:l.length≤1000000) (hr:Srt (lI l)):Qaf Tryz.prog 96 [.sl 2 false (l.map entA),aS s] (.tup [aI (getI l s),aB (isB l s)]):=Qb6 (Qfy _ _) fun D w vs h=>by
 obtain ⟨u,v,rfl,hu,hv⟩:=Qc0.two h;cases hv;obtain ⟨A,c,rfl,he⟩:=Qhu hu;exact Zcg (lI l) s A c w he (by simp [lI];omega) hr
theorem Qdu (l:List Ent) (s:Txt) (hl:l.length≤1000000):Qaf Tryz.prog 115 [.sl 2 false (l.map entA),aS s] (.tup [aI (getI l s),aB (isB l s)]):=Qb6 (Qfy _ _) fun D w vs h=>by
 obtain ⟨u,v,rfl,hu,hv⟩:=Qc0.two h;cases hv;obtain ⟨A,c,rfl,he⟩:=Qhu hu;exact (Qyj (lI l) s A c w he (by simp [lI];omega)).mono fun e w' ⟨g1,g2⟩=>⟨g1,g2 ▸ Below.refl _ _⟩
theorem Zfm {D:Nat→Prop} {w:World} {l:List Txt} {v:Value} (h:Row w v (l.map strV)) (hat:At D v):Ra D w (.sl 1 false (l.map txA)) v:=by
 rcases h with ⟨a,c,rfl,he⟩ | ⟨b,off,cap,rfl,h0,hc,hb,hcell⟩
 ·have:l=[]:=by simpa using he
  subst this;exact .sl 1 false [] a c 0 0 (fun _ _=>undef) (Nat.zero_le _) (fun h=>by cases h) (fun h=>absurd h (by simp)) (fun i e h=>by simp at h) (fun i e j x h=>by simp at h) (fun i e j x h=>by simp at h)
 ·have key:∀ (i:Nat) (e:List AV) (j:Nat) (x:AV),(l.map txA)[i]?=some e→e[j]?=some x→∃ y,l[i]?=some y∧j=0∧x=aS y:=by
   intro i e j x he hx;rw [List.getElem?_map] at he;cases hli:l[i]? with
   | none=>rw [hli] at he;cases he
   | some y=>
    rw [hli] at he;obtain rfl:=Option.some.inj he
    match j,hx with
    | 0,hx=>obtain rfl:=Option.some.inj hx;exact ⟨y,rfl,rfl,rfl⟩
    | j+1,hx=>simp [txA] at hx
  have:=Ra.sl (D:=D) (w:=w) 1 false (l.map txA) (some ⟨b,off,none⟩) cap b off (fun i _=>strV (l.getD i [])) (by simpa using hc) (fun h=>by cases h) (fun _=>⟨rfl,hat h0,hb⟩)
   (fun i e he=>by
    rw [List.getElem?_map] at he;cases hli:l[i]? with
    | none=>rw [hli] at he;cases he
    | some y=>rw [hli] at he;obtain rfl:=Option.some.inj he;rfl)
   (fun i e j x he hx=>by
    obtain ⟨y,h1,rfl,rfl⟩:=key i e j x he hx;simp only [List.getD,h1,Option.getD_some];refine ⟨?_,rfl⟩;have:=hcell i (strV y) (by rw [List.getElem?_map,h1];rfl);rw [show off+(i*1+0)=off+i from by omega];exact this)
   (fun i e j x he hx=>by
    obtain ⟨y,h1,rfl,rfl⟩:=key i e j x he hx;simp only [List.getD,h1,Option.getD_some];exact .val _)
  simp only [List.length_map] at this ⊢;exact this
theorem Zmj {D1 D2 D3:Nat→Prop} {v:Value} (h1:At D1 v) (h2:At D2 v) (h:∀ b,D1 b→D2 b→D3 b):At D3 v:=by
 unfold At at h1 h2 ⊢
 split
 ·exact fun h0=>h _ (h1 h0) (h2 h0)
 ·trivial
end Go.Proofs.YtahlldgocpabjaaGreat
