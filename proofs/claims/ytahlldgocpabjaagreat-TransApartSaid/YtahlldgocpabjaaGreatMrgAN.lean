import Derived.Test.YtahlldgocpabjaaGreatMrgAM
import Derived.Test.YtahlldgocpabjaaGreatAbsBr
import Derived.Test.YtahlldgocpabjaaGreatMrgA
import Derived.Test.YtahlldgocpabjaaGreatMrgJ
import Derived.Test.YtahlldgocpabjaaGreatRows
import Derived.Test.YtahlldgocpabjaaGreatMrgAB
set_option maxRecDepth 100000
set_option maxHeartbeats 8000000
set_option linter.unusedVariables false
set_option linter.unusedSimpArgs false
namespace Go.Proofs.YtahlldgocpabjaaGreat
open Go Go.RowKit Copyhold Go.Proofs.Tryz
theorem Qio {s:Sto} {t:Txn} {B:Nat} (h:Fit s B) (okt:OkT t) (hw:Qal t.was) (hn:Qal t.now) (hs:s.stamp<4611686018427387904) (hB:B≤90000):Fit (Qao s t).1 (B+513)∧(Qao s t).1.stamp≤s.stamp+1:=by
 have up:Fit s (B+513):=⟨h.ok,Nat.le_trans h.l (by omega),Nat.le_trans h.n (by omega),fun c hc=>Nat.le_trans (h.r c hc) (by omega)⟩
 by_cases hi:t.was=t.now
 ·rw [Qdk (Qaw.2 hi)];exact ⟨up,by show s.stamp≤_;omega⟩
 ·by_cases hc:Qfo s t
  ·rw [Qes (Qac.2 hi) (Qaw.2 hc)];exact ⟨up,by show s.stamp≤_;omega⟩
  ·rw [Qdj (Qac.2 hi) (Qac.2 hc)];have hlen:=Qgw t.was t.now;have h1:=hw.1;have h2:=hn.1;have F:=h.inst (Qlk okt.was okt.now) (next:=t.now.next) okt.now.1 (by omega) (by omega);exact ⟨⟨F.ok,Nat.le_trans F.l (by omega),Nat.le_trans F.n (by omega),fun c hc=>Nat.le_trans (F.r c hc) (by omega)⟩,Int.le_refl _⟩
theorem Qpt {s:Sto} {a b:List Cal} (oks:OkS s) (hg:Qvu s) (ha:a.length≤30) (oka:∀ c∈a,OkCal c) :
  ∀ x y,x=Qab (Qag s) a→y=Qab (Qag s) b→¬ x.was=x.now→¬ Qfo (Qao s x).1 y→¬ (0:Int)∈y.looks∧∀ i,¬ atF x.was i=atF x.now i→¬ i∈y.looks:=by
 intro x y ex ey hne hnc;obtain ⟨K,T,f3,f4,f5,f6,f7,f8,f9⟩:=Qfa oks hg ha oka x ex;have hp:=hg.2.1;have hn:=K.now.tree.rows;have hwas:x.was=Qbq s s.stamp:=K.was;have hys:y.stamp=s.stamp:=by rw [ey];exact Qgj b _
 have hk:(Qao s x).1=Qdb s (Qbn x.was x.now) x.now.next:=by rw [Qdj (Qac.2 hne) (Qac.2 f3)]
 have hks:(Qao s x).1.stamp=s.stamp+1:=by rw [hk];rfl
 have hpast:Qbq (Qao s x).1 s.stamp=x.was:=by
  rw [hk,Zbd hp (Qeh _ _) (Qei f9 hn) hn.2.1 (Int.le_refl _),hwas]
 have hle:s.stamp≤(Qao s x).1.stamp:=by omega
 refine ⟨fun h0=>hnc ⟨0,?_,h0⟩,fun i hi hy=>hnc ⟨i,?_,hy⟩⟩
 ·rw [hys];exact Qzb hle (by rw [hpast,f5];exact hne)
 ·rw [hys];exact Zbx f7 hle (by rw [f5];exact hn) (by rw [hpast,f5];exact hi)
theorem Qgf {s:Sto} {a b:List Cal} (oks:OkS s) (hg:Qvu s) (ha:a.length≤30) (oka:∀ c∈a,OkCal c) (hb:b.length≤30) (okb:∀ c∈b,OkCal c) :
  ∀ x y,x=Qab (Qag s) a→y=Qab (Qag s) b→(Qao (Qao s x).1 y).2=0→(Qao (Qao s y).1 x).2=0 →
  Qbq (Qao (Qao s x).1 y).1 (Qao (Qao s x).1 y).1.stamp=Qbq (Qao (Qao s y).1 x).1 (Qao (Qao s y).1 x).1.stamp:=by
 intro x y ex ey h1 h2;by_cases hx:x.was=x.now
 ·rw [Qdk (s:=s) (Qaw.2 hx),Qdk (s:=(Qao s y).1) (Qaw.2 hx)]
 ·by_cases hy:y.was=y.now
  ·rw [Qdk (s:=s) (Qaw.2 hy),Qdk (s:=(Qao s x).1) (Qaw.2 hy)]
  ·have c1:¬ Qfo (Qao s x).1 y:=fun h=>by
    rw [Qes (Qac.2 hy) (Qaw.2 h)] at h1;cases h1
   have c2:¬ Qfo (Qao s y).1 x:=fun h=>by
    rw [Qes (Qac.2 hx) (Qaw.2 h)] at h2;cases h2
   obtain ⟨p1,p2⟩:=Qpt (b:=b) oks hg ha oka x y ex ey hx c1;obtain ⟨q1,q2⟩:=Qpt (b:=a) oks hg hb okb y x ey ex hy c2;obtain ⟨K,T,f3,f4,f5,f6,f7,f8,f9⟩:=Qfa oks hg ha oka x ex;obtain ⟨L,T',g3,g4,g5,g6,g7,g8,g9⟩:=Qfa oks hg hb okb y ey;have hxn:=K.now.tree.rows;have hyn:=L.now.tree.rows;have hnx:(Qag s).now.next<1152921504606846976:=hg.2.2.2.2.2;have Fx:=Qi4 a (t:=Qag s) (Qis oks).now T oka (by omega) (by rw [← ex];exact q1);have Fy:=Qi4 b (t:=Qag s) (Qis oks).now T okb (by omega) (by rw [← ey];exact p1);rw [← ex] at Fx;rw [← ey] at Fy;have ew:x.was=(Qag s).now:=K.was;have ew2:y.was=(Qag s).now:=L.was;rw [Qdj (s:=(Qao s x).1) (Qac.2 hy) (Qac.2 c1),Qdj (s:=(Qao s y).1) (Qac.2 hx) (Qac.2 c2)];show Qbq (Qdb (Qao s x).1 _ _) ((Qao s x).1.stamp+1)=Qbq (Qdb (Qao s y).1 _ _) ((Qao s y).1.stamp+1);refine Qlg (Qg7 (Qey f7 (Qeh _ _) (Qei g9 hyn) hyn.2.1) _) (Qg7 (Qey g7 (Qeh _ _) (Qei f9 hxn) hxn.2.1) _) (fun i=>?_) ?_
   ·rw [Qsb f7 g9 hyn,Qsb g7 f9 hxn,f5,g5];by_cases cy:atF y.was i=atF y.now i
    ·rw [if_pos cy];by_cases cx:atF x.was i=atF x.now i
     ·rw [if_pos cx,← cx,← cy,ew,ew2]
     ·rw [if_neg cx]
    ·rw [if_neg cy];by_cases cx:atF x.was i=atF x.now i
     ·rw [if_pos cx]
     ·rcases Fy.2 i with h | h
      ·exact absurd (by rw [ew2];exact h.symm) cy
      ·exact absurd h (p2 i cx)
   ·show Qe6 _ _=Qe6 _ _;rw [Qne f7,Qne g7];have e1:Qe6 (Qao s x).1 (Qao s x).1.stamp=x.now.next:=congrArg Fsy.next f5;have e2:Qe6 (Qao s y).1 (Qao s y).1.stamp=y.now.next:=congrArg Fsy.next g5;rw [e1,e2,Fx.1,Fy.1]
theorem Qmp (s:Sto) (a b:List Cal) (oks:OkS s) (hla:a.length≤8796093022207) (okla:∀ c∈a,OkC0 c) (hlb:b.length≤8796093022207) (oklb:∀ c∈b,OkC0 c):Qaj prog 9 [.agg (stoA s),.sl 8 false (a.map calA),.sl 8 false (b.map calA)] (aB true):=by
 exact Qad func9 (
 .new fun b1=>.r 1<|.call (Zk7)<|
 .r 1<|.u 1 [b1]<|
 .call (Qzo s oks)<|
 .r 2<|.br 22 (!(dP (Qvu s))) (fun q1=>have q1:=notT q1;have p1:=booF q1;.r 9<|.r 2<|.f (aB true) [] (aB true) (by exact Sub.of_eq (by first | rfl | exact congrArg aB (Qaw.2 (Qgf oks hgd ha oka hb okb _ _ rfl rfl hxy hyx)) | (refine congrArg aB ?_;simp_all;done))))
 <| fun q1=>have q1:=notF q1;have p1:=booT q1;have hgd:=Qaw.1 q1;have hfit:=Ze0 oks hgd.1;have ms:MidS s:=Qsw hfit (by omega) (by have:=hgd.2.2.1;omega);have hx0:(Qag s).now.next<1152921504606847976:=(by have:=hgd.2.2.2.2.2;show (Qbq s s.stamp).next<_;omega);have T:TreeP (Qag s).now:=Qm0 hgd.2.2.2.1 hgd.2.2.2.2.1;.r 1<|.call (Qoy a hla okla)<|
 .r 3<|.br 27 (!(dP (Qff a))) (fun q2=>have q2:=notT q2;have p2:=booF q2;.r 4<|.r 2<|.f (aB true) [] (aB true) (by exact Sub.of_eq (by first | rfl | exact congrArg aB (Qaw.2 (Qgf oks hgd ha oka hb okb _ _ rfl rfl hxy hyx)) | (refine congrArg aB ?_;simp_all;done))))
 <| fun q2=>have q2:=notF q2;have p2:=booT q2;have hsma:=Qaw.1 q2;have ha:a.length≤30:=hsma.2;have oka:∀ c∈a,OkCal c:=fun c hc=>Qww hsma hc (okla c hc);have txa:∀ c∈a,c.text.length≤500000:=fun c hc=>(by have:=(Qr8 hsma hc).2.2;omega);have fa:=Qfa oks hgd ha oka _ rfl;.r 1<|.call (Qoy b hlb oklb)<|
 .r 2<|.br 31 (!(dP (Qff b))) (fun q3=>have q3:=notT q3;have p3:=booF q3;.r 2<|.f (aB true) [] (aB true) (by exact Sub.of_eq (by first | rfl | exact congrArg aB (Qaw.2 (Qgf oks hgd ha oka hb okb _ _ rfl rfl hxy hyx)) | (refine congrArg aB ?_;simp_all;done))))
 <| fun q3=>have q3:=notF q3;have p3:=booT q3;have hsmb:=Qaw.1 q3;have hb:b.length≤30:=hsmb.2;have okb:∀ c∈b,OkCal c:=fun c hc=>Qww hsmb hc (oklb c hc);have txb:∀ c∈b,c.text.length≤500000:=fun c hc=>(by have:=(Qr8 hsmb hc).2.2;omega);have fb:=Qfa oks hgd hb okb _ rfl;have gx:=Qio hfit fa.1.ok fa.2.2.2.2.2.2.2.2 fa.1.now.tree.rows (by have:=hgd.2.2.1;omega) (by omega);have gy:=Qio hfit fb.1.ok fb.2.2.2.2.2.2.2.2 fb.1.now.tree.rows (by have:=hgd.2.2.1;omega) (by omega);have mx:MidS (Qao s (Qab (Qag s) a)).1:=Qsw gx.1 (by omega) (by have:=gx.2;have:=hgd.2.2.1;omega);have my:MidS (Qao s (Qab (Qag s) b)).1:=Qsw gy.1 (by omega) (by have:=gy.2;have:=hgd.2.2.1;omega);have fxy:=(Qio gx.1 fb.1.ok fb.2.2.2.2.2.2.2.2 fb.1.now.tree.rows (by have:=gx.2;have:=hgd.2.2.1;omega) (by omega)).1;have fyx:=(Qio gy.1 fa.1.ok fa.2.2.2.2.2.2.2.2 fa.1.now.tree.rows (by have:=gy.2;have:=hgd.2.2.1;omega) (by omega)).1;.u 1 [b1]<|
 .call (Qdr s oks (by have:=hfit.l;omega))<|
 .r 1<|.call (Qmz (Qag s) a (Qis oks) T hgd.2.2.2.1 ha oka txa hx0 (by show ([]:List Int).length≤_;simp) List.Pairwise.nil)<|
 .r 3<|.new fun b2=>.u 2 [b2]<|
 .u 1 [b1]<|
 .call (Qdr s oks (by have:=hfit.l;omega))<|
 .r 1<|.call (Qmz (Qag s) b (Qis oks) T hgd.2.2.2.1 hb okb txb hx0 (by show ([]:List Int).length≤_;simp) List.Pairwise.nil)<|
 .r 3<|.new fun b3=>.u 2 [b3]<|
 .u 2 [b1,b2]<|
 .call (Qef s (Qab (Qag s) a) ms fa.1.ok fa.2.2.2.2.2.2.2.2 fa.1.now.tree.rows)<|
 .r 3<|.new fun b4=>.u 2 [b4]<|
 .u 2 [b4,b3]<|
 .call (Qef (Qao s (Qab (Qag s) a)).1 (Qab (Qag s) b) mx fb.1.ok fb.2.2.2.2.2.2.2.2 fb.1.now.tree.rows)<|
 .u 5 [b4]<|
 .u 2 [b1,b3]<|
 .call (Qef s (Qab (Qag s) b) ms fb.1.ok fb.2.2.2.2.2.2.2.2 fb.1.now.tree.rows)<|
 .r 3<|.new fun b5=>.u 2 [b5]<|
 .u 2 [b5,b2]<|
 .call (Qef (Qao s (Qab (Qag s) b)).1 (Qab (Qag s) a) my fa.1.ok fa.2.2.2.2.2.2.2.2 fa.1.now.tree.rows)<|
 .u 5 [b5]<|
 .r 3<|.is 73 (show (((Qao s (Qab (Qag s) a)).2) != 0)=false from (by rw [fa.2.2.2.1];rfl))<|.r 3<|.is 76 (show (((Qao s (Qab (Qag s) b)).2) != 0)=false from (by rw [fb.2.2.2.1];rfl))<|.r 3<|.br 79 (((Qao (Qao s (Qab (Qag s) a)).1 (Qab (Qag s) b)).2) != 0) (fun q4=>have p4:=bneT q4;.r 3<|.r 2<|.f (aB true) [] (aB true) (by exact Sub.of_eq (by first | rfl | exact congrArg aB (Qaw.2 (Qgf oks hgd ha oka hb okb _ _ rfl rfl hxy hyx)) | (refine congrArg aB ?_;simp_all;done))))
 <| fun q4=>have p4:=bneF q4;have hxy:=bneF q4;.r 3<|.br 82 (((Qao (Qao s (Qab (Qag s) b)).1 (Qab (Qag s) a)).2) != 0) (fun q5=>have p5:=bneT q5;.r 2<|.f (aB true) [] (aB true) (by exact Sub.of_eq (by first | rfl | exact congrArg aB (Qaw.2 (Qgf oks hgd ha oka hb okb _ _ rfl rfl hxy hyx)) | (refine congrArg aB ?_;simp_all;done))))
 <| fun q5=>have p5:=bneF q5;have hyx:=bneF q5;.ord [0,1,2,3,4,6,7,8,5,9,10,11,12]<|.u 8 [b4,b4,b5,b5]<|
 .call (Qk2 (Qao (Qao s (Qab (Qag s) a)).1 (Qab (Qag s) b)).1 (Qao (Qao s (Qab (Qag s) a)).1 (Qab (Qag s) b)).1.stamp fxy.ok (by have:=fxy.l;omega))<|
 .call (Qk2 (Qao (Qao s (Qab (Qag s) b)).1 (Qab (Qag s) a)).1 (Qao (Qao s (Qab (Qag s) b)).1 (Qab (Qag s) a)).1.stamp fyx.ok (by have:=fyx.l;omega))<|
 .call (Zai (Qbq (Qao (Qao s (Qab (Qag s) a)).1 (Qab (Qag s) b)).1 (Qao (Qao s (Qab (Qag s) a)).1 (Qab (Qag s) b)).1.stamp) (Qbq (Qao (Qao s (Qab (Qag s) b)).1 (Qab (Qag s) a)).1 (Qao (Qao s (Qab (Qag s) b)).1 (Qab (Qag s) a)).1.stamp) (Qku fxy.ok _) (Qku fyx.ok _))<|
 .r 2<|.f (aB true) [] (aB (dP ((Qbq (Qao (Qao s (Qab (Qag s) a)).1 (Qab (Qag s) b)).1 (Qao (Qao s (Qab (Qag s) a)).1 (Qab (Qag s) b)).1.stamp)=(Qbq (Qao (Qao s (Qab (Qag s) b)).1 (Qab (Qag s) a)).1 (Qao (Qao s (Qab (Qag s) b)).1 (Qab (Qag s) a)).1.stamp)))) (by exact Sub.of_eq (by first | rfl | exact congrArg aB (Qaw.2 (Qgf oks hgd ha oka hb okb _ _ rfl rfl hxy hyx)) | (refine congrArg aB ?_;simp_all;done))))
end Go.Proofs.YtahlldgocpabjaaGreat

namespace Copyhold
open Go Go.RowKit Go.ChangeShapes Go.WideShapes Go.ChangeAt Go.Deep
structure Opn {α:Type} (P:Program) (W:World) (t:TypeId) (en:α→List AV) (ok:α→Prop):Prop where
 run:∀ (H:Type) (enc:TypeId × Value→H) (fuel:Nat) (cs:List Value) (x:DataW H × List MemPlace),
  DataW.trod enc P W 0 (fun _=>true) true fuel t cs=some x→(∀ p∈x.2,p.block<W.heap.size)→(∀ n∈DataW.weights P t x.1,n≤140737488351232) →
  ∃ a,Qkt (·<W.heap.size) W (en a) cs∧(∀ u∈cs,u.oneCell'=true)∧ok a
section
variable {P:Program} {W:World} {t:TypeId}
theorem Opn.map {α β:Type} {en:α→List AV} {ok:α→Prop} {en':β→List AV} {ok':β→Prop} (h:Opn P W t en ok) (f:α→β) (he:∀ a,en' (f a)=en a) (ho:∀ a,ok a→ok' (f a)):Opn P W t en' ok':=Opn.mk fun H enc fuel cs x h1 h2 h3=>by
 obtain ⟨a,g1,g2,g3⟩:=h.run H enc fuel cs x h1 h2 h3;exact ⟨f a,by rw [he];exact g1,g2,ho a g3⟩
theorem Qkk {D:Nat→Prop} {w:World} {a:AV} {v:Value} (h:Ra D w a v):Qkt D w [a] [v]:=⟨rfl,fun j x u hx hu=>by
 match j,hx,hu with
 | 0,hx,hu=>simp at hx hu;subst hx hu;exact h
 | j+1,hx,_=>simp at hx⟩
theorem wf_i64 {z:Int} (w:(Lit.int .i64 z).wf=true):-9223372036854775808≤z∧z≤9223372036854775807:=by
 simpa [Lit.wf,IntKind.min,IntKind.max,IntKind.signed,IntKind.bits] using w
theorem Qdu (hu:P.underlying t=some (.int .i64)):Opn P W t (fun n:Int=>[aI n]) (fun n=>-9223372036854775808≤n∧n≤9223372036854775807):=Opn.mk fun H enc fuel cs x h1 h2 h3=>by
 obtain ⟨n,rfl,rfl,hw⟩:=DataW.trod_int hu h1;exact ⟨n,Qkk (.val _),fun u hu=>by obtain rfl:=List.mem_singleton.1 hu;rfl,wf_i64 hw⟩
theorem Zht (hu:P.underlying t=some .bool):Opn P W t (fun n:Bool=>[aB n]) (fun _=>True):=Opn.mk fun H enc fuel cs x h1 h2 h3=>by
 obtain ⟨n,rfl,rfl⟩:=DataW.trod_bool hu h1;exact ⟨n,Qkk (.val _),fun u hu=>by obtain rfl:=List.mem_singleton.1 hu;rfl,trivial⟩
theorem Qf7 (hu:P.underlying t=some .string):Opn P W t (fun n:List UInt8=>[aS n]) (fun n=>n.length≤140737488351232):=Opn.mk fun H enc fuel cs x h1 h2 h3=>by
 obtain ⟨s,rfl,rfl,_⟩:=DataW.trod_string hu h1;exact ⟨s.data.toList,Qkk (.val _),fun u hu=>by obtain rfl:=List.mem_singleton.1 hu;rfl,h3 _ (by simp [DataW.weights])⟩
theorem Qhj {α:Type} {en:α→List AV} {ok:α→Prop} {e:TypeId} {k:Nat} (h:Opn P W e en ok) (a0:α) (hu:P.underlying t=some (.slice e)) (hc:P.cellsOf e=k) (hk:0<k) (hb:16≤P.bytesOf e) :
  Opn P W t (fun l:List α=>[.sl k false (l.map en)]) (fun l=>l.length≤8796093022207∧∀ a∈l,ok a):=Opn.mk fun H enc fuel cs x h1 h2 h3=>by
 obtain ⟨v,rs,rfl,hr,hd⟩:=Qqj (k:=k) (R:=fun a cs=>Qkt (·<W.heap.size) W (en a) cs∧(∀ u∈cs,u.oneCell'=true)∧ok a) hu hc hk a0 (fun n cs' y hy hl hcl hww=>h.run H enc n cs' y hy hl hww) h1 h2 h3;have hsz:=Qzj hu hd h3;have:=Nat.le_trans (Nat.mul_le_mul_left rs.length hb) hsz;have hra:Ra (·<W.heap.size) W (.sl k false (rs.map en)) v:=Qz0 hr (·<W.heap.size) (fun _ h=>h) (fun a _ cs _ hR=>⟨hR.2.1,hR.1⟩);obtain ⟨A,c,rfl⟩:=hr.shape;refine ⟨rs,Qkk hra,fun u hu=>by obtain rfl:=List.mem_singleton.1 hu;rfl,by omega,fun a ha=>?_⟩;obtain ⟨css,g1,g2,g3⟩:=hr;obtain ⟨i,hi,rfl⟩:=List.mem_iff_getElem.1 ha;exact (g3 i _ _ (List.getElem?_eq_getElem (by omega)) (List.getElem?_eq_getElem hi)).2.2.2
structure OpnFs {γ:Type} (P:Program) (W:World) (N:Nat) (fs:List Field) (off:Nat) (en:γ→List AV) (ok:γ→Prop):Prop where
 run:∀ (H:Type) (enc:TypeId × Value→H) (m:Nat) (cs:List Value) (xs:List (DataW H × List MemPlace)),cs.length=N→xs.length=fs.length →
  (∀ (i:Nat) (f:Field),fs[i]?=some f→DataW.trod enc P W 0 (fun _=>true) true m f.type ((cs.drop f.offset).take (P.cellsOf f.type))=xs[i]?) →
  (∀ x∈xs,∀ p∈x.2,p.block<W.heap.size)→(∀ n∈DataW.weightsEach P (fs.map (·.type)) (xs.map (·.1)),n≤140737488351232) →
  ∃ g,Qkt (·<W.heap.size) W (en g) (cs.drop off)∧(∀ u∈cs.drop off,u.oneCell'=true)∧ok g
theorem Qgp (N:Nat):OpnFs P W N [] N (fun _:Unit=>[]) (fun _=>True):=OpnFs.mk fun H enc m cs xs h1 h2 h3 h4 h5=>by
 have:cs.drop N=[]:=List.drop_eq_nil_of_le (by omega);rw [this];exact ⟨(),⟨rfl,fun j a u ha=>by simp at ha⟩,fun u hu=>by simp at hu,trivial⟩
theorem Qtt {D:Nat→Prop} {w:World} {xs ys:List AV} {cs ds:List Value} (h:Qkt D w xs cs) (k:Qkt D w ys ds):Qkt D w (xs++ys) (cs++ds):=by
 refine ⟨by simp [h.1,k.1],fun j a u ha hu=>?_⟩;by_cases hj:j<xs.length
 ·rw [List.getElem?_append_left hj] at ha;rw [List.getElem?_append_left (by rw [h.1];exact hj)] at hu;exact h.2 j a u ha hu
 ·rw [List.getElem?_append_right (by omega)] at ha;rw [List.getElem?_append_right (by rw [h.1];omega),h.1] at hu;exact k.2 _ a u ha hu
theorem Qbi {α γ:Type} {N off k:Nat} {f:Field} {fs:List Field} {en:α→List AV} {ok:α→Prop} {en2:γ→List AV} {ok2:γ→Prop} (h:Opn P W f.type en ok) (ho:f.offset=off) (hk:P.cellsOf f.type=k)
  (hr:OpnFs P W N fs (off+k) en2 ok2):OpnFs P W N (f :: fs) off (fun g:α × γ=>en g.1++en2 g.2) (fun g=>ok g.1∧ok2 g.2):=OpnFs.mk fun H enc m cs xs h1 h2 h3 h4 h5=>by
 obtain ⟨x0,xr,rfl⟩:∃ a r,xs=a :: r:=by
  cases xs with
  | nil=>simp at h2
  | cons a r=>exact ⟨a,r,rfl⟩
 have g0:=h3 0 f rfl;rw [ho,hk] at g0;simp only [List.map_cons,DataW.weightsEach] at h5;obtain ⟨a,ha,ha2,ha3⟩:=h.run H enc m _ x0 (by simpa using g0) (h4 x0 (by simp)) (fun n hn=>h5 n (by simp [hn]));obtain ⟨g,hg,hg2,hg3⟩:=hr.run H enc m cs xr h1 (by simpa using h2) (fun i f' hf=>by have:=h3 (i+1) f' (by simpa using hf);simpa using this) (fun x hx=>h4 x (by simp [hx])) (fun n hn=>h5 n (by simp [hn]));have e:cs.drop off=(cs.drop off).take k++cs.drop (off+k):=by
  rw [← List.drop_drop,List.take_append_drop]
 refine ⟨(a,g),?_,?_,ha3,hg3⟩
 ·rw [e];exact Qtt ha hg
 ·intro u hu;rw [e] at hu;rcases List.mem_append.1 hu with h | h
  ·exact ha2 u h
  ·exact hg2 u h
theorem Qec {γ:Type} {N:Nat} {fs:Array Field} {en:γ→List AV} {ok:γ→Prop} (hu:P.underlying t=some (.struct fs)) (hc:P.cellsOf t=N) (h:OpnFs P W N fs.toList 0 en ok):Opn P W t en ok:=Opn.mk fun H enc fuel cs x h1 h2 h3=>by
 obtain ⟨xs,m,_,rfl,hl,hlen,hfl⟩:=DataW.trod_struct hu h1;obtain ⟨g,g1,g2,g3⟩:=h.run H enc m cs xs (by rw [hl,hc]) (by simpa using hlen) (fun i f hf=>hfl i f (by simpa using hf)) (fun x hx p hp=>h2 p (by simp only [List.mem_flatMap];exact ⟨x,hx,hp⟩))
  (fun n hn=>h3 n (by simp only [DataW.weights,hu];exact hn))
 exact ⟨g,by simpa using g1,by simpa using g2,g3⟩
theorem Za4 {α:Type} {en:α→List AV} {ok:α→Prop} {fs:Array Field} {H:Type} {enc:TypeId × Value→H} {base:Nat} {v:Value} {d:DataW H} {p:List MemPlace} (h:Opn P W t en ok) (hu:P.underlying t=some (.struct fs)) (hv:Value.okWide P W .any base t v)
  (ht:∃ fuel,DataW.trod enc P W 0 (fun _=>true) true fuel t v.cells.toList=some (d,p)) (hlt:∀ x∈p,x.block<W.heap.size) (hw:∀ n∈DataW.weights P t d,n≤140737488351232):∃ a,Ra (·<W.heap.size) W (.agg (en a)) v∧ok a:=by
 obtain ⟨cs,rfl,_⟩:=okWide_struct hu hv;obtain ⟨fuel,ht⟩:=ht;obtain ⟨a,g1,g2,g3⟩:=h.run H enc fuel _ _ ht hlt hw;refine ⟨a,.agg _ _ (by have:=g1.1;simp [Value.cells] at this;omega) (fun j u hj=>g2 u (by have:=Array.mem_of_getElem? hj;simpa [Value.cells] using this)) (fun j x u hx hj=>g1.2 j x u hx (by simpa [Value.cells] using hj)),g3⟩
theorem Qt5 {α:Type} {x:α→AV} {ok:α→Prop} {e:TypeId} {H:Type} {enc:TypeId × Value→H} {base:Nat} {v:Value} {d:DataW H} {p:List MemPlace} (h:Opn P W t (fun a=>[x a]) ok) (hu:P.underlying t=some (.slice e)) (hv:Value.okWide P W .any base t v)
  (ht:∃ fuel,DataW.trod enc P W 0 (fun _=>true) true fuel t v.cells.toList=some (d,p)) (hlt:∀ x∈p,x.block<W.heap.size) (hw:∀ n∈DataW.weights P t d,n≤140737488351232):∃ a,Ra (·<W.heap.size) W (x a) v∧ok a:=by
 obtain ⟨A,l,c,rfl⟩:=okWide_slice hu hv;obtain ⟨fuel,ht⟩:=ht;obtain ⟨a,g1,g2,g3⟩:=h.run H enc fuel _ _ ht hlt hw;exact ⟨a,g1.2 0 _ _ rfl rfl,g3⟩
def RaL (D:Nat→Prop) (w:World):List AV→List Value→Prop
 | [],[]=>True
 | x :: xs,v :: vs=>Ra D w x v∧RaL D w xs vs
 | _,_=>False
theorem Zjy {D:Nat→Prop} {w:World}:∀ (xs:List AV) (vs:List Value),RaL D w xs vs→Qc6 D w xs vs.toArray
 | [],[],_=>⟨rfl,fun j a u ha=>by simp at ha⟩
 | x :: xs,v :: vs,h=>by
  have ih:=Zjy xs vs h.2;refine ⟨by have:=ih.1;simp at this ⊢;exact this,fun j a u ha hu=>?_⟩;cases j with
  | zero=>simp at ha hu;subst ha hu;exact h.1
  | succ j=>exact ih.2 j a u (by simpa using ha) (by simpa using hu)
 | [],_ :: _,h=>h.elim
 | _ :: _,[],h=>h.elim
theorem Zad {f:FuncId} {args:List AV} {vs:Array Value} {w:World} (h:Qaj P f args (aB true)) (hv:Qc6 (·<w.heap.size) w args vs) :
  Calls P f vs w (fun e w'=>e=.returned (.bool true)∧Below w.heap.size w w'):=by
 refine (h _ w vs (fun _ h=>h) hv).mono ?_;rintro e w' ⟨v,D',rfl,hb,_,_,hr⟩;cases hr;exact ⟨rfl,hb⟩
end
end Copyhold

namespace Go.Proofs.YtahlldgocpabjaaGreat
open Go Go.RowKit Copyhold Go.Proofs.Tryz
theorem Zlt (W:World):Opn prog W 128 entA OkE:=
 (Qec (N:=2) Tryz.underlying128 (by kernel_rfl) (Qbi (k:=1) (Qf7 Tryz.underlying9) rfl (by kernel_rfl) (Qbi (k:=1) (Qdu Tryz.underlying3) rfl (by kernel_rfl) (Qgp 2)))).map (fun g=>⟨g.1,g.2.1⟩) (fun _=>rfl) (fun a h=>⟨h.1,h.2.1⟩)
theorem Zhq (W:World):Opn prog W 82 (fun l:List (Ent)=>[.sl 2 false (l.map entA)]) (fun l=>l.length≤8796093022207∧∀ a∈l,OkE a):=Qhj (Zlt W) (⟨[],0⟩) Tryz.underlying82 (by kernel_rfl) (by decide) (Nat.le_of_ble_eq_true (by kernel_rfl))
theorem Zls (W:World):Opn prog W 84 nodA OkN:=
 (Qec (N:=5) Tryz.underlying84 (by kernel_rfl) (Qbi (k:=1) (Qdu Tryz.underlying3) rfl (by kernel_rfl) (Qbi (k:=1) (Qdu Tryz.underlying3) rfl (by kernel_rfl) (Qbi (k:=1) (Qdu Tryz.underlying3) rfl (by kernel_rfl) (Qbi (k:=1) (Qf7 Tryz.underlying9) rfl (by kernel_rfl) (Qbi (k:=1) (Zhq W) rfl (by kernel_rfl) (Qgp 5))))))).map (fun g=>⟨g.1,g.2.1,g.2.2.1,g.2.2.2.1,g.2.2.2.2.1⟩) (fun _=>rfl) (fun a h=>⟨h.1,h.2.1,h.2.2.1,h.2.2.2.1,h.2.2.2.2.1.1,h.2.2.2.2.1.2⟩)
end Go.Proofs.YtahlldgocpabjaaGreat

namespace Go.Proofs.YtahlldgocpabjaaGreat
open Go Go.RowKit Copyhold Go.Proofs.Tryz
theorem Zlq (W:World):Opn prog W 100 verA OkV:=
 (Qec (N:=7) Tryz.underlying100 (by kernel_rfl) (Qbi (k:=1) (Qdu Tryz.underlying3) rfl (by kernel_rfl) (Qbi (k:=1) (Zht Tryz.underlying4) rfl (by kernel_rfl) (Qbi (k:=5) (Zls W) rfl (by kernel_rfl) (Qgp 7))))).map (fun g=>⟨g.1,g.2.1,g.2.2.1⟩) (fun _=>rfl) (fun a h=>⟨h.1,h.2.2.1⟩)
theorem Zhp (W:World):Opn prog W 96 (fun l:List (Ver)=>[.sl 7 false (l.map verA)]) (fun l=>l.length≤8796093022207∧∀ a∈l,OkV a):=Qhj (Zlq W) (⟨0,false,⟨0,0,0,[],[]⟩⟩) Tryz.underlying96 (by kernel_rfl) (by decide) (Nat.le_of_ble_eq_true (by kernel_rfl))
theorem Zlv (W:World):Opn prog W 98 chnA OkC:=
 (Qec (N:=2) Tryz.underlying98 (by kernel_rfl) (Qbi (k:=1) (Qdu Tryz.underlying3) rfl (by kernel_rfl) (Qbi (k:=1) (Zhp W) rfl (by kernel_rfl) (Qgp 2)))).map (fun g=>⟨g.1,g.2.1⟩) (fun _=>rfl) (fun a h=>⟨h.1,h.2.1.1,h.2.1.2⟩)
theorem Zhs (W:World):Opn prog W 22 (fun l:List (Chn)=>[.sl 2 false (l.map chnA)]) (fun l=>l.length≤8796093022207∧∀ a∈l,OkC a):=Qhj (Zlv W) (⟨0,[]⟩) Tryz.underlying22 (by kernel_rfl) (by decide) (Nat.le_of_ble_eq_true (by kernel_rfl))
theorem Zlu (W:World):Opn prog W 95 cntA OkK:=
 (Qec (N:=2) Tryz.underlying95 (by kernel_rfl) (Qbi (k:=1) (Qdu Tryz.underlying3) rfl (by kernel_rfl) (Qbi (k:=1) (Qdu Tryz.underlying3) rfl (by kernel_rfl) (Qgp 2)))).map (fun g=>⟨g.1,g.2.1⟩) (fun _=>rfl) (fun a h=>⟨h.1,h.2.1⟩)
theorem Zhr (W:World):Opn prog W 23 (fun l:List (Cnt)=>[.sl 2 false (l.map cntA)]) (fun l=>l.length≤8796093022207∧∀ a∈l,OkK a):=Qhj (Zlu W) (⟨0,0⟩) Tryz.underlying23 (by kernel_rfl) (by decide) (Nat.le_of_ble_eq_true (by kernel_rfl))
theorem Zlr (W:World):Opn prog W 25 stoA OkS:=
 (Qec (N:=3) Tryz.underlying25 (by kernel_rfl) (Qbi (k:=1) (Zhs W) rfl (by kernel_rfl) (Qbi (k:=1) (Zhr W) rfl (by kernel_rfl) (Qbi (k:=1) (Qdu Tryz.underlying3) rfl (by kernel_rfl) (Qgp 3))))).map (fun g=>⟨g.1,g.2.1,g.2.2.1⟩) (fun _=>rfl) (fun a h=>⟨h.2.2.1,h.1.1,h.2.1.1,h.1.2,h.2.1.2⟩)
theorem Zlw (W:World):Opn prog W 33 calA OkC0:=
 (Qec (N:=8) Tryz.underlying33 (by kernel_rfl) (Qbi (k:=1) (Qdu Tryz.underlying3) rfl (by kernel_rfl) (Qbi (k:=1) (Qdu Tryz.underlying3) rfl (by kernel_rfl) (Qbi (k:=1) (Qdu Tryz.underlying3) rfl (by kernel_rfl) (Qbi (k:=1) (Qdu Tryz.underlying3) rfl (by kernel_rfl) (Qbi (k:=1) (Qdu Tryz.underlying3) rfl (by kernel_rfl) (Qbi (k:=1) (Qf7 Tryz.underlying9) rfl (by kernel_rfl) (Qbi (k:=1) (Qf7 Tryz.underlying9) rfl (by kernel_rfl) (Qbi (k:=1) (Qf7 Tryz.underlying9) rfl (by kernel_rfl) (Qgp 8)))))))))).map (fun g=>⟨g.1,g.2.1,g.2.2.1,g.2.2.2.1,g.2.2.2.2.1,g.2.2.2.2.2.1,g.2.2.2.2.2.2.1,g.2.2.2.2.2.2.2.1⟩) (fun _=>rfl) (fun a h=>⟨h.1,h.2.1,h.2.2.1,h.2.2.2.1,h.2.2.2.2.1,h.2.2.2.2.2.1,h.2.2.2.2.2.2.1,h.2.2.2.2.2.2.2.1⟩)
theorem Qxb (W:World):Opn prog W 39 (fun l:List (Cal)=>[.sl 8 false (l.map calA)]) (fun l=>l.length≤8796093022207∧∀ a∈l,OkC0 a):=Qhj (Zlw W) (⟨0,0,0,0,0,[],[],[]⟩) Tryz.underlying39 (by kernel_rfl) (by decide) (Nat.le_of_ble_eq_true (by kernel_rfl))
end Go.Proofs.YtahlldgocpabjaaGreat
