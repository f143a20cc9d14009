import Derived.Test.YtahlldgocpabjaaGreatMrgAS
import Derived.Test.YtahlldgocpabjaaGreatMrgH
import Derived.Test.YtahlldgocpabjaaGreatMrgJ
import Derived.Test.YtahlldgocpabjaaGreatRows
import Derived.Test.YtahlldgocpabjaaGreatMrgAE
set_option maxRecDepth 100000
set_option maxHeartbeats 8000000
set_option linter.unusedVariables false
set_option linter.unusedSimpArgs false
namespace Go.Proofs.YtahlldgocpabjaaGreat
open Go Go.RowKit Copyhold Go.Proofs.Tryz
noncomputable def idT (t:Txn) (l:List Cal):Txn:=l.foldl (fun t c=>if c.kind≤3∨c.kind≥13 then Qbo t c else t) t
theorem Ze1 {t:Txn} {l:List Cal} {k:Nat} {x:Cal} (h:l[k]?=some x) (g:x.kind≤3∨x.kind≥13):idT t (l.take (k+1))=Qbo (idT t (l.take k)) x:=by
 unfold idT;rw [Qam h,List.foldl_append];exact if_pos g
theorem id_no {t:Txn} {l:List Cal} {k:Nat} {x:Cal} (h:l[k]?=some x) (g:¬ (x.kind≤3∨x.kind≥13)):idT t (l.take (k+1))=idT t (l.take k):=by
 unfold idT;rw [Qam h,List.foldl_append];exact if_neg g
structure KeptI (t u:Txn) (k:Nat):Prop where
 now:u.now=t.now
 was:u.was=t.was
 stamp:u.stamp=t.stamp
 len:u.looks.length≤t.looks.length+7*k
theorem Zen {t:Txn} {l:List Cal}:∀ k,k≤l.length→KeptI t (idT t (l.take k)) k
 | 0,_=>⟨rfl,rfl,rfl,Nat.le_refl _⟩
 | k+1,hk=>by
  have ih:=Zen (t:=t) (l:=l) k (by omega);have h:=List.getElem?_eq_getElem (l:=l) (i:=k) (by omega);by_cases g:l[k].kind≤3∨l[k].kind≥13
  ·rw [Ze1 h g];have hl:=Qmr (idT t (l.take k)) l[k];have:=ih.len;exact ⟨(Zjf g).trans ih.now,ih.was,ih.stamp,by omega⟩
  ·rw [id_no h g];have:=ih.len;exact ⟨ih.now,ih.was,ih.stamp,by omega⟩
theorem Qoh (s:Sto) (o l:List Cal) (oks:OkS s) (hlo:o.length≤8796093022207) (oklo:∀ c∈o,OkC0 c) (hll:l.length≤8796093022207) (okl:∀ c∈l,OkC0 c):Qah prog 8 [.agg (stoA s),.sl 8 false (o.map calA),.sl 8 false (l.map calA)] (aB true):=by
 exact Qac func8 (
 .new fun b1=>.r 1<|.call (Zlq)<|
 .r 1<|.u 1 [b1]<|
 .call (Qzs s oks)<|
 .r 2<|.br 19 (!(dP (Zan s))) (fun q1=>have q1:=notT q1;have p1:=booF q1;.r 9<|.r 2<|.f (aB true) [] (aB true) (by exact Sub.of_eq (by first | rfl | exact congrArg aB (Qaw.2 (by rw [Qcf (Qaw.2 kid)])) | (refine congrArg aB ?_;simp_all;done))))
 <| fun q1=>have q1:=notF q1;have p1:=booT q1;have hgd:=Qaw.1 q1;have hfit:=Zfh oks hgd.1;have ms:MidS s:=Qxr hfit (by omega) (by have:=hgd.2.2.1;omega);have hx0:(Qag s).now.next<1152921504606847976:=(by have:=hgd.2.2.2.2.2;show (Qcj s s.stamp).next<_;omega);have T:TreeP (Qag s).now:=Qmz hgd.2.2.2.1 hgd.2.2.2.2.1;.r 1<|.call (Qo1 l hll okl)<|
 .r 3<|.br 24 (!(dP (Qfj l))) (fun q2=>have q2:=notT q2;have p2:=booF q2;.r 4<|.r 2<|.f (aB true) [] (aB true) (by exact Sub.of_eq (by first | rfl | exact congrArg aB (Qaw.2 (by rw [Qcf (Qaw.2 kid)])) | (refine congrArg aB ?_;simp_all;done))))
 <| fun q2=>have q2:=notF q2;have p2:=booT q2;have hsm:=Qaw.1 q2;have hl30:l.length≤30:=hsm.2;have ok:∀ c∈l,OkCal c:=fun c hc=>Qw1 hsm hc (okl c hc);.r 1<|.call (Qo1 o hlo oklo)<|
 .r 2<|.br 28 (!(dP (Qfj o))) (fun q3=>have q3:=notT q3;have p3:=booF q3;.r 2<|.f (aB true) [] (aB true) (by exact Sub.of_eq (by first | rfl | exact congrArg aB (Qaw.2 (by rw [Qcf (Qaw.2 kid)])) | (refine congrArg aB ?_;simp_all;done))))
 <| fun q3=>have q3:=notF q3;have p3:=booT q3;have hsmo:=Qaw.1 q3;have ho30:o.length≤30:=hsmo.2;have oko:∀ c∈o,OkCal c:=fun c hc=>Qw1 hsmo hc (oklo c hc);have txo:∀ c∈o,c.text.length≤500000:=fun c hc=>(by have:=(Zb5 hsmo hc).2.2;omega);have rp:=Zhs oks hgd ho30 oko;have mo:MidS (runD s o):=Qxr rp.2 (by omega) (by have h:=(Za0 hfit (Qeg (Qen oks) T (by omega) oko hx0 (Nat.zero_le _) (k:=o.length) (Nat.le_refl _)).ok (by rw [(Qeg (Qen oks) T (by omega) oko hx0 (Nat.zero_le _) (k:=o.length) (Nat.le_refl _)).was];exact T.rows) (Qeg (Qen oks) T (by omega) oko hx0 (Nat.zero_le _) (k:=o.length) (Nat.le_refl _)).now.tree.rows (by have:=hgd.2.2.1;omega) (by omega)).2;rw [List.take_length] at h;have:=hgd.2.2.1;unfold runD;omega);.u 1 [b1]<|
 .call (Qek s oks (by have:=hfit.l;omega))<|
 .new fun b2=>.u 1 [b2]<|
 .r 1<|let L1:Lp (Nat):=⟨fun a1=>⟨[(1,.sl 8 false (o.map calA)),(2,.sl 8 false (l.map calA)),(3,.ptr 3 b1 0),(7,aB true),(8,.ptr 8 b2 0),(9,aI (a1:Int))],[(3,.box b1 25 (stoA s)),(8,.box b2 31 [aI ((idT (Qag s) (l.take a1)).stamp),.sl 5 false ((idT (Qag s) (l.take a1)).was.l.map nodA),aI ((idT (Qag s) (l.take a1)).was.next),.sl 5 false ((idT (Qag s) (l.take a1)).now.l.map nodA),aI ((idT (Qag s) (l.take a1)).now.next),.sl 1 false ((idT (Qag s) (l.take a1)).looks.map intA)])]⟩,fun a1=>l.length-a1,fun a1=>a1≤l.length⟩
 .lp L1 0 (show 0≤l.length from Nat.zero_le _) [(9,aI 0)] [(8,.box b2 31 [aI ((Qag s).stamp),.sl 5 false ((Qag s).was.l.map nodA),aI ((Qag s).was.next),.sl 5 false ((Qag s).now.l.map nodA),aI ((Qag s).now.next),.sl 1 false ((Qag s).looks.map intA)])] ⟨sR,sR,sR,sR,sR,sO,trivial⟩ ⟨sB,⟨_,rfl,SubB.of_eq rfl⟩,trivial⟩ fun a1 ha1=>
 (fun (k:Nat) (hH1:k≤l.length)=>have ki:=Zen (t:=Qag s) (l:=l) k (by omega);have kl:=ki.len;have kl0:(Qag s).looks.length=0:=rfl;have kok:OkT (idT (Qag s) (l.take k)):=⟨by rw [ki.stamp];exact (Qen oks).stamp,by rw [ki.was];exact (Qen oks).was,by rw [ki.now];exact (Qen oks).now,by omega⟩;have kid:(idT (Qag s) (l.take k)).was=(idT (Qag s) (l.take k)).now:=(by rw [ki.was,ki.now];rfl);have krw:Qar (idT (Qag s) (l.take k)).now:=(by rw [ki.now];exact T.rows);.r 3<|.lm 34 l calA<|.r 1<|.bd 35 ((k:Int)<(l.length:Int)) (fun p4=>.r 2<|.idxM l calA k (m:=(k:Int)) rfl (by omega) fun x1 hx1=>
 .r 4<|.bd 44 (x1.kind≤3) (fun p5=>.r 8<|.r 1<|.ord [0,1,2,3,4,5,6,7,8,9]<|.u 3 [b2]<|
 .idx k (m:=(k:Int)) (xs:=l.map calA) (e:=calA x1) rfl (map_some hx1)<|
 .r 1<|.call (Qjp (idT (Qag s) (l.take k)) x1 kok.now (ok x1 (List.mem_of_getElem? hx1)) krw (by rw [ki.now];omega) (by omega))<|
 .u 4 [b2]<|
 .run 3 [rng .i64 ((k:Int)+1)] ⟨Qak (by omega) (by omega),trivial⟩<|
 .bk L1 k (k+1) (show (k+1)≤l.length from (by show _≤_;omega)) (show l.length-(k+1)<l.length-k from (by omega)) [(9,aI ((k:Int)+1))] [(8,.box b2 31 [aI ((Qbo (idT (Qag s) (l.take k)) x1).stamp),.sl 5 false ((Qbo (idT (Qag s) (l.take k)) x1).was.l.map nodA),aI ((Qbo (idT (Qag s) (l.take k)) x1).was.next),.sl 5 false ((Qbo (idT (Qag s) (l.take k)) x1).now.l.map nodA),aI ((Qbo (idT (Qag s) (l.take k)) x1).now.next),.sl 1 false ((Qbo (idT (Qag s) (l.take k)) x1).looks.map intA)])] ⟨sR,sR,sR,sR,sR,sO,trivial⟩ ⟨sB,⟨_,rfl,SubB.of_eq (by rw [Ze1 hx1 (.inl p5)])⟩,trivial⟩)
 <| fun p5=>.r 2<|.idx k (m:=(k:Int)) (xs:=l.map calA) (e:=calA x1) rfl (map_some hx1)<|
 .r 5<|.r 1<|.bd 52 (x1.kind≥13) (fun p6=>.ord [0,1,2,3,4,5,6,7,8,9]<|.u 3 [b2]<|
 .idx k (m:=(k:Int)) (xs:=l.map calA) (e:=calA x1) rfl (map_some hx1)<|
 .r 1<|.call (Qjp (idT (Qag s) (l.take k)) x1 kok.now (ok x1 (List.mem_of_getElem? hx1)) krw (by rw [ki.now];omega) (by omega))<|
 .u 4 [b2]<|
 .run 3 [rng .i64 ((k:Int)+1)] ⟨Qak (by omega) (by omega),trivial⟩<|
 .bk L1 k (k+1) (show (k+1)≤l.length from (by show _≤_;omega)) (show l.length-(k+1)<l.length-k from (by omega)) [(9,aI ((k:Int)+1))] [(8,.box b2 31 [aI ((Qbo (idT (Qag s) (l.take k)) x1).stamp),.sl 5 false ((Qbo (idT (Qag s) (l.take k)) x1).was.l.map nodA),aI ((Qbo (idT (Qag s) (l.take k)) x1).was.next),.sl 5 false ((Qbo (idT (Qag s) (l.take k)) x1).now.l.map nodA),aI ((Qbo (idT (Qag s) (l.take k)) x1).now.next),.sl 1 false ((Qbo (idT (Qag s) (l.take k)) x1).looks.map intA)])] ⟨sR,sR,sR,sR,sR,sO,trivial⟩ ⟨sB,⟨_,rfl,SubB.of_eq (by rw [Ze1 hx1 (.inr p6)])⟩,trivial⟩)
 <| fun p6=>.run 3 [rng .i64 ((k:Int)+1)] ⟨Qak (by omega) (by omega),trivial⟩<|
 .bk L1 k (k+1) (show (k+1)≤l.length from (by show _≤_;omega)) (show l.length-(k+1)<l.length-k from (by omega)) [(9,aI ((k:Int)+1))] [(8,.box b2 31 [aI ((idT (Qag s) (l.take k)).stamp),.sl 5 false ((idT (Qag s) (l.take k)).was.l.map nodA),aI ((idT (Qag s) (l.take k)).was.next),.sl 5 false ((idT (Qag s) (l.take k)).now.l.map nodA),aI ((idT (Qag s) (l.take k)).now.next),.sl 1 false ((idT (Qag s) (l.take k)).looks.map intA)])] ⟨sR,sR,sR,sR,sR,sO,trivial⟩ ⟨sB,⟨_,rfl,SubB.of_eq (by rw [id_no hx1 (fun e=>e.elim p5 p6)])⟩,trivial⟩)
 <| fun p4=>.u 2 [b1]<|
 .call (Zch s o ms hgd.2.1 T hgd.2.2.2.1 ho30 oko txo hx0)<|
 .r 3<|.new fun b3=>.u 2 [b3]<|
 .u 2 [b3,b2]<|
 .call (Qjf (runD s o) (idT (Qag s) (l.take k)) mo kok (by rw [kid];exact krw) krw)<|
 .r 3<|.new fun b4=>.u 2 [b4]<|
 .u 3 [b2]<|
 .call (Qnu (idT (Qag s) (l.take k)) kok)<|
 .r 2<|.is 79 (show (dP ((idT (Qag s) (l.take k)).was=(idT (Qag s) (l.take k)).now))=true from (Qaw.2 kid))<|.r 4<|.is 83 (show (((Qbm (runD s o) (idT (Qag s) (l.take k))).2)==0)=true from (by rw [Qcf (Qaw.2 kid)];rfl))<|.u 2 [b4,b3]<|
 .call (Qzl (Qbm (runD s o) (idT (Qag s) (l.take k))).1 (runD s o) (by rw [Qcf (Qaw.2 kid)];exact rp.2.ok) rp.2.ok)<|
 .r 2<|.f (aB true) [] (aB (dP ((Qbm (runD s o) (idT (Qag s) (l.take k))).1=(runD s o)))) (by exact Sub.of_eq (by first | rfl | exact congrArg aB (Qaw.2 (by rw [Qcf (Qaw.2 kid)])) | (refine congrArg aB ?_;simp_all;done)))) a1 ha1)
end Go.Proofs.YtahlldgocpabjaaGreat

namespace Copyhold
open Go Go.RowKit Go.ChangeShapes Go.WideShapes Go.ChangeAt Go.Deep
structure Opn {α:Type} (P:Program) (W:World) (t:TypeId) (en:α→List AV) (ok:α→Prop):Prop where
 run:∀ (H:Type) (enc:TypeId × Value→H) (fuel:Nat) (cs:List Value) (x:DataW H × List MemPlace),
  DataW.trod enc P W 0 (fun _=>true) true fuel t cs=some x→(∀ p∈x.2,p.block<W.heap.size)→(∀ n∈DataW.weights P t x.1,n≤140737488351232) →
  ∃ a,Qkx (·<W.heap.size) W (en a) cs∧(∀ u∈cs,u.oneCell'=true)∧ok a
section
variable {P:Program} {W:World} {t:TypeId}
theorem Opn.map {α β:Type} {en:α→List AV} {ok:α→Prop} {en':β→List AV} {ok':β→Prop} (h:Opn P W t en ok) (f:α→β) (he:∀ a,en' (f a)=en a) (ho:∀ a,ok a→ok' (f a)):Opn P W t en' ok':=Opn.mk fun H enc fuel cs x h1 h2 h3=>by
 obtain ⟨a,g1,g2,g3⟩:=h.run H enc fuel cs x h1 h2 h3;exact ⟨f a,by rw [he];exact g1,g2,ho a g3⟩
theorem Qkp {D:Nat→Prop} {w:World} {a:AV} {v:Value} (h:Ra D w a v):Qkx D w [a] [v]:=⟨rfl,fun j x u hx hu=>by
 match j,hx,hu with
 | 0,hx,hu=>simp at hx hu;subst hx hu;exact h
 | j+1,hx,_=>simp at hx⟩
theorem wf_i64 {z:Int} (w:(Lit.int .i64 z).wf=true):-9223372036854775808≤z∧z≤9223372036854775807:=by
 simpa [Lit.wf,IntKind.min,IntKind.max,IntKind.signed,IntKind.bits] using w
theorem Qdx (hu:P.underlying t=some (.int .i64)):Opn P W t (fun n:Int=>[aI n]) (fun n=>-9223372036854775808≤n∧n≤9223372036854775807):=Opn.mk fun H enc fuel cs x h1 h2 h3=>by
 obtain ⟨n,rfl,rfl,hw⟩:=DataW.trod_int hu h1;exact ⟨n,Qkp (.val _),fun u hu=>by obtain rfl:=List.mem_singleton.1 hu;rfl,wf_i64 hw⟩
theorem Zif (hu:P.underlying t=some .bool):Opn P W t (fun n:Bool=>[aB n]) (fun _=>True):=Opn.mk fun H enc fuel cs x h1 h2 h3=>by
 obtain ⟨n,rfl,rfl⟩:=DataW.trod_bool hu h1;exact ⟨n,Qkp (.val _),fun u hu=>by obtain rfl:=List.mem_singleton.1 hu;rfl,trivial⟩
theorem Qgg (hu:P.underlying t=some .string):Opn P W t (fun n:List UInt8=>[aS n]) (fun n=>n.length≤140737488351232):=Opn.mk fun H enc fuel cs x h1 h2 h3=>by
 obtain ⟨s,rfl,rfl,_⟩:=DataW.trod_string hu h1;exact ⟨s.data.toList,Qkp (.val _),fun u hu=>by obtain rfl:=List.mem_singleton.1 hu;rfl,h3 _ (by simp [DataW.weights])⟩
theorem Qht {α:Type} {en:α→List AV} {ok:α→Prop} {e:TypeId} {k:Nat} (h:Opn P W e en ok) (a0:α) (hu:P.underlying t=some (.slice e)) (hc:P.cellsOf e=k) (hk:0<k) (hb:16≤P.bytesOf e) :
  Opn P W t (fun l:List α=>[.sl k false (l.map en)]) (fun l=>l.length≤8796093022207∧∀ a∈l,ok a):=Opn.mk fun H enc fuel cs x h1 h2 h3=>by
 obtain ⟨v,rs,rfl,hr,hd⟩:=Qqj (k:=k) (R:=fun a cs=>Qkx (·<W.heap.size) W (en a) cs∧(∀ u∈cs,u.oneCell'=true)∧ok a) hu hc hk a0 (fun n cs' y hy hl hcl hww=>h.run H enc n cs' y hy hl hww) h1 h2 h3;have hsz:=Qzn hu hd h3;have:=Nat.le_trans (Nat.mul_le_mul_left rs.length hb) hsz;have hra:Ra (·<W.heap.size) W (.sl k false (rs.map en)) v:=Qz4 hr (·<W.heap.size) (fun _ h=>h) (fun a _ cs _ hR=>⟨hR.2.1,hR.1⟩);obtain ⟨A,c,rfl⟩:=hr.shape;refine ⟨rs,Qkp hra,fun u hu=>by obtain rfl:=List.mem_singleton.1 hu;rfl,by omega,fun a ha=>?_⟩;obtain ⟨css,g1,g2,g3⟩:=hr;obtain ⟨i,hi,rfl⟩:=List.mem_iff_getElem.1 ha;exact (g3 i _ _ (List.getElem?_eq_getElem (by omega)) (List.getElem?_eq_getElem hi)).2.2.2
structure OpnFs {γ:Type} (P:Program) (W:World) (N:Nat) (fs:List Field) (off:Nat) (en:γ→List AV) (ok:γ→Prop):Prop where
 run:∀ (H:Type) (enc:TypeId × Value→H) (m:Nat) (cs:List Value) (xs:List (DataW H × List MemPlace)),cs.length=N→xs.length=fs.length →
  (∀ (i:Nat) (f:Field),fs[i]?=some f→DataW.trod enc P W 0 (fun _=>true) true m f.type ((cs.drop f.offset).take (P.cellsOf f.type))=xs[i]?) →
  (∀ x∈xs,∀ p∈x.2,p.block<W.heap.size)→(∀ n∈DataW.weightsEach P (fs.map (·.type)) (xs.map (·.1)),n≤140737488351232) →
  ∃ g,Qkx (·<W.heap.size) W (en g) (cs.drop off)∧(∀ u∈cs.drop off,u.oneCell'=true)∧ok g
theorem Qg0 (N:Nat):OpnFs P W N [] N (fun _:Unit=>[]) (fun _=>True):=OpnFs.mk fun H enc m cs xs h1 h2 h3 h4 h5=>by
 have:cs.drop N=[]:=List.drop_eq_nil_of_le (by omega);rw [this];exact ⟨(),⟨rfl,fun j a u ha=>by simp at ha⟩,fun u hu=>by simp at hu,trivial⟩
theorem Qty {D:Nat→Prop} {w:World} {xs ys:List AV} {cs ds:List Value} (h:Qkx D w xs cs) (k:Qkx D w ys ds):Qkx D w (xs++ys) (cs++ds):=by
 refine ⟨by simp [h.1,k.1],fun j a u ha hu=>?_⟩;by_cases hj:j<xs.length
 ·rw [List.getElem?_append_left hj] at ha;rw [List.getElem?_append_left (by rw [h.1];exact hj)] at hu;exact h.2 j a u ha hu
 ·rw [List.getElem?_append_right (by omega)] at ha;rw [List.getElem?_append_right (by rw [h.1];omega),h.1] at hu;exact k.2 _ a u ha hu
theorem Qbl {α γ:Type} {N off k:Nat} {f:Field} {fs:List Field} {en:α→List AV} {ok:α→Prop} {en2:γ→List AV} {ok2:γ→Prop} (h:Opn P W f.type en ok) (ho:f.offset=off) (hk:P.cellsOf f.type=k)
  (hr:OpnFs P W N fs (off+k) en2 ok2):OpnFs P W N (f :: fs) off (fun g:α × γ=>en g.1++en2 g.2) (fun g=>ok g.1∧ok2 g.2):=OpnFs.mk fun H enc m cs xs h1 h2 h3 h4 h5=>by
 obtain ⟨x0,xr,rfl⟩:∃ a r,xs=a :: r:=by
  cases xs with
  | nil=>simp at h2
  | cons a r=>exact ⟨a,r,rfl⟩
 have g0:=h3 0 f rfl;rw [ho,hk] at g0;simp only [List.map_cons,DataW.weightsEach] at h5;obtain ⟨a,ha,ha2,ha3⟩:=h.run H enc m _ x0 (by simpa using g0) (h4 x0 (by simp)) (fun n hn=>h5 n (by simp [hn]));obtain ⟨g,hg,hg2,hg3⟩:=hr.run H enc m cs xr h1 (by simpa using h2) (fun i f' hf=>by have:=h3 (i+1) f' (by simpa using hf);simpa using this) (fun x hx=>h4 x (by simp [hx])) (fun n hn=>h5 n (by simp [hn]));have e:cs.drop off=(cs.drop off).take k++cs.drop (off+k):=by
  rw [← List.drop_drop,List.take_append_drop]
 refine ⟨(a,g),?_,?_,ha3,hg3⟩
 ·rw [e];exact Qty ha hg
 ·intro u hu;rw [e] at hu;rcases List.mem_append.1 hu with h | h
  ·exact ha2 u h
  ·exact hg2 u h
theorem Qee {γ:Type} {N:Nat} {fs:Array Field} {en:γ→List AV} {ok:γ→Prop} (hu:P.underlying t=some (.struct fs)) (hc:P.cellsOf t=N) (h:OpnFs P W N fs.toList 0 en ok):Opn P W t en ok:=Opn.mk fun H enc fuel cs x h1 h2 h3=>by
 obtain ⟨xs,m,_,rfl,hl,hlen,hfl⟩:=DataW.trod_struct hu h1;obtain ⟨g,g1,g2,g3⟩:=h.run H enc m cs xs (by rw [hl,hc]) (by simpa using hlen) (fun i f hf=>hfl i f (by simpa using hf)) (fun x hx p hp=>h2 p (by simp only [List.mem_flatMap];exact ⟨x,hx,hp⟩))
  (fun n hn=>h3 n (by simp only [DataW.weights,hu];exact hn))
 exact ⟨g,by simpa using g1,by simpa using g2,g3⟩
theorem Zbc {α:Type} {en:α→List AV} {ok:α→Prop} {fs:Array Field} {H:Type} {enc:TypeId × Value→H} {base:Nat} {v:Value} {d:DataW H} {p:List MemPlace} (h:Opn P W t en ok) (hu:P.underlying t=some (.struct fs)) (hv:Value.okWide P W .any base t v)
  (ht:∃ fuel,DataW.trod enc P W 0 (fun _=>true) true fuel t v.cells.toList=some (d,p)) (hlt:∀ x∈p,x.block<W.heap.size) (hw:∀ n∈DataW.weights P t d,n≤140737488351232):∃ a,Ra (·<W.heap.size) W (.agg (en a)) v∧ok a:=by
 obtain ⟨cs,rfl,_⟩:=okWide_struct hu hv;obtain ⟨fuel,ht⟩:=ht;obtain ⟨a,g1,g2,g3⟩:=h.run H enc fuel _ _ ht hlt hw;refine ⟨a,.agg _ _ (by have:=g1.1;simp [Value.cells] at this;omega) (fun j u hj=>g2 u (by have:=Array.mem_of_getElem? hj;simpa [Value.cells] using this)) (fun j x u hx hj=>g1.2 j x u hx (by simpa [Value.cells] using hj)),g3⟩
theorem Qua {α:Type} {x:α→AV} {ok:α→Prop} {e:TypeId} {H:Type} {enc:TypeId × Value→H} {base:Nat} {v:Value} {d:DataW H} {p:List MemPlace} (h:Opn P W t (fun a=>[x a]) ok) (hu:P.underlying t=some (.slice e)) (hv:Value.okWide P W .any base t v)
  (ht:∃ fuel,DataW.trod enc P W 0 (fun _=>true) true fuel t v.cells.toList=some (d,p)) (hlt:∀ x∈p,x.block<W.heap.size) (hw:∀ n∈DataW.weights P t d,n≤140737488351232):∃ a,Ra (·<W.heap.size) W (x a) v∧ok a:=by
 obtain ⟨A,l,c,rfl⟩:=okWide_slice hu hv;obtain ⟨fuel,ht⟩:=ht;obtain ⟨a,g1,g2,g3⟩:=h.run H enc fuel _ _ ht hlt hw;exact ⟨a,g1.2 0 _ _ rfl rfl,g3⟩
def RaL (D:Nat→Prop) (w:World):List AV→List Value→Prop
 | [],[]=>True
 | x :: xs,v :: vs=>Ra D w x v∧RaL D w xs vs
 | _,_=>False
theorem Zki {D:Nat→Prop} {w:World}:∀ (xs:List AV) (vs:List Value),RaL D w xs vs→Qdc D w xs vs.toArray
 | [],[],_=>⟨rfl,fun j a u ha=>by simp at ha⟩
 | x :: xs,v :: vs,h=>by
  have ih:=Zki xs vs h.2;refine ⟨by have:=ih.1;simp at this ⊢;exact this,fun j a u ha hu=>?_⟩;cases j with
  | zero=>simp at ha hu;subst ha hu;exact h.1
  | succ j=>exact ih.2 j a u (by simpa using ha) (by simpa using hu)
 | [],_ :: _,h=>h.elim
 | _ :: _,[],h=>h.elim
theorem Zaj {f:FuncId} {args:List AV} {vs:Array Value} {w:World} (h:Qah P f args (aB true)) (hv:Qdc (·<w.heap.size) w args vs) :
  Calls P f vs w (fun e w'=>e=.returned (.bool true)∧Below w.heap.size w w'):=by
 refine (h _ w vs (fun _ h=>h) hv).mono ?_;rintro e w' ⟨v,D',rfl,hb,_,_,hr⟩;cases hr;exact ⟨rfl,hb⟩
end
end Copyhold

namespace Go.Proofs.YtahlldgocpabjaaGreat
open Go Go.RowKit Copyhold Go.Proofs.Tryz
theorem Zme (W:World):Opn prog W 128 entA OkE:=
 (Qee (N:=2) Tryz.underlying128 (by kernel_rfl) (Qbl (k:=1) (Qgg Tryz.underlying9) rfl (by kernel_rfl) (Qbl (k:=1) (Qdx Tryz.underlying3) rfl (by kernel_rfl) (Qg0 2)))).map (fun g=>⟨g.1,g.2.1⟩) (fun _=>rfl) (fun a h=>⟨h.1,h.2.1⟩)
theorem Zic (W:World):Opn prog W 82 (fun l:List (Ent)=>[.sl 2 false (l.map entA)]) (fun l=>l.length≤8796093022207∧∀ a∈l,OkE a):=Qht (Zme W) (⟨[],0⟩) Tryz.underlying82 (by kernel_rfl) (by decide) (Nat.le_of_ble_eq_true (by kernel_rfl))
theorem Zmd (W:World):Opn prog W 84 nodA OkN:=
 (Qee (N:=5) Tryz.underlying84 (by kernel_rfl) (Qbl (k:=1) (Qdx Tryz.underlying3) rfl (by kernel_rfl) (Qbl (k:=1) (Qdx Tryz.underlying3) rfl (by kernel_rfl) (Qbl (k:=1) (Qdx Tryz.underlying3) rfl (by kernel_rfl) (Qbl (k:=1) (Qgg Tryz.underlying9) rfl (by kernel_rfl) (Qbl (k:=1) (Zic W) rfl (by kernel_rfl) (Qg0 5))))))).map (fun g=>⟨g.1,g.2.1,g.2.2.1,g.2.2.2.1,g.2.2.2.2.1⟩) (fun _=>rfl) (fun a h=>⟨h.1,h.2.1,h.2.2.1,h.2.2.2.1,h.2.2.2.2.1.1,h.2.2.2.2.1.2⟩)
end Go.Proofs.YtahlldgocpabjaaGreat

namespace Go.Proofs.YtahlldgocpabjaaGreat
open Go Go.RowKit Copyhold Go.Proofs.Tryz
theorem Zmb (W:World):Opn prog W 100 verA OkV:=
 (Qee (N:=7) Tryz.underlying100 (by kernel_rfl) (Qbl (k:=1) (Qdx Tryz.underlying3) rfl (by kernel_rfl) (Qbl (k:=1) (Zif Tryz.underlying4) rfl (by kernel_rfl) (Qbl (k:=5) (Zmd W) rfl (by kernel_rfl) (Qg0 7))))).map (fun g=>⟨g.1,g.2.1,g.2.2.1⟩) (fun _=>rfl) (fun a h=>⟨h.1,h.2.2.1⟩)
theorem Zib (W:World):Opn prog W 96 (fun l:List (Ver)=>[.sl 7 false (l.map verA)]) (fun l=>l.length≤8796093022207∧∀ a∈l,OkV a):=Qht (Zmb W) (⟨0,false,⟨0,0,0,[],[]⟩⟩) Tryz.underlying96 (by kernel_rfl) (by decide) (Nat.le_of_ble_eq_true (by kernel_rfl))
theorem Zmg (W:World):Opn prog W 98 chnA OkC:=
 (Qee (N:=2) Tryz.underlying98 (by kernel_rfl) (Qbl (k:=1) (Qdx Tryz.underlying3) rfl (by kernel_rfl) (Qbl (k:=1) (Zib W) rfl (by kernel_rfl) (Qg0 2)))).map (fun g=>⟨g.1,g.2.1⟩) (fun _=>rfl) (fun a h=>⟨h.1,h.2.1.1,h.2.1.2⟩)
theorem Zie (W:World):Opn prog W 22 (fun l:List (Chn)=>[.sl 2 false (l.map chnA)]) (fun l=>l.length≤8796093022207∧∀ a∈l,OkC a):=Qht (Zmg W) (⟨0,[]⟩) Tryz.underlying22 (by kernel_rfl) (by decide) (Nat.le_of_ble_eq_true (by kernel_rfl))
theorem Zmf (W:World):Opn prog W 95 cntA OkK:=
 (Qee (N:=2) Tryz.underlying95 (by kernel_rfl) (Qbl (k:=1) (Qdx Tryz.underlying3) rfl (by kernel_rfl) (Qbl (k:=1) (Qdx Tryz.underlying3) rfl (by kernel_rfl) (Qg0 2)))).map (fun g=>⟨g.1,g.2.1⟩) (fun _=>rfl) (fun a h=>⟨h.1,h.2.1⟩)
theorem Zid (W:World):Opn prog W 23 (fun l:List (Cnt)=>[.sl 2 false (l.map cntA)]) (fun l=>l.length≤8796093022207∧∀ a∈l,OkK a):=Qht (Zmf W) (⟨0,0⟩) Tryz.underlying23 (by kernel_rfl) (by decide) (Nat.le_of_ble_eq_true (by kernel_rfl))
theorem Zmc (W:World):Opn prog W 25 stoA OkS:=
 (Qee (N:=3) Tryz.underlying25 (by kernel_rfl) (Qbl (k:=1) (Zie W) rfl (by kernel_rfl) (Qbl (k:=1) (Zid W) rfl (by kernel_rfl) (Qbl (k:=1) (Qdx Tryz.underlying3) rfl (by kernel_rfl) (Qg0 3))))).map (fun g=>⟨g.1,g.2.1,g.2.2.1⟩) (fun _=>rfl) (fun a h=>⟨h.2.2.1,h.1.1,h.2.1.1,h.1.2,h.2.1.2⟩)
theorem Zmh (W:World):Opn prog W 33 calA OkC0:=
 (Qee (N:=8) Tryz.underlying33 (by kernel_rfl) (Qbl (k:=1) (Qdx Tryz.underlying3) rfl (by kernel_rfl) (Qbl (k:=1) (Qdx Tryz.underlying3) rfl (by kernel_rfl) (Qbl (k:=1) (Qdx Tryz.underlying3) rfl (by kernel_rfl) (Qbl (k:=1) (Qdx Tryz.underlying3) rfl (by kernel_rfl) (Qbl (k:=1) (Qdx Tryz.underlying3) rfl (by kernel_rfl) (Qbl (k:=1) (Qgg Tryz.underlying9) rfl (by kernel_rfl) (Qbl (k:=1) (Qgg Tryz.underlying9) rfl (by kernel_rfl) (Qbl (k:=1) (Qgg Tryz.underlying9) rfl (by kernel_rfl) (Qg0 8)))))))))).map (fun g=>⟨g.1,g.2.1,g.2.2.1,g.2.2.2.1,g.2.2.2.2.1,g.2.2.2.2.2.1,g.2.2.2.2.2.2.1,g.2.2.2.2.2.2.2.1⟩) (fun _=>rfl) (fun a h=>⟨h.1,h.2.1,h.2.2.1,h.2.2.2.1,h.2.2.2.2.1,h.2.2.2.2.2.1,h.2.2.2.2.2.2.1,h.2.2.2.2.2.2.2.1⟩)
theorem Qxh (W:World):Opn prog W 39 (fun l:List (Cal)=>[.sl 8 false (l.map calA)]) (fun l=>l.length≤8796093022207∧∀ a∈l,OkC0 a):=Qht (Zmh W) (⟨0,0,0,0,0,[],[],[]⟩) Tryz.underlying39 (by kernel_rfl) (by decide) (Nat.le_of_ble_eq_true (by kernel_rfl))
end Go.Proofs.YtahlldgocpabjaaGreat
