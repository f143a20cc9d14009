import Derived.Test.YtkhodpknpligpaaGreatAl
import Derived.Test.YtkhodpknpligpaaGreatMrgAD
import Derived.Test.YtkhodpknpligpaaGreatMrgF
import Derived.Test.YtkhodpknpligpaaGreatMrgG
import Derived.Test.YtkhodpknpligpaaGreatRows
import Derived.Test.YtkhodpknpligpaaGreatMrgT
import Derived.Test.YtkhodpknpligpaaGreatMrgZ
import Derived.Test.YtkhodpknpligpaaGreatMrgAC
set_option maxRecDepth 100000
set_option maxHeartbeats 8000000
set_option linter.unusedVariables false
set_option linter.unusedSimpArgs false
namespace Go.Proofs.YtkhodpknpligpaaGreat
open Go Go.RowKit Copyhold Go.Proofs.Tryz
noncomputable def sA0:Hos:=⟨newS,[],[],0,5⟩
noncomputable def oA1:Udw:=⟨1,1,1,0,Qas newS,rp0,5⟩
noncomputable def sA1:Hos:=⟨newS,[],[oA1],0,5⟩
noncomputable def oA2:Udw:=⟨1,1,1,1,tA,rA,5⟩
noncomputable def sA2:Hos:=⟨newS,[],[oA2],0,5⟩
noncomputable def sA3:Hos:=⟨kA,[⟨1,1,0,[(1,true)]⟩],[],0,5⟩
def cal0:Cal:=⟨0,0,0,0,0,[],[],[]⟩
def mA1:Msg:=⟨1,1,1,1,0,0,cal0⟩
def mA2:Msg:=⟨2,1,1,1,1,1,cA⟩
def mA3:Msg:=⟨3,1,1,1,1,1,cA⟩
def mA4:Msg:=⟨5,1,1,1,1,1,cA⟩
theorem Znc:OkCal cal0:=⟨i0,i0,i0,i0,i0,W0j _,W0j _,W0j _⟩
theorem sml (z:Int) (h1:0≤z) (h2:z≤10):I64 z:=⟨by omega,by omega⟩
theorem okA (s:Sto) (rows:List TRow) (l:List Udw) (hs:MidS s) (hr:rows=[]∨rows=[⟨1,1,0,[(1,true)]⟩]) (hl:l.length≤1) (ho:∀ o∈l,OkOp o):OkH ⟨s,rows,l,0,5⟩:=by
 refine ⟨hs,?_,?_,?_,by show l.length≤_;omega,ho,⟨by show -4611686018427387000≤(0:Int);decide,by show (0:Int)≤4611686018427387000;decide⟩,⟨by show -4611686018427387000≤(5:Int);decide,by show (5:Int)≤4611686018427387000;decide⟩⟩
 ·rcases hr with rfl | rfl
  ·exact ⟨W0j _,fun r hr=>by cases hr⟩
  ·refine ⟨by show 1≤100000;decide,fun r hr=>?_⟩;obtain rfl:=W0z.1 hr;exact ⟨⟨⟨by decide,by decide⟩,⟨by decide,by decide⟩,⟨by decide,by decide⟩⟩,by decide,fun d hd=>by obtain rfl:=W0z.1 hd;exact ⟨by decide,by decide⟩⟩
 ·rcases hr with rfl | rfl
  ·exact W0j _
  ·show 1≤80000;decide
 ·intro r h;rcases hr with rfl | rfl
  ·cases h
  ·obtain rfl:=W0z.1 h;decide
theorem oA1_ok:OkOp oA1:=⟨sml 1 (by decide) (by decide),sml 1 (by decide) (by decide),sml 1 (by decide) (by decide),sml 0 (by decide) (by decide),sml 5 (by decide) (by decide),Qx3 Zcq,W0j _,Qex,Qex,by decide⟩
theorem oA2_ok:OkOp oA2:=⟨sml 1 (by decide) (by decide),sml 1 (by decide) (by decide),sml 1 (by decide) (by decide),sml 1 (by decide) (by decide),sml 5 (by decide) (by decide),tA_ok,by have:=Zjz;show tA.looks.length≤_;omega,by show Qat tA.was;rw [fA_was];exact Qex,by show Qat tA.now;rw [Zkm];exact Qf1.1,by show tA.now.next<_;rw [Zkm,Qf1.2.2.1];decide⟩
theorem okA0:OkH sA0:=okA _ _ _ Qp3 (.inl rfl) (W0j _) (fun o h=>by cases h)
theorem okA1:OkH sA1:=okA _ _ _ Qp3 (.inl rfl) (W0m _) (fun o h=>by obtain rfl:=W0z.1 h;exact oA1_ok)
theorem okA2:OkH sA2:=okA _ _ _ Qp3 (.inl rfl) (W0m _) (fun o h=>by obtain rfl:=W0z.1 h;exact oA2_ok)
theorem okA3:OkH sA3:=okA _ _ _ kA_mid (.inr rfl) (W0j _) (fun o h=>by cases h)
theorem unA1:Qad sA1 mA2=(oA1,true):=rfl
theorem unA2:Qad sA2 mA3=(oA2,true):=rfl
theorem ansA1:ansH sA0 mA1=(sA1,repS 1,0):=rfl
theorem commA:Qa6 newS tA=(kA,0):=by
 rw [Qf4 (Qaa.2 tA_not) (Qaa.2 ?_)]
 ·rw [Qyk];show (Qea newS (Qbi newF fA) fA.next,(0:Int))=(kA,0)
  rw [Qf1.2.2.1];rfl
 ·rintro ⟨x,hx,_⟩;rw [Qyk] at hx;rw [show (⟨1,newF,fA,Qda ([]++Qcr newF cA)⟩:Txn).stamp=newS.stamp from rfl,Qyr Qze] at hx;cases hx
theorem ansA2:ansH sA1 mA2=(sA2,rA,0):=by
 rw [Qf8 (h:=sA1) (m:=mA2) rfl (by decide) (by decide),Zeh rfl,show Qcv sA1 mA2=_ from (W1w (by rw [unA1];intro c;cases c)).trans ((W1w (by rw [unA1];intro c;cases c)).trans ((W1w (by rw [unA1];intro c;cases c)).trans (W1w (by rw [unA1];exact fun c=>c rfl))))];have e:(doF (Qas newS).now cA).2=rA:=by rw [Qon,doA1];rfl
 have e1:Qdn sA1 mA2=oA2:=by
  unfold Qdn;rw [unA1];show (⟨1,1,1,1,tA,(doF (Qas newS).now cA).2,5⟩:Udw)=_;rw [e];rfl
 rw [e1,unA1];show (_,(doF (Qas newS).now cA).2,(0:Int))=_;rw [e];rfl
theorem ansA3:ansH sA2 mA3=(sA3,rp0,0):=by
 rw [Qf8 (h:=sA2) (m:=mA3) rfl (by decide) (by decide),Zeg rfl,show Qb2 sA2 mA3=_ from W1w (by rw [unA2];rintro (c | c | c);(· cases c);(· unfold oldH at c;rw [unA2] at c;cases c);exact c rfl),unA2];show ((decH sA2 mA3 (Qa6 newS tA).1 ((Qa6 newS tA).2==0) false).1,rp0,(decH sA2 mA3 (Qa6 newS tA).1 ((Qa6 newS tA).2==0) false).2)=_;rw [commA];rfl
theorem ansA4:ansH sA3 mA4=(sA3,rp0,0):=rfl
theorem Qqc {h k:Hos} {m:Msg} {r:Rep} (okh:OkH h) (okm:OkCal m.c) (e:ansH h m=(k,r,0)):Qag prog 27 [.agg (hosA h),.agg (msgA m)] (.tup [.agg (hosA k),.agg (rspA ⟨m.kind,m.client,m.epoch,m.seq,m.n,r⟩)]):=by
 have g:=Qh9 h m okh okm;have e2:rspH h m=⟨m.kind,m.client,m.epoch,m.seq,m.n,r⟩:=by unfold rspH;rw [e];rfl
 rw [e2,e] at g;exact g
def rsA (m:Msg) (r:Rep):Rsp:=⟨m.kind,m.client,m.epoch,m.seq,m.n,r⟩
theorem Zcs:Qag prog 12 [aI 5] (.tup [.agg (hosA sA0),aI 0]):=Zdp 5
theorem Zlc :Qag prog 8 [] (aB true):=by
 exact Qac func8 (
 .r 1<|.call (Zcs)<|
 .r 3<|.new fun b1=>.u 2 [b1]<|
 .r 1<|.new fun b2=>.u 1 [b2]<|
 .u 2 [b1,b2]<|
 .cs (args0:=[.agg [.sl 2 false (sA0.s.l.map chnA),.sl 2 false (sA0.s.nexts.map cntA),aI sA0.s.stamp,.sl 4 false (sA0.rows.map trA),.sl 17 false (sA0.opens.map opA),aI sA0.now,aI sA0.lease],.agg [aI 1,aI 1,aI 1,aI 1,aI 0,aI 0,aI 0,aI 0,aI 0,aI 0,aI 0,aS ([]),aS ([]),aS ([])]]) (Qqc okA0 Znc ansA1) sr2<|
 .r 3<|.new fun b3=>.u 2 [b1,b3]<|
 .u 2 [b2]<|
 .u 5 [b3,b2]<|
 .u 2 [b2]<|
 .u 3 [b2]<|
 .u 2 [b1,b2]<|
 .cs (args0:=[.agg [.sl 2 false (sA1.s.l.map chnA),.sl 2 false (sA1.s.nexts.map cntA),aI sA1.s.stamp,.sl 4 false (sA1.rows.map trA),.sl 17 false (sA1.opens.map opA),aI sA1.now,aI sA1.lease],.agg [aI 2,aI 1,aI 1,aI 1,aI 1,aI ((rsA mA1 (repS 1)).r.a),aI 6,aI 1,aI 0,aI 0,aI 0,aS ([97]),aS ([]),aS ([])]]) (Qqc okA1 Znd ansA2) sr2<|
 .r 3<|.new fun b4=>.u 2 [b1,b4]<|
 .u 2 [b2]<|
 .u 2 [b1,b2]<|
 .cs (args0:=[.agg [.sl 2 false (sA2.s.l.map chnA),.sl 2 false (sA2.s.nexts.map cntA),aI sA2.s.stamp,.sl 4 false (sA2.rows.map trA),.sl 17 false (sA2.opens.map opA),aI sA2.now,aI sA2.lease],.agg [aI 3,aI 1,aI 1,aI 1,aI 1,aI ((rsA mA1 (repS 1)).r.a),aI 6,aI 1,aI 0,aI 0,aI 0,aS ([97]),aS ([]),aS ([])]]) (Qqc okA2 Znd ansA3) sr2<|
 .r 3<|.new fun b5=>.u 2 [b1,b5]<|
 .u 2 [b2]<|
 .u 2 [b1,b2]<|
 .cs (args0:=[.agg [.sl 2 false (sA3.s.l.map chnA),.sl 2 false (sA3.s.nexts.map cntA),aI sA3.s.stamp,.sl 4 false (sA3.rows.map trA),.sl 17 false (sA3.opens.map opA),aI sA3.now,aI sA3.lease],.agg [aI 5,aI 1,aI 1,aI 1,aI 1,aI ((rsA mA1 (repS 1)).r.a),aI 6,aI 1,aI 0,aI 0,aI 0,aS ([97]),aS ([]),aS ([])]]) (Qqc okA3 Znd ansA4) sr2<|
 .r 3<|.new fun b6=>.new fun b7=>.u 2 [b6,b7]<|
 .r 3<|.is 50 (show (0==0)=true from rfl)<|.u 6 [b3]<|
 .is 56 (show (((rsA mA1 (repS 1)).r.e)==0)=true from rfl)<|.u 6 [b4]<|
 .is 62 (show (((rsA mA2 rA).r.a)==2)=true from rfl)<|.u 6 [b5]<|
 .is 68 (show (((rsA mA3 rp0).r.e)==0)=true from rfl)<|.u 6 [b7]<|
 .is 74 (show (((rsA mA4 rp0).r.e)==0)=true from rfl)<|.u 6 [b1]<|
 .f (aB true) [] (aB (sA3.s.stamp==2)) (by exact W2n (W1y aB rfl)))
end Go.Proofs.YtkhodpknpligpaaGreat

namespace Copyhold
open Go Go.RowKit Go.ChangeShapes Go.WideShapes Go.ChangeAt Go.Deep
structure Opn {α:Type} (P:Program) (W:World) (t:TypeId) (en:α→List AV) (ok:α→Prop):Prop where
 run:∀ (H:Type) (enc:TypeId × Value→H) (fuel:Nat) (cs:List Value) (x:DataW H × List MemPlace),
  DataW.trod enc P W 0 (fun _=>true) true fuel t cs=some x→(∀ p∈x.2,p.block<W.heap.size)→(∀ n∈DataW.weights P t x.1,n≤140737488351232) →
  ∃ a,Qh3 (·<W.heap.size) W (en a) cs∧(∀ u∈cs,u.oneCell'=true)∧ok a
section
variable {P:Program} {W:World} {t:TypeId}
theorem Opn.map {α β:Type} {en:α→List AV} {ok:α→Prop} {en':β→List AV} {ok':β→Prop} (h:Opn P W t en ok) (f:α→β) (he:∀ a,en' (f a)=en a) (ho:∀ a,ok a→ok' (f a)):Opn P W t en' ok':=Opn.mk fun H enc fuel cs x h1 h2 h3=>by
 obtain ⟨a,g1,g2,g3⟩:=h.run H enc fuel cs x h1 h2 h3;exact ⟨f a,by rw [he];exact g1,g2,ho a g3⟩
theorem Qg2 {D:Nat→Prop} {w:World} {a:AV} {v:Value} (h:Ra D w a v):Qh3 D w [a] [v]:=⟨rfl,fun j x u hx hu=>by
 match j,hx,hu with
 | 0,hx,hu=>simp at hx hu;subst hx hu;exact h
 | j+1,hx,_=>simp at hx⟩
theorem wf_i64 {z:Int} (w:(Lit.int .i64 z).wf=true):-9223372036854775808≤z∧z≤9223372036854775807:=by
 simpa [Lit.wf,IntKind.min,IntKind.max,IntKind.signed,IntKind.bits] using w
theorem Qba (hu:P.underlying t=some (.int .i64)):Opn P W t (fun n:Int=>[aI n]) (fun n=>-9223372036854775808≤n∧n≤9223372036854775807):=Opn.mk fun H enc fuel cs x h1 h2 h3=>by
 obtain ⟨n,rfl,rfl,hw⟩:=DataW.trod_int hu h1;exact ⟨n,Qg2 (.val _),fun u hu=>by obtain rfl:=W0z.1 hu;rfl,wf_i64 hw⟩
theorem Qwr (hu:P.underlying t=some .bool):Opn P W t (fun n:Bool=>[aB n]) (fun _=>True):=Opn.mk fun H enc fuel cs x h1 h2 h3=>by
 obtain ⟨n,rfl,rfl⟩:=DataW.trod_bool hu h1;exact ⟨n,Qg2 (.val _),fun u hu=>by obtain rfl:=W0z.1 hu;rfl,trivial⟩
theorem Qdx (hu:P.underlying t=some .string):Opn P W t (fun n:List UInt8=>[aS n]) (fun n=>n.length≤140737488351232):=Opn.mk fun H enc fuel cs x h1 h2 h3=>by
 obtain ⟨s,rfl,rfl,_⟩:=DataW.trod_string hu h1;exact ⟨s.data.toList,Qg2 (.val _),fun u hu=>by obtain rfl:=W0z.1 hu;rfl,h3 _ (by simp [DataW.weights])⟩
theorem Qdm {α:Type} {en:α→List AV} {ok:α→Prop} {e:TypeId} {k:Nat} (h:Opn P W e en ok) (a0:α) (hu:P.underlying t=some (.slice e)) (hc:P.cellsOf e=k) (hk:0<k) (hb:16≤P.bytesOf e) :
  Opn P W t (fun l:List α=>[.sl k false (l.map en)]) (fun l=>l.length≤8796093022207∧∀ a∈l,ok a):=Opn.mk fun H enc fuel cs x h1 h2 h3=>by
 obtain ⟨v,rs,rfl,hr,hd⟩:=Qi2 (k:=k) (R:=fun a cs=>Qh3 (·<W.heap.size) W (en a) cs∧(∀ u∈cs,u.oneCell'=true)∧ok a) hu hc hk a0 (fun n cs' y hy hl hcl hww=>h.run H enc n cs' y hy hl hww) h1 h2 h3;have hsz:=Qoe hu hd h3;have:=W09 (Nat.mul_le_mul_left rs.length hb) hsz;have hra:Ra (·<W.heap.size) W (.sl k false (rs.map en)) v:=Qoh hr (·<W.heap.size) (fun _ h=>h) (fun a _ cs _ hR=>⟨hR.2.1,hR.1⟩);obtain ⟨A,c,rfl⟩:=hr.shape;refine ⟨rs,Qg2 hra,fun u hu=>by obtain rfl:=W0z.1 hu;rfl,by omega,fun a ha=>?_⟩;obtain ⟨css,g1,g2,g3⟩:=hr;obtain ⟨i,hi,rfl⟩:=List.mem_iff_getElem.1 ha;exact (g3 i _ _ (W0d (by omega)) (W0d hi)).2.2.2
theorem Qzb {α:Type} {en:α→List AV} {ok:α→Prop} {e:TypeId} {k:Nat} (h:Opn P W e en ok) (a0:α) (hu:P.underlying t=some (.slice e)) (hc:P.cellsOf e=k) (hk:0<k) (hb:1≤P.bytesOf e) :
  Opn P W t (fun l:List α=>[.sl k false (l.map en)]) (fun l=>l.length≤140737488351232∧∀ a∈l,ok a):=Opn.mk fun H enc fuel cs x h1 h2 h3=>by
 obtain ⟨v,rs,rfl,hr,hd⟩:=Qi2 (k:=k) (R:=fun a cs=>Qh3 (·<W.heap.size) W (en a) cs∧(∀ u∈cs,u.oneCell'=true)∧ok a) hu hc hk a0 (fun n cs' y hy hl hcl hww=>h.run H enc n cs' y hy hl hww) h1 h2 h3;have hsz:=Qoe hu hd h3;have:=W09 (Nat.mul_le_mul_left rs.length hb) hsz;have hra:Ra (·<W.heap.size) W (.sl k false (rs.map en)) v:=Qoh hr (·<W.heap.size) (fun _ h=>h) (fun a _ cs _ hR=>⟨hR.2.1,hR.1⟩);obtain ⟨A,c,rfl⟩:=hr.shape;refine ⟨rs,Qg2 hra,fun u hu=>by obtain rfl:=W0z.1 hu;rfl,by omega,fun a ha=>?_⟩;obtain ⟨css,g1,g2,g3⟩:=hr;obtain ⟨i,hi,rfl⟩:=List.mem_iff_getElem.1 ha;exact (g3 i _ _ (W0d (by omega)) (W0d hi)).2.2.2
structure OpnFs {γ:Type} (P:Program) (W:World) (N:Nat) (fs:List Field) (off:Nat) (en:γ→List AV) (ok:γ→Prop):Prop where
 run:∀ (H:Type) (enc:TypeId × Value→H) (m:Nat) (cs:List Value) (xs:List (DataW H × List MemPlace)),cs.length=N→xs.length=fs.length →
  (∀ (i:Nat) (f:Field),fs[i]?=some f→DataW.trod enc P W 0 (fun _=>true) true m f.type ((cs.drop f.offset).take (P.cellsOf f.type))=xs[i]?) →
  (∀ x∈xs,∀ p∈x.2,p.block<W.heap.size)→(∀ n∈DataW.weightsEach P (fs.map (·.type)) (xs.map (·.1)),n≤140737488351232) →
  ∃ g,Qh3 (·<W.heap.size) W (en g) (cs.drop off)∧(∀ u∈cs.drop off,u.oneCell'=true)∧ok g
theorem Qcq (N:Nat):OpnFs P W N [] N (fun _:Unit=>[]) (fun _=>True):=OpnFs.mk fun H enc m cs xs h1 h2 h3 h4 h5=>by
 have:cs.drop N=[]:=List.drop_eq_nil_of_le (by omega);rw [this];exact ⟨(),⟨rfl,fun j a u ha=>by simp at ha⟩,fun u hu=>by simp at hu,trivial⟩
theorem Qs5 {D:Nat→Prop} {w:World} {xs ys:List AV} {cs ds:List Value} (h:Qh3 D w xs cs) (k:Qh3 D w ys ds):Qh3 D w (xs++ys) (cs++ds):=by
 refine ⟨by simp [h.1,k.1],fun j a u ha hu=>?_⟩;by_cases hj:j<xs.length
 ·rw [W0o hj] at ha;rw [W0o (by rw [h.1];exact hj)] at hu;exact h.2 j a u ha hu
 ·rw [W0n (by omega)] at ha;rw [W0n (by rw [h.1];omega),h.1] at hu;exact k.2 _ a u ha hu
theorem Qak {α γ:Type} {N off k:Nat} {f:Field} {fs:List Field} {en:α→List AV} {ok:α→Prop} {en2:γ→List AV} {ok2:γ→Prop} (h:Opn P W f.type en ok) (ho:f.offset=off) (hk:P.cellsOf f.type=k)
  (hr:OpnFs P W N fs (off+k) en2 ok2):OpnFs P W N (f :: fs) off (fun g:α × γ=>en g.1++en2 g.2) (fun g=>ok g.1∧ok2 g.2):=OpnFs.mk fun H enc m cs xs h1 h2 h3 h4 h5=>by
 obtain ⟨x0,xr,rfl⟩:∃ a r,xs=a :: r:=by
  cases xs with
  | nil=>simp at h2
  | cons a r=>exact ⟨a,r,rfl⟩
 have g0:=h3 0 f rfl;rw [ho,hk] at g0;simp only [W1t,DataW.weightsEach] at h5;obtain ⟨a,ha,ha2,ha3⟩:=h.run H enc m _ x0 (by simpa using g0) (h4 x0 (by simp)) (fun n hn=>h5 n (by simp [hn]));obtain ⟨g,hg,hg2,hg3⟩:=hr.run H enc m cs xr h1 (by simpa using h2) (fun i f' hf=>by have:=h3 (i+1) f' (by simpa using hf);simpa using this) (fun x hx=>h4 x (by simp [hx])) (fun n hn=>h5 n (by simp [hn]));have e:cs.drop off=(cs.drop off).take k++cs.drop (off+k):=by
  rw [← List.drop_drop,W1g]
 refine ⟨(a,g),?_,?_,ha3,hg3⟩
 ·rw [e];exact Qs5 ha hg
 ·intro u hu;rw [e] at hu;rcases W04.1 hu with h | h
  ·exact ha2 u h
  ·exact hg2 u h
theorem Qbr {γ:Type} {N:Nat} {fs:Array Field} {en:γ→List AV} {ok:γ→Prop} (hu:P.underlying t=some (.struct fs)) (hc:P.cellsOf t=N) (h:OpnFs P W N fs.toList 0 en ok):Opn P W t en ok:=Opn.mk fun H enc fuel cs x h1 h2 h3=>by
 obtain ⟨xs,m,_,rfl,hl,hlen,hfl⟩:=DataW.trod_struct hu h1;obtain ⟨g,g1,g2,g3⟩:=h.run H enc m cs xs (by rw [hl,hc]) (by simpa using hlen) (fun i f hf=>hfl i f (by simpa using hf)) (fun x hx p hp=>h2 p (by simp only [List.mem_flatMap];exact ⟨x,hx,hp⟩))
  (fun n hn=>h3 n (by simp only [DataW.weights,hu];exact hn))
 exact ⟨g,by simpa using g1,by simpa using g2,g3⟩
theorem Qpc {α:Type} {en:α→List AV} {ok:α→Prop} {fs:Array Field} {H:Type} {enc:TypeId × Value→H} {base:Nat} {v:Value} {d:DataW H} {p:List MemPlace} (h:Opn P W t en ok) (hu:P.underlying t=some (.struct fs)) (hv:Value.okWide P W .any base t v)
  (ht:∃ fuel,DataW.trod enc P W 0 (fun _=>true) true fuel t v.cells.toList=some (d,p)) (hlt:∀ x∈p,x.block<W.heap.size) (hw:∀ n∈DataW.weights P t d,n≤140737488351232):∃ a,Ra (·<W.heap.size) W (.agg (en a)) v∧ok a:=by
 obtain ⟨cs,rfl,_⟩:=okWide_struct hu hv;obtain ⟨fuel,ht⟩:=ht;obtain ⟨a,g1,g2,g3⟩:=h.run H enc fuel _ _ ht hlt hw;refine ⟨a,.agg _ _ (by have:=g1.1;simp [Value.cells] at this;omega) (fun j u hj=>g2 u (by have:=W2a hj;simpa [Value.cells] using this)) (fun j x u hx hj=>g1.2 j x u hx (by simpa [Value.cells] using hj)),g3⟩
def RaL (D:Nat→Prop) (w:World):List AV→List Value→Prop
 | [],[]=>True
 | x :: xs,v :: vs=>Ra D w x v∧RaL D w xs vs
 | _,_=>False
theorem Zj3 {D:Nat→Prop} {w:World}:∀ (xs:List AV) (vs:List Value),RaL D w xs vs→Qc8 D w xs vs.toArray
 | [],[],_=>⟨rfl,fun j a u ha=>by simp at ha⟩
 | x :: xs,v :: vs,h=>by
  have ih:=Zj3 xs vs h.2;refine ⟨by have:=ih.1;simp at this ⊢;exact this,fun j a u ha hu=>?_⟩;cases j with
  | zero=>simp at ha hu;subst ha hu;exact h.1
  | succ j=>exact ih.2 j a u (by simpa using ha) (by simpa using hu)
 | [],_ :: _,h=>h.elim
 | _ :: _,[],h=>h.elim
theorem Qzl {f:FuncId} {args:List AV} {vs:Array Value} {w:World} (h:Qag P f args (aB true)) (hv:Qc8 (·<w.heap.size) w args vs) :
  Calls P f vs w (fun e w'=>e=.returned (.bool true)∧Below w.heap.size w w'):=by
 refine (h _ w vs (fun _ h=>h) hv).mono ?_;rintro e w' ⟨v,D',rfl,hb,_,_,hr⟩;cases hr;exact ⟨rfl,hb⟩
end
end Copyhold

namespace Go.Proofs.YtkhodpknpligpaaGreat
open Go Go.RowKit Copyhold Go.Proofs.Tryz
theorem Zl0 (W:World):Opn prog W 125 entA OkE:=
 (Qbr (N:=2) Tryz.underlying125 (by kernel_rfl) (Qak (k:=1) (Qdx Tryz.underlying9) rfl (by kernel_rfl) (Qak (k:=1) (Qba Tryz.underlying3) rfl (by kernel_rfl) (Qcq 2)))).map (fun g=>⟨g.1,g.2.1⟩) (fun _=>rfl) (fun a h=>⟨h.1,h.2.1⟩)
theorem Zhn (W:World):Opn prog W 83 (fun l:List (Ent)=>[.sl 2 false (l.map entA)]) (fun l=>l.length≤8796093022207∧∀ a∈l,OkE a):=Qdm (Zl0 W) (⟨[],0⟩) Tryz.underlying83 (by kernel_rfl) (by decide) (W05 (by kernel_rfl))
theorem Zca (W:World):Opn prog W 85 nodA OkN:=
 (Qbr (N:=5) Tryz.underlying85 (by kernel_rfl) (Qak (k:=1) (Qba Tryz.underlying3) rfl (by kernel_rfl) (Qak (k:=1) (Qba Tryz.underlying3) rfl (by kernel_rfl) (Qak (k:=1) (Qba Tryz.underlying3) rfl (by kernel_rfl) (Qak (k:=1) (Qdx Tryz.underlying9) rfl (by kernel_rfl) (Qak (k:=1) (Zhn W) rfl (by kernel_rfl) (Qcq 5))))))).map (fun g=>⟨g.1,g.2.1,g.2.2.1,g.2.2.2.1,g.2.2.2.2.1⟩) (fun _=>rfl) (fun a h=>⟨h.1,h.2.1,h.2.2.1,h.2.2.2.1,h.2.2.2.2.1.1,h.2.2.2.2.1.2⟩)
theorem Zhl (W:World):Opn prog W 36 (fun l:List (Nod)=>[.sl 5 false (l.map nodA)]) (fun l=>l.length≤8796093022207∧∀ a∈l,OkN a):=Qdm (Zca W) (⟨0,0,0,[],[]⟩) Tryz.underlying36 (by kernel_rfl) (by decide) (W05 (by kernel_rfl))
theorem Zcb (W:World):Opn prog W 38 fsyA OkF:=
 (Qbr (N:=2) Tryz.underlying38 (by kernel_rfl) (Qak (k:=1) (Zhl W) rfl (by kernel_rfl) (Qak (k:=1) (Qba Tryz.underlying3) rfl (by kernel_rfl) (Qcq 2)))).map (fun g=>⟨g.1,g.2.1⟩) (fun _=>rfl) (fun a h=>⟨h.2.1,h.1.1,h.1.2⟩)
end Go.Proofs.YtkhodpknpligpaaGreat

namespace Go.Proofs.YtkhodpknpligpaaGreat
open Go Go.RowKit Copyhold Go.Proofs.Tryz
theorem Zlt (W:World):Opn prog W 87 verA OkV:=
 (Qbr (N:=7) Tryz.underlying87 (by kernel_rfl) (Qak (k:=1) (Qba Tryz.underlying3) rfl (by kernel_rfl) (Qak (k:=1) (Qwr Tryz.underlying4) rfl (by kernel_rfl) (Qak (k:=5) (Zca W) rfl (by kernel_rfl) (Qcq 7))))).map (fun g=>⟨g.1,g.2.1,g.2.2.1⟩) (fun _=>rfl) (fun a h=>⟨h.1,h.2.2.1⟩)
theorem Zhh (W:World):Opn prog W 80 (fun l:List (Ver)=>[.sl 7 false (l.map verA)]) (fun l=>l.length≤8796093022207∧∀ a∈l,OkV a):=Qdm (Zlt W) (⟨0,false,⟨0,0,0,[],[]⟩⟩) Tryz.underlying80 (by kernel_rfl) (by decide) (W05 (by kernel_rfl))
theorem Zl3 (W:World):Opn prog W 82 chnA OkC:=
 (Qbr (N:=2) Tryz.underlying82 (by kernel_rfl) (Qak (k:=1) (Qba Tryz.underlying3) rfl (by kernel_rfl) (Qak (k:=1) (Zhh W) rfl (by kernel_rfl) (Qcq 2)))).map (fun g=>⟨g.1,g.2.1⟩) (fun _=>rfl) (fun a h=>⟨h.1,h.2.1.1,h.2.1.2⟩)
theorem Zhq (W:World):Opn prog W 22 (fun l:List (Chn)=>[.sl 2 false (l.map chnA)]) (fun l=>l.length≤8796093022207∧∀ a∈l,OkC a):=Qdm (Zl3 W) (⟨0,[]⟩) Tryz.underlying22 (by kernel_rfl) (by decide) (W05 (by kernel_rfl))
theorem Zl2 (W:World):Opn prog W 108 cntA OkK:=
 (Qbr (N:=2) Tryz.underlying108 (by kernel_rfl) (Qak (k:=1) (Qba Tryz.underlying3) rfl (by kernel_rfl) (Qak (k:=1) (Qba Tryz.underlying3) rfl (by kernel_rfl) (Qcq 2)))).map (fun g=>⟨g.1,g.2.1⟩) (fun _=>rfl) (fun a h=>⟨h.1,h.2.1⟩)
theorem Zhp (W:World):Opn prog W 23 (fun l:List (Cnt)=>[.sl 2 false (l.map cntA)]) (fun l=>l.length≤8796093022207∧∀ a∈l,OkK a):=Qdm (Zl2 W) (⟨0,0⟩) Tryz.underlying23 (by kernel_rfl) (by decide) (W05 (by kernel_rfl))
theorem Zlv (W:World):Opn prog W 25 stoA OkS:=
 (Qbr (N:=3) Tryz.underlying25 (by kernel_rfl) (Qak (k:=1) (Zhq W) rfl (by kernel_rfl) (Qak (k:=1) (Zhp W) rfl (by kernel_rfl) (Qak (k:=1) (Qba Tryz.underlying3) rfl (by kernel_rfl) (Qcq 3))))).map (fun g=>⟨g.1,g.2.1,g.2.2.1⟩) (fun _=>rfl) (fun a h=>⟨h.2.2.1,h.1.1,h.2.1.1,h.1.2,h.2.1.2⟩)
theorem Zl4 (W:World):Opn prog W 60 calA OkC0:=
 (Qbr (N:=8) Tryz.underlying60 (by kernel_rfl) (Qak (k:=1) (Qba Tryz.underlying3) rfl (by kernel_rfl) (Qak (k:=1) (Qba Tryz.underlying3) rfl (by kernel_rfl) (Qak (k:=1) (Qba Tryz.underlying3) rfl (by kernel_rfl) (Qak (k:=1) (Qba Tryz.underlying3) rfl (by kernel_rfl) (Qak (k:=1) (Qba Tryz.underlying3) rfl (by kernel_rfl) (Qak (k:=1) (Qdx Tryz.underlying9) rfl (by kernel_rfl) (Qak (k:=1) (Qdx Tryz.underlying9) rfl (by kernel_rfl) (Qak (k:=1) (Qdx Tryz.underlying9) rfl (by kernel_rfl) (Qcq 8)))))))))).map (fun g=>⟨g.1,g.2.1,g.2.2.1,g.2.2.2.1,g.2.2.2.2.1,g.2.2.2.2.2.1,g.2.2.2.2.2.2.1,g.2.2.2.2.2.2.2.1⟩) (fun _=>rfl) (fun a h=>⟨h.1,h.2.1,h.2.2.1,h.2.2.2.1,h.2.2.2.2.1,h.2.2.2.2.2.1,h.2.2.2.2.2.2.1,h.2.2.2.2.2.2.2.1⟩)
theorem Zhm (W:World):Opn prog W 39 (fun l:List (Int)=>[.sl 1 false (l.map intA)]) (fun l=>l.length≤140737488351232∧∀ a∈l,I64 a):=Qzb (Qba Tryz.underlying3) (0) Tryz.underlying39 (by kernel_rfl) (by decide) (W05 (by kernel_rfl))
theorem Zlu (W:World):Opn prog W 41 txnA OkT:=
 (Qbr (N:=6) Tryz.underlying41 (by kernel_rfl) (Qak (k:=1) (Qba Tryz.underlying3) rfl (by kernel_rfl) (Qak (k:=2) (Zcb W) rfl (by kernel_rfl) (Qak (k:=2) (Zcb W) rfl (by kernel_rfl) (Qak (k:=1) (Zhm W) rfl (by kernel_rfl) (Qcq 6)))))).map (fun g=>⟨g.1,g.2.1,g.2.2.1,g.2.2.2.1⟩) (fun _=>rfl) (fun a h=>⟨h.1,h.2.1,h.2.2.1,h.2.2.2.1.1⟩)
def OkR0 (r:Rep):Prop:=r.names.length≤8796093022207
theorem Zhi (W:World):Opn prog W 43 (fun l:List (Txt)=>[.sl 1 false (l.map txA)]) (fun l=>l.length≤8796093022207∧∀ a∈l,(fun t:Txt=>t.length≤140737488351232) a):=Qdm (Qdx Tryz.underlying9) ([]) Tryz.underlying43 (by kernel_rfl) (by decide) (W05 (by kernel_rfl))
theorem Zlw (W:World):Opn prog W 45 repA OkR0:=
 (Qbr (N:=6) Tryz.underlying45 (by kernel_rfl) (Qak (k:=1) (Qba Tryz.underlying42) rfl (by kernel_rfl) (Qak (k:=1) (Qba Tryz.underlying3) rfl (by kernel_rfl) (Qak (k:=1) (Qba Tryz.underlying3) rfl (by kernel_rfl) (Qak (k:=1) (Qba Tryz.underlying3) rfl (by kernel_rfl) (Qak (k:=1) (Qdx Tryz.underlying9) rfl (by kernel_rfl) (Qak (k:=1) (Zhi W) rfl (by kernel_rfl) (Qcq 6)))))))).map (fun g=>⟨g.1,g.2.1,g.2.2.1,g.2.2.2.1,g.2.2.2.2.1,g.2.2.2.2.2.1⟩) (fun _=>rfl) (fun a h=>h.2.2.2.2.2.1.1)
structure OkM0 (m:Msg):Prop where
 kind:I64 m.kind
 client:I64 m.client
 epoch:I64 m.epoch
 seq:I64 m.seq
 n:I64 m.n
 stamp:I64 m.stamp
 c:OkC0 m.c
theorem OkM0.ok {m:Msg} (h:OkM0 m) (hc:OkCal m.c):OkM m:=⟨h.kind,h.client,h.epoch,h.seq,h.n,h.stamp,hc⟩
def OkR9 (r:TRow):Prop:=(I64 r.client∧I64 r.epoch∧I64 r.done)∧r.l.length≤8796093022207∧∀ d∈r.l,I64 d.1
theorem Zl1 (W:World):Opn prog W 119 tdA (fun d:Int × Bool=>I64 d.1):=
 (Qbr (N:=2) Tryz.underlying119 (by kernel_rfl) (Qak (k:=1) (Qba Tryz.underlying3) rfl (by kernel_rfl) (Qak (k:=1) (Qwr Tryz.underlying4) rfl (by kernel_rfl) (Qcq 2)))).map (fun g=>(g.1,g.2.1)) (fun _=>rfl) (fun a h=>h.1)
theorem Zho (W:World):Opn prog W 88 (fun l:List (Int × Bool)=>[.sl 2 false (l.map tdA)]) (fun l=>l.length≤8796093022207∧∀ a∈l,(fun d:Int × Bool=>I64 d.1) a):=Qdm (Zl1 W) ((0,false)) Tryz.underlying88 (by kernel_rfl) (by decide) (W05 (by kernel_rfl))
theorem Zhj (W:World):Opn prog W 90 trA OkR9:=
 (Qbr (N:=4) Tryz.underlying90 (by kernel_rfl) (Qak (k:=1) (Qba Tryz.underlying3) rfl (by kernel_rfl) (Qak (k:=1) (Qba Tryz.underlying3) rfl (by kernel_rfl) (Qak (k:=1) (Qba Tryz.underlying3) rfl (by kernel_rfl) (Qak (k:=1) (Zho W) rfl (by kernel_rfl) (Qcq 4)))))).map (fun g=>⟨g.1,g.2.1,g.2.2.1,g.2.2.2.1⟩) (fun _=>rfl) (fun a h=>⟨⟨h.1,h.2.1,h.2.2.1⟩,h.2.2.2.1⟩)
theorem Zb9 (W:World):Opn prog W 26 (fun l:List (TRow)=>[.sl 4 false (l.map trA)]) (fun l=>l.length≤8796093022207∧∀ a∈l,OkR9 a):=Qdm (Zhj W) (⟨0,0,0,[]⟩) Tryz.underlying26 (by kernel_rfl) (by decide) (W05 (by kernel_rfl))
theorem Zlx (W:World):Opn prog W 47 opA OkO0:=
 (Qbr (N:=17) Tryz.underlying47 (by kernel_rfl) (Qak (k:=1) (Qba Tryz.underlying3) rfl (by kernel_rfl) (Qak (k:=1) (Qba Tryz.underlying3) rfl (by kernel_rfl) (Qak (k:=1) (Qba Tryz.underlying3) rfl (by kernel_rfl) (Qak (k:=1) (Qba Tryz.underlying3) rfl (by kernel_rfl) (Qak (k:=6) (Zlu W) rfl (by kernel_rfl) (Qak (k:=6) (Zlw W) rfl (by kernel_rfl) (Qak (k:=1) (Qba Tryz.underlying3) rfl (by kernel_rfl) (Qcq 17))))))))).map (fun g=>⟨g.1,g.2.1,g.2.2.1,g.2.2.2.1,g.2.2.2.2.1,g.2.2.2.2.2.1,g.2.2.2.2.2.2.1⟩) (fun _=>rfl) (fun a h=>⟨h.1,h.2.1,h.2.2.1,h.2.2.2.1,h.2.2.2.2.2.2.1,h.2.2.2.2.1,h.2.2.2.2.2.1⟩)
theorem Zhk (W:World):Opn prog W 27 (fun l:List (Udw)=>[.sl 17 false (l.map opA)]) (fun l=>l.length≤8796093022207∧∀ a∈l,OkO0 a):=Qdm (Zlx W) (op0) Tryz.underlying27 (by kernel_rfl) (by decide) (W05 (by kernel_rfl))
theorem Zlz (W:World):Opn prog W 29 hosA OkH0:=
 (Qbr (N:=7) Tryz.underlying29 (by kernel_rfl) (Qak (k:=3) (Zlv W) rfl (by kernel_rfl) (Qak (k:=1) (Zb9 W) rfl (by kernel_rfl) (Qak (k:=1) (Zhk W) rfl (by kernel_rfl) (Qak (k:=1) (Qba Tryz.underlying3) rfl (by kernel_rfl) (Qak (k:=1) (Qba Tryz.underlying3) rfl (by kernel_rfl) (Qcq 7))))))).map (fun g=>⟨g.1,g.2.1,g.2.2.1,g.2.2.2.1,g.2.2.2.2.1⟩) (fun _=>rfl) (fun a h=>⟨h.1,h.2.1.1,h.2.1.2,h.2.2.1.1,h.2.2.1.2,h.2.2.2.1,h.2.2.2.2.1⟩)
theorem Zly (W:World):Opn prog W 62 msgA OkM0:=
 (Qbr (N:=14) Tryz.underlying62 (by kernel_rfl) (Qak (k:=1) (Qba Tryz.underlying3) rfl (by kernel_rfl) (Qak (k:=1) (Qba Tryz.underlying3) rfl (by kernel_rfl) (Qak (k:=1) (Qba Tryz.underlying3) rfl (by kernel_rfl) (Qak (k:=1) (Qba Tryz.underlying3) rfl (by kernel_rfl) (Qak (k:=1) (Qba Tryz.underlying3) rfl (by kernel_rfl) (Qak (k:=1) (Qba Tryz.underlying3) rfl (by kernel_rfl) (Qak (k:=8) (Zl4 W) rfl (by kernel_rfl) (Qcq 14))))))))).map (fun g=>⟨g.1,g.2.1,g.2.2.1,g.2.2.2.1,g.2.2.2.2.1,g.2.2.2.2.2.1,g.2.2.2.2.2.2.1⟩) (fun _=>rfl) (fun a h=>⟨h.1,h.2.1,h.2.2.1,h.2.2.2.1,h.2.2.2.2.1,h.2.2.2.2.2.1,h.2.2.2.2.2.2.1⟩)
theorem Zfz {B k:Nat} {h:Hos} {m:Msg} (z:SzH B k h) (hr:Qe4 h) (hB:B≤1000):(ansH h m).2.1.names.length≤300:=by
 have hb:(Qbo h m).2.1.names.length≤300:=by
  unfold Qbo
  split
  ·exact W0j _
  ·split
   ·exact W0j _
   ·split<;>exact W0j _
 have hc:(Qcv h m).2.1.names.length≤300:=by
  unfold Qcv
  split
  ·exact W0j _
  ·rename_i hu;have um:=Qet (h:=h) (m:=m) (by cases hc:(Qad h m).2 with | true=>rfl | false=>exact absurd hc hu);have hm:(Qad h m).1∈h.opens:=by rw [um.1];exact um.2.1
   split
   ·exact W0j _
   ·split
    ·exact (z.o _ hm).names
    ·split
     ·exact W0j _
     ·exact W09 (Qxr (Zhs hr hm).2.2.1.1) (by decide)
 unfold ansH
 split
 ·exact W0j _
 ·split
  ·unfold Qid
   split
   ·exact hb
   ·split
    ·exact hc
    ·split
     ·exact W0j _
     ·split<;>exact W0j _
  ·split
   ·exact W0j _
   ·split<;>exact W0j _
theorem Qfe {B k:Nat} {h:Hos} {m:Msg} (z:SzH B k h) (hr:Qe4 h) (hB:B≤1000):(rspH h m).r.names.length≤1000000:=by
 have:=Zfz (m:=m) z hr hB;unfold rspH
 split
 ·show (ansH h m).2.1.names.length≤_;omega
 ·exact W0j _
theorem SzH.names {B k:Nat} {h:Hos} (z:SzH B k h):∀ o∈h.opens,o.last.names.length≤1000000:=fun o ho=>W09 (z.o o ho).names (by decide)
theorem Qn0 (h:Hos) (m:Msg) (ok0:OkH0 h) (okm0:OkM0 m):Qag prog 4 [.agg [.sl 2 false (h.s.l.map chnA),.sl 2 false (h.s.nexts.map cntA),aI h.s.stamp,.sl 4 false (h.rows.map trA),.sl 17 false (h.opens.map opA),aI h.now,aI h.lease],.agg [aI m.kind,aI m.client,aI m.epoch,aI m.seq,aI m.n,aI m.stamp,aI m.c.kind,aI m.c.ino,aI m.c.to,aI m.c.at_,aI m.c.many,aS m.c.name,aS m.c.name2,aS m.c.text]] (aB true):=by
 exact Qac func4 (
 .new fun b1=>.new fun b2=>.r 1<|.call (Zlc)<|
 .r 1<|.u 1 [b1]<|
 .call (Qrp h ok0)<|
 .r 2<|.br 15 (!(dP (Qzq h))) (fun q1=>have q1:=notT q1;have p1:=booF q1;.r 6<|.r 2<|.fi (aB true) [])
 <| fun q1=>have q1:=notF q1;have p1:=booT q1;have g0:=Qaf.1 q1;have z:=sz_of ok0 g0;have hr:=g0.2.2.2.2.2.2;.u 3 [b2]<|
 .cs (args0:=[.sl 8 true ([[aI m.c.kind,aI m.c.ino,aI m.c.to,aI m.c.at_,aI m.c.many,aS m.c.name,aS m.c.name2,aS m.c.text]])]) (Qyp [m.c] (by show 1≤_;omega) (fun x hx=>by rw [W0z.1 hx];exact okm0.c)) ⟨W2p _ _ _,trivial⟩<|
 .r 2<|.br 21 (!(dP (Qgb [m.c]))) (fun q2=>have q2:=notT q2;have p2:=booF q2;.r 2<|.fi (aB true) [])
 <| fun q2=>have q2:=notF q2;have p2:=booT q2;have okc:=Zgw (Qaf.1 q2) (W0z.2 rfl) okm0.c;have okm:=okm0.ok okc;have z1:=Zkz z hr (by omega) (by omega) okm;have tw:=Zav (m:=m) hr.2.2.2.2.2.1 hr.2.2.1;.u 2 [b1,b2]<|
 .call (Qh9 h m (z.okh hr (by omega)) okc)<|
 .r 3<|.new fun b3=>.new fun b4=>.u 2 [b3,b4]<|
 .u 1 [b3]<|
 .call (Qiy (ansH h m).1 (z1.ok0 (by omega)) z1.rw (z1.mids (by omega)).1 (z1.mids (by omega)).2 (z1.few (by omega)))<|
 .r 1<|.br 31 (!(dP (Qe4 (ansH h m).1))) (fun q3=>have q3:=notT q3;have p3:=booF q3;.r 2<|.fi (aB true) [])
 <| fun q3=>have q3:=notF q3;have p3:=booT q3;have hr1:=Qaf.1 q3;have z2:=Zkz z1 hr1 (by omega) (by omega) okm;.u 2 [b3,b2]<|
 .call (Qh9 (ansH h m).1 m (z1.okh hr1 (by omega)) okc)<|
 .r 3<|.new fun b5=>.new fun b6=>.u 2 [b5,b6]<|
 .u 5 [b4]<|
 .be 43 ((rspH h m).r.e) 16 (fun p4=>.u 5 [b2]<|
 .be 48 m.kind 3 (fun p5=>.u 6 [b6]<|
 .u 4 [b3,b5]<|
 .call (Qgi (ansH h m).1 (ansH (ansH h m).1 m).1 (z1.ok0 (by omega)) (z2.ok0 (by omega)) z1.rw z2.rw z1.names z2.names)<|
 .r 2<|.is 60 (show (dP ((ansH h m).1=(ansH (ansH h m).1 m).1))=true from (Qaf.2 tw.1.symm))<|.u 2 [b4,b6]<|
 .call (Qgj (rspH h m) (rspH (ansH h m).1 m) (Qfe z hr (by omega)) (Qfe z1 hr1 (by omega)))<|
 .r 1<|.br 64 (dP (rspH h m=rspH (ansH h m).1 m)) (fun q6=>have p6:=booT q6;.r 4<|.fi (aB true) [])
 <| fun q6=>have p6:=booF q6;.r 4<|.f (aB true) [] (aB (((rspH (ansH h m).1 m).r.e)==15)) (by
  rcases tw.2 with e | ⟨e1,e2,e3⟩
  ·exact absurd ((Qaf.2 e.symm).symm.trans q6) (by decide)
  ·exact W2n (W1y aB (by rw [e3];rfl))))
 <| fun p5=>.r 6<|.u 4 [b3,b5]<|
 .call (Qgi (ansH h m).1 (ansH (ansH h m).1 m).1 (z1.ok0 (by omega)) (z2.ok0 (by omega)) z1.rw z2.rw z1.names z2.names)<|
 .r 2<|.is 60 (show (dP ((ansH h m).1=(ansH (ansH h m).1 m).1))=true from (Qaf.2 tw.1.symm))<|.u 2 [b4,b6]<|
 .call (Qgj (rspH h m) (rspH (ansH h m).1 m) (Qfe z hr (by omega)) (Qfe z1 hr1 (by omega)))<|
 .r 1<|.br 64 (dP (rspH h m=rspH (ansH h m).1 m)) (fun q7=>have p7:=booT q7;.r 4<|.fi (aB true) [])
 <| fun q7=>have p7:=booF q7;.r 4<|.f (aB true) [] (aB false) (by
  rcases tw.2 with e | ⟨e1,e2,e3⟩
  ·exact absurd ((Qaf.2 e.symm).symm.trans q7) (by decide)
  ·exact W2n (W1y aB (by exact absurd e2 p5))))
 <| fun p4=>.r 11<|.u 4 [b3,b5]<|
 .call (Qgi (ansH h m).1 (ansH (ansH h m).1 m).1 (z1.ok0 (by omega)) (z2.ok0 (by omega)) z1.rw z2.rw z1.names z2.names)<|
 .r 2<|.is 60 (show (dP ((ansH h m).1=(ansH (ansH h m).1 m).1))=true from (Qaf.2 tw.1.symm))<|.u 2 [b4,b6]<|
 .call (Qgj (rspH h m) (rspH (ansH h m).1 m) (Qfe z hr (by omega)) (Qfe z1 hr1 (by omega)))<|
 .r 1<|.br 64 (dP (rspH h m=rspH (ansH h m).1 m)) (fun q8=>have p8:=booT q8;.r 4<|.fi (aB true) [])
 <| fun q8=>have p8:=booF q8;.r 4<|.f (aB true) [] (aB false) (by
  rcases tw.2 with e | ⟨e1,e2,e3⟩
  ·exact absurd ((Qaf.2 e.symm).symm.trans q8) (by decide)
  ·exact W2n (W1y aB (by exact absurd e1 p4))))
end Go.Proofs.YtkhodpknpligpaaGreat
