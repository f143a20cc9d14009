import Derived.Test.YtahlldgocpabjaaGreatMrgAO
set_option maxRecDepth 100000
set_option maxHeartbeats 8000000
set_option linter.unusedVariables false
set_option linter.unusedSimpArgs false
namespace Go.Proofs.YtahlldgocpabjaaGreat
open Go Go.RowKit Copyhold Go.Proofs.Tryz
def fltK (f:Fsy) (c:Cal) (k:Nat):List Int:=((Qaq f c).take k).filter fun x=>decide (1≤x)
def fltF (f:Fsy) (c:Cal):List Int:=(Qaq f c).filter fun x=>decide (1≤x)
def Qbh (f:Fsy) (c:Cal):List Int:=if c.kind=6∨c.kind=7∨c.kind=8∨c.kind=12∨c.kind=15 then 0 :: fltF f c else fltF f c
theorem Qq7 {f:Fsy} {c:Cal} {k:Nat} {x:Int} (h:(Qaq f c)[k]?=some x) (q:1≤x):fltK f c (k+1)=fltK f c k++[x]:=by
 unfold fltK;rw [Qam h,List.filter_append];simp [q]
theorem Qhx {f:Fsy} {c:Cal} {k:Nat} {x:Int} (h:(Qaq f c)[k]?=some x) (q:¬ 1≤x):fltK f c (k+1)=fltK f c k:=by
 unfold fltK;rw [Qam h,List.filter_append];simp [q]
theorem Qd3 (f:Fsy) (c:Cal) (k:Nat):(fltK f c k).length≤6:=by
 have h1:=List.length_filter_le (fun x=>decide ((1:Int)≤x)) ((Qaq f c).take k);have h2:=Qk9 f c;rw [List.length_take] at h1;unfold fltK;omega
theorem Qcf {f:Fsy} {c:Cal} {k:Nat} (h:(Qaq f c).length≤k):fltK f c k=fltF f c:=by unfold fltK;rw [Qat h];rfl
theorem Zaj (f:Fsy) (c:Cal):Asc (Qaq f c):=by
 unfold Qaq
 split
 ·unfold Asc;simp
 ·exact Qf5 _
theorem Qyd (f:Fsy) (c:Cal):Asc (fltF f c):=List.Pairwise.filter _ (Zaj f c)
theorem Qki {f:Fsy} {c:Cal} {x:Int}:x∈fltF f c↔x∈Qaq f c∧1≤x:=by unfold fltF;rw [List.mem_filter];simp
theorem Zjd {f:Fsy} {c:Cal} {x:Int} (h:x∈fltF f c):1≤x:=(Qki.1 h).2
theorem Qsf (f:Fsy) (c:Cal):Asc (Qbh f c):=by
 unfold Qbh
 split
 ·exact List.pairwise_cons.2 ⟨fun x hx=>by have:=Zjd hx;omega,Qyd f c⟩
 ·exact Qyd f c
theorem Qse {f:Fsy} {c:Cal} {x:Int}:x∈Qbh f c↔(x=0∧Qjn c)∨(x∈Qaq f c∧1≤x):=by
 unfold Qbh
 split
 ·rename_i h;rw [List.mem_cons,Qki];constructor
  ·rintro (e | e)
   ·exact .inl ⟨e,h⟩
   ·exact .inr e
  ·rintro (e | e)
   ·exact .inl e.1
   ·exact .inr e
 ·rename_i h;rw [Qki];constructor
  ·exact .inr
  ·rintro (e | e)
   ·exact absurd e.2 h
   ·exact e
theorem Qf2 (f:Fsy) (c:Cal):(Qbh f c).length≤7:=by
 have h:(fltF f c).length≤6:=by rw [← Qcf (Nat.le_refl _)];exact Qd3 f c _
 unfold Qbh
 split
 ·rw [List.length_cons];omega
 ·omega
theorem Qf3 {f:Fsy} {c:Cal} (h:Qjn c):Qdg ([0]++fltF f c)=Qbh f c:=Qlm (Qf5 _) (Qsf f c) fun x=>by
 rw [Qhi,Qse,List.mem_append,Qki,List.mem_singleton];constructor
 ·rintro (e | e)
  ·exact .inl ⟨e,h⟩
  ·exact .inr e
 ·rintro (e | e)
  ·exact .inl e.1
  ·exact .inr e
theorem Zhe {f:Fsy} {c:Cal} (h:¬ Qjn c):Qbh f c=fltF f c:=if_neg h
def wiF (l:List Int) (ns:List Int):List Int:=ns.foldl Qcx l
theorem Qut {x:Int}:∀ {ns l:List Int},x∈wiF l ns↔x∈l∨x∈ns
 | [],l=>by simp [wiF]
 | n :: r,l=>by
  show x∈wiF (Qcx l n) r↔_;rw [Qut,Qjk,List.mem_cons];constructor
  ·rintro ((h | h) | h)
   ·exact .inr (.inl h)
   ·exact .inl h
   ·exact .inr (.inr h)
  ·rintro (h | h | h)
   ·exact .inl (.inr h)
   ·exact .inl (.inl h)
   ·exact .inr h
theorem Quu:∀ {ns l:List Int},Asc l→Asc (wiF l ns)
 | [],_,h=>h
 | n :: r,l,h=>Quu (ns:=r) (Qjl h n)
theorem Qhg:∀ (ns l:List Int),(wiF l ns).length≤l.length+ns.length
 | [],l=>Nat.le_refl _
 | n :: r,l=>by
  have h1:=Qhg r (Qcx l n);have h2:=Qh9 l n;show (wiF (Qcx l n) r).length≤_;rw [List.length_cons];omega
theorem Zg9 {l ns:List Int} {k:Nat} {x:Int} (h:ns[k]?=some x):wiF l (ns.take (k+1))=Qcx (wiF l (ns.take k)) x:=by
 unfold wiF;rw [Qam h,List.foldl_append];rfl
theorem Zha {l ns:List Int} (h:Asc l):wiF l ns=Qdg (l++ns):=Qlm (Quu h) (Qf5 _) fun x=>by
 rw [Qut,Qhi,List.mem_append]
def Qbx (c:Cal):List Int:=if c.kind=6∨c.kind=7∨c.kind=8∨c.kind=12∨c.kind=15 then [0] else []
theorem Zkg (c:Cal):Asc (Qbx c):=by
 unfold Qbx
 split
 ·unfold Asc;simp
 ·exact List.Pairwise.nil
theorem Qi0 (c:Cal):(Qbx c).length≤1:=by
 unfold Qbx
 split<;>simp
theorem Qib (f:Fsy) (c:Cal):wiF (Qbx c) (fltF f c)=Qbh f c:=Qlm (Quu (Zkg c)) (Qsf f c) fun x=>by
 rw [Qut,Qse,Qki];unfold Qbx
 split
 ·rename_i h;rw [List.mem_singleton];constructor
  ·rintro (e | e)
   ·exact .inl ⟨e,h⟩
   ·exact .inr e
  ·rintro (e | e)
   ·exact .inl e.1
   ·exact .inr e
 ·rename_i h;constructor
  ·rintro (e | e)
   ·cases e
   ·exact .inr e
  ·rintro (e | e)
   ·exact absurd e.2 h
   ·exact .inr e
theorem Qou {f:Fsy} {c:Cal} {k:Nat} {x:Int} (h:(Qaq f c)[k]?=some x) (q:1≤x):wiF (Qbx c) (fltK f c (k+1))=Qcx (wiF (Qbx c) (fltK f c k)) x:=by
 rw [Qq7 h q];unfold wiF;rw [List.foldl_append];rfl
theorem Qov (f:Fsy) (c:Cal) (okf:OkF f) (okc:OkCal c) (hp:Qar f):Qah prog 25 [.agg (fsyA f),.agg (calA c)] (.sl 1 false ((Qbh f c).map intA)):=by
 have hlu:=Qk9 f c;exact Qac func25 (
 .new fun b1=>.new fun b2=>.r 1<|.r 1<|.rowNil 5 5 3 1<|.u 2 [b1,b2]<|
 .call (Qv0 f c okf okc hp)<|
 .r 1<|.lm 11 (Qaq f c) intA<|.r 1<|let L1:Lp (Nat × Value):=⟨fun a1=>⟨[(3,.ptr 3 b2 0),(10,.sl 1 false ((Qaq f c).map intA)),(11,aI ((Qaq f c).length:Int)),(12,aI (a1.1:Int)),(5,.rw 5 a1.2 ((fltK f c a1.1).length))],[(3,.box b2 33 (calA c)),(5,.row a1.2 3 1 ((fltK f c a1.1).map intA))]⟩,fun a1=>(Qaq f c).length-a1.1,fun a1=>a1.1≤(Qaq f c).length⟩
 .lp L1 (0,.slice none 0 0) (show 0≤(Qaq f c).length from Nat.zero_le _) [(12,aI 0),(5,.rw 5 (.slice none 0 0) 0)] [(5,.row (.slice none 0 0) 3 1 ([]))] ⟨sR,sR,sR,sO,sR,trivial⟩ bb2 fun a1 ha1=>
 (fun (k:Nat) (V:Value) (hH1:k≤(Qaq f c).length)=>.r 1<|.bd 13 ((k:Int)<((Qaq f c).length:Int)) (fun p1=>.idxM (Qaq f c) intA k (m:=(k:Int)) rfl (by omega) fun x1 hx1=>
 .r 2<|.r 2<|.bd 17 (x1≥1) (fun p2=>.r 3<|.app 8 V ((fltK f c k).map intA) ([[aI x1]]) (by have:=Qd3 f c k;simp only [List.length_map,List.length_cons,List.length_nil];omega) (by have:=Qd3 f c k;simp only [List.length_map,List.length_cons,List.length_nil];omega) fun V1=>
 .r 1<|.run 2 [rng .i64 ((k:Int)+1)] ⟨Qai (by omega) (by omega),trivial⟩<|
 .bk L1 (k,V) ((k+1),V1) (show (k+1)≤(Qaq f c).length from (by show _≤_;omega)) (show (Qaq f c).length-(k+1)<(Qaq f c).length-k from (by omega)) [(12,aI ((k:Int)+1)),(5,.rw 5 V1 (((fltK f c k).map intA).length+([[aI x1]]:List (List AV)).length))] [(5,.row V1 3 1 (((fltK f c k).map intA)++([[aI x1]])))] ⟨sR,sR,sR,sO,Sub.of_eq (congrArg (AV.rw 5 V1) (by rw [Qq7 hx1 (by omega)];simp)),trivial⟩ ⟨sB,⟨_,rfl,SubB.of_eq (by rw [Qq7 hx1 (by omega)];simp [intA])⟩,trivial⟩)
 <| fun p2=>.run 2 [rng .i64 ((k:Int)+1)] ⟨Qai (by omega) (by omega),trivial⟩<|
 .bk L1 (k,V) ((k+1),V) (show (k+1)≤(Qaq f c).length from (by show _≤_;omega)) (show (Qaq f c).length-(k+1)<(Qaq f c).length-k from (by omega)) [(12,aI ((k:Int)+1)),(5,.rw 5 V ((fltK f c k).length))] [(5,.row V 3 1 ((fltK f c k).map intA))] ⟨sR,sR,sR,sO,Sub.of_eq (congrArg (AV.rw 5 V) (by rw [Qhx hx1 (by omega)])),trivial⟩ ⟨sB,⟨_,rfl,SubB.of_eq (by rw [Qhx hx1 (by omega)])⟩,trivial⟩)
 <| fun p1=>.u 2 [b2]<|
 .r 2<|.be 25 c.kind 6 (fun p3=>.frz 5 [5,13,25] [] [V=V,(fltK f c k).length=((fltK f c k).map intA).length] ⟨rfl,(by first | rfl | (simp;done) | (simp;omega)),trivial⟩<|
 .r 2<|.cs (args0:=[.sl 1 true ([[aI 0]]),.sl 1 false ((fltK f c k).map intA)]) (Qeq [0] (fltF f c) (by have:=Qd3 f c k;rw [← Qcf (f:=f) (c:=c) (k:=k) (by omega)];simp;omega)) ⟨Sub.loose _ _ _,Sub.of_eq (by rw [Qcf (by omega)]),trivial⟩<|
 .r 1<|.f (.sl 1 false ((Qbh f c).map intA)) [] (.sl 1 false ((Qdg ([0]++fltF f c)).map intA)) (by
  rw [← Qf3 (by unfold Qjn;omega)];exact sR))
 <| fun p3=>.r 2<|.be 25 c.kind 7 (fun p4=>.frz 5 [5,13,25] [] [V=V,(fltK f c k).length=((fltK f c k).map intA).length] ⟨rfl,(by first | rfl | (simp;done) | (simp;omega)),trivial⟩<|
 .r 2<|.cs (args0:=[.sl 1 true ([[aI 0]]),.sl 1 false ((fltK f c k).map intA)]) (Qeq [0] (fltF f c) (by have:=Qd3 f c k;rw [← Qcf (f:=f) (c:=c) (k:=k) (by omega)];simp;omega)) ⟨Sub.loose _ _ _,Sub.of_eq (by rw [Qcf (by omega)]),trivial⟩<|
 .r 1<|.f (.sl 1 false ((Qbh f c).map intA)) [] (.sl 1 false ((Qdg ([0]++fltF f c)).map intA)) (by
  rw [← Qf3 (by unfold Qjn;omega)];exact sR))
 <| fun p4=>.r 2<|.be 25 c.kind 8 (fun p5=>.frz 5 [5,13,25] [] [V=V,(fltK f c k).length=((fltK f c k).map intA).length] ⟨rfl,(by first | rfl | (simp;done) | (simp;omega)),trivial⟩<|
 .r 2<|.cs (args0:=[.sl 1 true ([[aI 0]]),.sl 1 false ((fltK f c k).map intA)]) (Qeq [0] (fltF f c) (by have:=Qd3 f c k;rw [← Qcf (f:=f) (c:=c) (k:=k) (by omega)];simp;omega)) ⟨Sub.loose _ _ _,Sub.of_eq (by rw [Qcf (by omega)]),trivial⟩<|
 .r 1<|.f (.sl 1 false ((Qbh f c).map intA)) [] (.sl 1 false ((Qdg ([0]++fltF f c)).map intA)) (by
  rw [← Qf3 (by unfold Qjn;omega)];exact sR))
 <| fun p5=>.r 2<|.be 25 c.kind 12 (fun p6=>.frz 5 [5,13,25] [] [V=V,(fltK f c k).length=((fltK f c k).map intA).length] ⟨rfl,(by first | rfl | (simp;done) | (simp;omega)),trivial⟩<|
 .r 2<|.cs (args0:=[.sl 1 true ([[aI 0]]),.sl 1 false ((fltK f c k).map intA)]) (Qeq [0] (fltF f c) (by have:=Qd3 f c k;rw [← Qcf (f:=f) (c:=c) (k:=k) (by omega)];simp;omega)) ⟨Sub.loose _ _ _,Sub.of_eq (by rw [Qcf (by omega)]),trivial⟩<|
 .r 1<|.f (.sl 1 false ((Qbh f c).map intA)) [] (.sl 1 false ((Qdg ([0]++fltF f c)).map intA)) (by
  rw [← Qf3 (by unfold Qjn;omega)];exact sR))
 <| fun p6=>.r 2<|.be 25 c.kind 15 (fun p7=>.frz 5 [5,13,25] [] [V=V,(fltK f c k).length=((fltK f c k).map intA).length] ⟨rfl,(by first | rfl | (simp;done) | (simp;omega)),trivial⟩<|
 .r 2<|.cs (args0:=[.sl 1 true ([[aI 0]]),.sl 1 false ((fltK f c k).map intA)]) (Qeq [0] (fltF f c) (by have:=Qd3 f c k;rw [← Qcf (f:=f) (c:=c) (k:=k) (by omega)];simp;omega)) ⟨Sub.loose _ _ _,Sub.of_eq (by rw [Qcf (by omega)]),trivial⟩<|
 .r 1<|.f (.sl 1 false ((Qbh f c).map intA)) [] (.sl 1 false ((Qdg ([0]++fltF f c)).map intA)) (by
  rw [← Qf3 (by unfold Qjn;omega)];exact sR))
 <| fun p7=>.r 2<|.frz 5 [4] [] [V=V,(fltK f c k).length=((fltK f c k).map intA).length] ⟨rfl,(by first | rfl | (simp;done) | (simp;omega)),trivial⟩<|
 .f (.sl 1 false ((Qbh f c).map intA)) [] (.sl 1 false ((fltK f c k).map intA)) (by
  rw [Zhe (by unfold Qjn;omega),← Qcf (k:=k) (by omega)]
  first | exact sR | exact Sub.loose _ _ _)) a1.1 a1.2 ha1)
theorem Qu6 (f:Fsy) (c:Cal) (okf:OkF f) (okc:OkCal c) (hp:Qar f):Qah prog 26 [.agg (fsyA f),.agg (calA c)] (.sl 1 false ((Qbh f c).map intA)):=by
 have hlu:=Qk9 f c;exact Qac func26 (
 .new fun b1=>.new fun b2=>.r 1<|.u 2 [b1,b2]<|
 .call ((Zcq hp ▸ Qve f c okf okc hp))<|
 .r 1<|.r 1<|.u 4 [b2]<|
 .be 14 c.kind 6 (fun p1=>.r 19<|.rowNil 6 6 3 1<|.r 2<|.app 8 (.slice none 0 0) ([]:List (List AV)) ([[aI 0]]) (by simp) (by simp) fun V1=>
 .r 1<|.frz 6 [4,5,6,14,18,19,23,24,28,29,33] [] [V1=V1,([]:List (List AV)).length+([[aI 0]]:List (List AV)).length=(([]:List (List AV))++([[aI 0]])).length] ⟨rfl,(by first | rfl | (simp;done) | (simp;omega)),trivial⟩<|
 .r 1<|let L1:Lp (Nat):=⟨fun a1=>⟨[(5,.sl 1 false ((Qaq f c).map intA)),(7,aI (a1:Int)),(6,.sl 1 false ((wiF (Qbx c) (fltK f c a1)).map intA))],[]⟩,fun a1=>(Qaq f c).length-a1,fun a1=>a1≤(Qaq f c).length⟩
 .lp L1 0 (show 0≤(Qaq f c).length from Nat.zero_le _) [(7,aI 0),(6,.sl 1 false (([]:List (List AV))++([[aI 0]])))] [] ⟨sR,sO,(by rw [show wiF (Qbx c) (fltK f c 0)=Qbx c from rfl,show Qbx c=_ from if_pos (by omega)];exact Sub.loose _ _ _),trivial⟩ trivial fun a1 ha1=>
 (fun (k:Nat) (hH1:k≤(Qaq f c).length)=>.r 3<|.lm 39 (Qaq f c) intA<|.r 1<|.bd 40 ((k:Int)<((Qaq f c).length:Int)) (fun p2=>.r 2<|.idxM (Qaq f c) intA k (m:=(k:Int)) rfl (by omega) fun x1 hx1=>
 .r 2<|.bd 47 (x1≥1) (fun p3=>.r 3<|.idx k (m:=(k:Int)) (xs:=(Qaq f c).map intA) (e:=intA x1) rfl (map_some hx1)<|
 .r 1<|.call (Qcw (wiF (Qbx c) (fltK f c k)) x1 (by have h1:=Qhg (fltK f c k) (Qbx c);have h2:=Qd3 f c k;have h3:=Qi0 c;omega))<|
 .r 1<|.run 3 [rng .i64 ((k:Int)+1)] ⟨Qai (by omega) (by omega),trivial⟩<|
 .bk L1 k (k+1) (show (k+1)≤(Qaq f c).length from (by show _≤_;omega)) (show (Qaq f c).length-(k+1)<(Qaq f c).length-k from (by omega)) [(7,aI ((k:Int)+1)),(6,.sl 1 false ((Qcx (wiF (Qbx c) (fltK f c k)) x1).map intA))] [] ⟨sR,sO,Sub.of_eq (by rw [Qou hx1 (by omega)];rfl),trivial⟩ trivial)
 <| fun p3=>.run 3 [rng .i64 ((k:Int)+1)] ⟨Qai (by omega) (by omega),trivial⟩<|
 .bk L1 k (k+1) (show (k+1)≤(Qaq f c).length from (by show _≤_;omega)) (show (Qaq f c).length-(k+1)<(Qaq f c).length-k from (by omega)) [(7,aI ((k:Int)+1)),(6,.sl 1 false ((wiF (Qbx c) (fltK f c k)).map intA))] [] ⟨sR,sO,Sub.of_eq (by rw [Qhx hx1 (by omega)];rfl),trivial⟩ trivial)
 <| fun p2=>.r 2<|.f (.sl 1 false ((Qbh f c).map intA)) [] (.sl 1 false ((wiF (Qbx c) (fltK f c k)).map intA)) (by
  rw [← Qib,← Qcf (k:=k) (by omega)];exact sR)) a1 ha1)
 <| fun p1=>.u 5 [b2]<|
 .be 19 c.kind 7 (fun p4=>.r 14<|.rowNil 6 6 3 1<|.r 2<|.app 8 (.slice none 0 0) ([]:List (List AV)) ([[aI 0]]) (by simp) (by simp) fun V2=>
 .r 1<|.frz 6 [4,5,6,14,19,23,24,28,29,33] [] [V2=V2,([]:List (List AV)).length+([[aI 0]]:List (List AV)).length=(([]:List (List AV))++([[aI 0]])).length] ⟨rfl,(by first | rfl | (simp;done) | (simp;omega)),trivial⟩<|
 .r 1<|let L1:Lp (Nat):=⟨fun a1=>⟨[(5,.sl 1 false ((Qaq f c).map intA)),(7,aI (a1:Int)),(6,.sl 1 false ((wiF (Qbx c) (fltK f c a1)).map intA))],[]⟩,fun a1=>(Qaq f c).length-a1,fun a1=>a1≤(Qaq f c).length⟩
 .lp L1 0 (show 0≤(Qaq f c).length from Nat.zero_le _) [(7,aI 0),(6,.sl 1 false (([]:List (List AV))++([[aI 0]])))] [] ⟨sR,sO,(by rw [show wiF (Qbx c) (fltK f c 0)=Qbx c from rfl,show Qbx c=_ from if_pos (by omega)];exact Sub.loose _ _ _),trivial⟩ trivial fun a1 ha1=>
 (fun (k:Nat) (hH1:k≤(Qaq f c).length)=>.r 3<|.lm 39 (Qaq f c) intA<|.r 1<|.bd 40 ((k:Int)<((Qaq f c).length:Int)) (fun p5=>.r 2<|.idxM (Qaq f c) intA k (m:=(k:Int)) rfl (by omega) fun x2 hx2=>
 .r 2<|.bd 47 (x2≥1) (fun p6=>.r 3<|.idx k (m:=(k:Int)) (xs:=(Qaq f c).map intA) (e:=intA x2) rfl (map_some hx2)<|
 .r 1<|.call (Qcw (wiF (Qbx c) (fltK f c k)) x2 (by have h1:=Qhg (fltK f c k) (Qbx c);have h2:=Qd3 f c k;have h3:=Qi0 c;omega))<|
 .r 1<|.run 3 [rng .i64 ((k:Int)+1)] ⟨Qai (by omega) (by omega),trivial⟩<|
 .bk L1 k (k+1) (show (k+1)≤(Qaq f c).length from (by show _≤_;omega)) (show (Qaq f c).length-(k+1)<(Qaq f c).length-k from (by omega)) [(7,aI ((k:Int)+1)),(6,.sl 1 false ((Qcx (wiF (Qbx c) (fltK f c k)) x2).map intA))] [] ⟨sR,sO,Sub.of_eq (by rw [Qou hx2 (by omega)];rfl),trivial⟩ trivial)
 <| fun p6=>.run 3 [rng .i64 ((k:Int)+1)] ⟨Qai (by omega) (by omega),trivial⟩<|
 .bk L1 k (k+1) (show (k+1)≤(Qaq f c).length from (by show _≤_;omega)) (show (Qaq f c).length-(k+1)<(Qaq f c).length-k from (by omega)) [(7,aI ((k:Int)+1)),(6,.sl 1 false ((wiF (Qbx c) (fltK f c k)).map intA))] [] ⟨sR,sO,Sub.of_eq (by rw [Qhx hx2 (by omega)];rfl),trivial⟩ trivial)
 <| fun p5=>.r 2<|.f (.sl 1 false ((Qbh f c).map intA)) [] (.sl 1 false ((wiF (Qbx c) (fltK f c k)).map intA)) (by
  rw [← Qib,← Qcf (k:=k) (by omega)];exact sR)) a1 ha1)
 <| fun p4=>.u 5 [b2]<|
 .be 24 c.kind 8 (fun p7=>.r 9<|.rowNil 6 6 3 1<|.r 2<|.app 8 (.slice none 0 0) ([]:List (List AV)) ([[aI 0]]) (by simp) (by simp) fun V3=>
 .r 1<|.frz 6 [4,5,6,14,19,24,28,29,33] [] [V3=V3,([]:List (List AV)).length+([[aI 0]]:List (List AV)).length=(([]:List (List AV))++([[aI 0]])).length] ⟨rfl,(by first | rfl | (simp;done) | (simp;omega)),trivial⟩<|
 .r 1<|let L1:Lp (Nat):=⟨fun a1=>⟨[(5,.sl 1 false ((Qaq f c).map intA)),(7,aI (a1:Int)),(6,.sl 1 false ((wiF (Qbx c) (fltK f c a1)).map intA))],[]⟩,fun a1=>(Qaq f c).length-a1,fun a1=>a1≤(Qaq f c).length⟩
 .lp L1 0 (show 0≤(Qaq f c).length from Nat.zero_le _) [(7,aI 0),(6,.sl 1 false (([]:List (List AV))++([[aI 0]])))] [] ⟨sR,sO,(by rw [show wiF (Qbx c) (fltK f c 0)=Qbx c from rfl,show Qbx c=_ from if_pos (by omega)];exact Sub.loose _ _ _),trivial⟩ trivial fun a1 ha1=>
 (fun (k:Nat) (hH1:k≤(Qaq f c).length)=>.r 3<|.lm 39 (Qaq f c) intA<|.r 1<|.bd 40 ((k:Int)<((Qaq f c).length:Int)) (fun p8=>.r 2<|.idxM (Qaq f c) intA k (m:=(k:Int)) rfl (by omega) fun x3 hx3=>
 .r 2<|.bd 47 (x3≥1) (fun p9=>.r 3<|.idx k (m:=(k:Int)) (xs:=(Qaq f c).map intA) (e:=intA x3) rfl (map_some hx3)<|
 .r 1<|.call (Qcw (wiF (Qbx c) (fltK f c k)) x3 (by have h1:=Qhg (fltK f c k) (Qbx c);have h2:=Qd3 f c k;have h3:=Qi0 c;omega))<|
 .r 1<|.run 3 [rng .i64 ((k:Int)+1)] ⟨Qai (by omega) (by omega),trivial⟩<|
 .bk L1 k (k+1) (show (k+1)≤(Qaq f c).length from (by show _≤_;omega)) (show (Qaq f c).length-(k+1)<(Qaq f c).length-k from (by omega)) [(7,aI ((k:Int)+1)),(6,.sl 1 false ((Qcx (wiF (Qbx c) (fltK f c k)) x3).map intA))] [] ⟨sR,sO,Sub.of_eq (by rw [Qou hx3 (by omega)];rfl),trivial⟩ trivial)
 <| fun p9=>.run 3 [rng .i64 ((k:Int)+1)] ⟨Qai (by omega) (by omega),trivial⟩<|
 .bk L1 k (k+1) (show (k+1)≤(Qaq f c).length from (by show _≤_;omega)) (show (Qaq f c).length-(k+1)<(Qaq f c).length-k from (by omega)) [(7,aI ((k:Int)+1)),(6,.sl 1 false ((wiF (Qbx c) (fltK f c k)).map intA))] [] ⟨sR,sO,Sub.of_eq (by rw [Qhx hx3 (by omega)];rfl),trivial⟩ trivial)
 <| fun p8=>.r 2<|.f (.sl 1 false ((Qbh f c).map intA)) [] (.sl 1 false ((wiF (Qbx c) (fltK f c k)).map intA)) (by
  rw [← Qib,← Qcf (k:=k) (by omega)];exact sR)) a1 ha1)
 <| fun p7=>.u 5 [b2]<|
 .be 29 c.kind 12 (fun p10=>.r 4<|.rowNil 6 6 3 1<|.r 2<|.app 8 (.slice none 0 0) ([]:List (List AV)) ([[aI 0]]) (by simp) (by simp) fun V4=>
 .r 1<|.frz 6 [4,5,6,14,19,24,29,33] [] [V4=V4,([]:List (List AV)).length+([[aI 0]]:List (List AV)).length=(([]:List (List AV))++([[aI 0]])).length] ⟨rfl,(by first | rfl | (simp;done) | (simp;omega)),trivial⟩<|
 .r 1<|let L1:Lp (Nat):=⟨fun a1=>⟨[(5,.sl 1 false ((Qaq f c).map intA)),(7,aI (a1:Int)),(6,.sl 1 false ((wiF (Qbx c) (fltK f c a1)).map intA))],[]⟩,fun a1=>(Qaq f c).length-a1,fun a1=>a1≤(Qaq f c).length⟩
 .lp L1 0 (show 0≤(Qaq f c).length from Nat.zero_le _) [(7,aI 0),(6,.sl 1 false (([]:List (List AV))++([[aI 0]])))] [] ⟨sR,sO,(by rw [show wiF (Qbx c) (fltK f c 0)=Qbx c from rfl,show Qbx c=_ from if_pos (by omega)];exact Sub.loose _ _ _),trivial⟩ trivial fun a1 ha1=>
 (fun (k:Nat) (hH1:k≤(Qaq f c).length)=>.r 3<|.lm 39 (Qaq f c) intA<|.r 1<|.bd 40 ((k:Int)<((Qaq f c).length:Int)) (fun p11=>.r 2<|.idxM (Qaq f c) intA k (m:=(k:Int)) rfl (by omega) fun x4 hx4=>
 .r 2<|.bd 47 (x4≥1) (fun p12=>.r 3<|.idx k (m:=(k:Int)) (xs:=(Qaq f c).map intA) (e:=intA x4) rfl (map_some hx4)<|
 .r 1<|.call (Qcw (wiF (Qbx c) (fltK f c k)) x4 (by have h1:=Qhg (fltK f c k) (Qbx c);have h2:=Qd3 f c k;have h3:=Qi0 c;omega))<|
 .r 1<|.run 3 [rng .i64 ((k:Int)+1)] ⟨Qai (by omega) (by omega),trivial⟩<|
 .bk L1 k (k+1) (show (k+1)≤(Qaq f c).length from (by show _≤_;omega)) (show (Qaq f c).length-(k+1)<(Qaq f c).length-k from (by omega)) [(7,aI ((k:Int)+1)),(6,.sl 1 false ((Qcx (wiF (Qbx c) (fltK f c k)) x4).map intA))] [] ⟨sR,sO,Sub.of_eq (by rw [Qou hx4 (by omega)];rfl),trivial⟩ trivial)
 <| fun p12=>.run 3 [rng .i64 ((k:Int)+1)] ⟨Qai (by omega) (by omega),trivial⟩<|
 .bk L1 k (k+1) (show (k+1)≤(Qaq f c).length from (by show _≤_;omega)) (show (Qaq f c).length-(k+1)<(Qaq f c).length-k from (by omega)) [(7,aI ((k:Int)+1)),(6,.sl 1 false ((wiF (Qbx c) (fltK f c k)).map intA))] [] ⟨sR,sO,Sub.of_eq (by rw [Qhx hx4 (by omega)];rfl),trivial⟩ trivial)
 <| fun p11=>.r 2<|.f (.sl 1 false ((Qbh f c).map intA)) [] (.sl 1 false ((wiF (Qbx c) (fltK f c k)).map intA)) (by
  rw [← Qib,← Qcf (k:=k) (by omega)];exact sR)) a1 ha1)
 <| fun p10=>.u 4 [b2]<|
 .be 33 c.kind 15 (fun p13=>.rowNil 6 6 3 1<|.r 2<|.app 8 (.slice none 0 0) ([]:List (List AV)) ([[aI 0]]) (by simp) (by simp) fun V5=>
 .r 1<|.frz 6 [4,5,6,14,19,24,29,33] [] [V5=V5,([]:List (List AV)).length+([[aI 0]]:List (List AV)).length=(([]:List (List AV))++([[aI 0]])).length] ⟨rfl,(by first | rfl | (simp;done) | (simp;omega)),trivial⟩<|
 .r 1<|let L1:Lp (Nat):=⟨fun a1=>⟨[(5,.sl 1 false ((Qaq f c).map intA)),(7,aI (a1:Int)),(6,.sl 1 false ((wiF (Qbx c) (fltK f c a1)).map intA))],[]⟩,fun a1=>(Qaq f c).length-a1,fun a1=>a1≤(Qaq f c).length⟩
 .lp L1 0 (show 0≤(Qaq f c).length from Nat.zero_le _) [(7,aI 0),(6,.sl 1 false (([]:List (List AV))++([[aI 0]])))] [] ⟨sR,sO,(by rw [show wiF (Qbx c) (fltK f c 0)=Qbx c from rfl,show Qbx c=_ from if_pos (by omega)];exact Sub.loose _ _ _),trivial⟩ trivial fun a1 ha1=>
 (fun (k:Nat) (hH1:k≤(Qaq f c).length)=>.r 3<|.lm 39 (Qaq f c) intA<|.r 1<|.bd 40 ((k:Int)<((Qaq f c).length:Int)) (fun p14=>.r 2<|.idxM (Qaq f c) intA k (m:=(k:Int)) rfl (by omega) fun x5 hx5=>
 .r 2<|.bd 47 (x5≥1) (fun p15=>.r 3<|.idx k (m:=(k:Int)) (xs:=(Qaq f c).map intA) (e:=intA x5) rfl (map_some hx5)<|
 .r 1<|.call (Qcw (wiF (Qbx c) (fltK f c k)) x5 (by have h1:=Qhg (fltK f c k) (Qbx c);have h2:=Qd3 f c k;have h3:=Qi0 c;omega))<|
 .r 1<|.run 3 [rng .i64 ((k:Int)+1)] ⟨Qai (by omega) (by omega),trivial⟩<|
 .bk L1 k (k+1) (show (k+1)≤(Qaq f c).length from (by show _≤_;omega)) (show (Qaq f c).length-(k+1)<(Qaq f c).length-k from (by omega)) [(7,aI ((k:Int)+1)),(6,.sl 1 false ((Qcx (wiF (Qbx c) (fltK f c k)) x5).map intA))] [] ⟨sR,sO,Sub.of_eq (by rw [Qou hx5 (by omega)];rfl),trivial⟩ trivial)
 <| fun p15=>.run 3 [rng .i64 ((k:Int)+1)] ⟨Qai (by omega) (by omega),trivial⟩<|
 .bk L1 k (k+1) (show (k+1)≤(Qaq f c).length from (by show _≤_;omega)) (show (Qaq f c).length-(k+1)<(Qaq f c).length-k from (by omega)) [(7,aI ((k:Int)+1)),(6,.sl 1 false ((wiF (Qbx c) (fltK f c k)).map intA))] [] ⟨sR,sO,Sub.of_eq (by rw [Qhx hx5 (by omega)];rfl),trivial⟩ trivial)
 <| fun p14=>.r 2<|.f (.sl 1 false ((Qbh f c).map intA)) [] (.sl 1 false ((wiF (Qbx c) (fltK f c k)).map intA)) (by
  rw [← Qib,← Qcf (k:=k) (by omega)];exact sR)) a1 ha1)
 <| fun p13=>.r 1<|let L1:Lp (Nat):=⟨fun a1=>⟨[(5,.sl 1 false ((Qaq f c).map intA)),(7,aI (a1:Int)),(6,.sl 1 false ((wiF (Qbx c) (fltK f c a1)).map intA))],[]⟩,fun a1=>(Qaq f c).length-a1,fun a1=>a1≤(Qaq f c).length⟩
 .lp L1 0 (show 0≤(Qaq f c).length from Nat.zero_le _) [(7,aI 0),(6,aN)] [] ⟨sR,sO,(by rw [show wiF (Qbx c) (fltK f c 0)=Qbx c from rfl,show Qbx c=_ from if_neg (by omega)];exact Sub.nil _ _),trivial⟩ trivial fun a1 ha1=>
 (fun (k:Nat) (hH1:k≤(Qaq f c).length)=>.r 3<|.lm 39 (Qaq f c) intA<|.r 1<|.bd 40 ((k:Int)<((Qaq f c).length:Int)) (fun p16=>.r 2<|.idxM (Qaq f c) intA k (m:=(k:Int)) rfl (by omega) fun x6 hx6=>
 .r 2<|.bd 47 (x6≥1) (fun p17=>.r 3<|.idx k (m:=(k:Int)) (xs:=(Qaq f c).map intA) (e:=intA x6) rfl (map_some hx6)<|
 .r 1<|.call (Qcw (wiF (Qbx c) (fltK f c k)) x6 (by have h1:=Qhg (fltK f c k) (Qbx c);have h2:=Qd3 f c k;have h3:=Qi0 c;omega))<|
 .r 1<|.run 3 [rng .i64 ((k:Int)+1)] ⟨Qai (by omega) (by omega),trivial⟩<|
 .bk L1 k (k+1) (show (k+1)≤(Qaq f c).length from (by show _≤_;omega)) (show (Qaq f c).length-(k+1)<(Qaq f c).length-k from (by omega)) [(7,aI ((k:Int)+1)),(6,.sl 1 false ((Qcx (wiF (Qbx c) (fltK f c k)) x6).map intA))] [] ⟨sR,sO,Sub.of_eq (by rw [Qou hx6 (by omega)];rfl),trivial⟩ trivial)
 <| fun p17=>.run 3 [rng .i64 ((k:Int)+1)] ⟨Qai (by omega) (by omega),trivial⟩<|
 .bk L1 k (k+1) (show (k+1)≤(Qaq f c).length from (by show _≤_;omega)) (show (Qaq f c).length-(k+1)<(Qaq f c).length-k from (by omega)) [(7,aI ((k:Int)+1)),(6,.sl 1 false ((wiF (Qbx c) (fltK f c k)).map intA))] [] ⟨sR,sO,Sub.of_eq (by rw [Qhx hx6 (by omega)];rfl),trivial⟩ trivial)
 <| fun p16=>.r 2<|.f (.sl 1 false ((Qbh f c).map intA)) [] (.sl 1 false ((wiF (Qbx c) (fltK f c k)).map intA)) (by
  rw [← Qib,← Qcf (k:=k) (by omega)];exact sR)) a1 ha1)
structure Txn where
 stamp:Int
 was:Fsy
 now:Fsy
 looks:List Int
def txnA (t:Txn):List AV:=[aI t.stamp,.sl 5 false (t.was.l.map nodA),aI t.was.next,.sl 5 false (t.now.l.map nodA),aI t.now.next,.sl 1 false (t.looks.map intA)]
noncomputable def Qb0 (t:Txn) (c:Cal):Txn:=⟨t.stamp,t.was,(doF t.now c).1,Qdg (t.looks++Qbh t.now c)⟩
theorem Zb0 (t:Txn) (c:Cal):Asc (Qb0 t c).looks:=Qf5 _
theorem Qsj (t:Txn) (c:Cal):(Qb0 t c).looks.length≤t.looks.length+7:=by
 have h1:=Qjr (t.looks++Qbh t.now c);have h2:=Qf2 t.now c;rw [List.length_append] at h1;show (Qdg (t.looks++Qbh t.now c)).length≤_;omega
theorem Qsi (t:Txn) (c:Cal) (okf:OkF t.now) (okc:OkCal c) (hp:Qar t.now) (hx:t.now.next<4611686018427387904) (hl:t.looks.length≤90000):Qah prog 18 [.agg [aI t.stamp,.sl 5 false (t.was.l.map nodA),aI t.was.next,.sl 5 false (t.now.l.map nodA),aI t.now.next,.sl 1 false (t.looks.map intA)],.agg (calA c)] (.tup [.agg (txnA (Qb0 t c)),.agg (repA (doF t.now c).2)]):=by
 exact Qac func18 (let R:AV:=.tup [.agg (txnA (Qb0 t c)),.agg (repA (doF t.now c).2)];
 .new fun b1=>.new fun b2=>.new fun b3=>.new fun b4=>.u 3 [b1,b2]<|
 .call (Znj t.now c okf okc hp (by omega))<|
 .r 3<|.new fun b5=>.new fun b6=>.u 2 [b5,b6]<|
 let J1:Jn (Unit):=⟨fun j1=>⟨[(4,.ptr 4 b3 0),(5,.ptr 5 b4 0)],[(4,.box b3 31 [aI t.stamp,.sl 5 false (t.was.l.map nodA),aI t.was.next,.sl 5 false ((doF t.now c).1.l.map nodA),aI ((doF t.now c).1.next),.sl 1 false ((Qdg (t.looks++Qbh t.now c)).map intA)]),(5,.box b4 45 [aI ((doF t.now c).2.e),aI ((doF t.now c).2.a),aI ((doF t.now c).2.b),aI ((doF t.now c).2.n),aS ((doF t.now c).2.text),.sl 1 false ((doF t.now c).2.names.map txA)])]⟩,fun _=>True⟩
 .cut J1 (.pick [0,1,2,3,4,5,6,7,8,9]<|.u 10 [b1,b1,b5,b1,b1,b2]<|
 .fork<|.alt (.call (Qov t.now c okf okc hp)<|
 .fork<|.alt (.call (Qeq t.looks (Qbh t.now c) (by have:=Qf2 t.now c;omega))<|
 .pick [12]<|.r 1<|.fork<|.alt (.u 1 [b6]<|
 .pick [14,15]<|.u 2 [b3,b4]<|
 .jo J1 () [] [] sr2 bb2)
 <| .u 1 [b3]<|
 .pick [13,15]<|.u 2 [b6,b4]<|
 .jo J1 () [] [] sr2 bb2)
 <| .u 1 [b6]<|
 .pick [11,12,14,15]<|.call (Qeq t.looks (Qbh t.now c) (by have:=Qf2 t.now c;omega))<|
 .u 3 [b3,b4]<|
 .jo J1 () [] [] sr2 bb2)
 <| .u 1 [b6]<|
 .pick [10,11,12,14,15]<|.call (Qov t.now c okf okc hp)<|
 .call (Qeq t.looks (Qbh t.now c) (by have:=Qf2 t.now c;omega))<|
 .u 3 [b3,b4]<|
 .jo J1 () [] [] sr2 bb2)
 <| fun _ _=>.fi R [b3,b4])
theorem Qf7 (t:Txn) (c:Cal) (okf:OkF t.now) (okc:OkCal c) (hp:Qar t.now) (hx:t.now.next<4611686018427387904) (hl:t.looks.length≤90000) (T:TreeP t.now) (hm:midF t.now) (htx:c.text.length≤500000) (ha:Asc t.looks):Qah prog 19 [.agg [aI t.stamp,.sl 5 false (t.was.l.map nodA),aI t.was.next,.sl 5 false (t.now.l.map nodA),aI t.now.next,.sl 1 false (t.looks.map intA)],.agg (calA c)] (.tup [.agg (txnA (Qb0 t c)),.agg (repA (doF t.now c).2)]):=by
 have htl:=Qf2 t.now c;exact Qac func19 (
 .new fun b1=>.new fun b2=>.new fun b3=>.new fun b4=>.u 3 [b1,b2]<|
 .call (Qu6 t.now c okf okc hp)<|
 .r 1<|.u 3 [b1,b2]<|
 .call (Zh8 t.now c okf okc hp (by omega) T hm htx)<|
 .r 3<|.new fun b5=>.new fun b6=>.u 2 [b5,b6]<|
 .lit0 fun V1=>.u 2 [b1]<|
 .app 8 V1 ([]:List (List AV)) (t.looks.map intA) (by simp only [List.length_map,List.length_nil,List.length_append];omega) (by simp only [List.length_map,List.length_nil,List.length_append];omega) fun V2=>
 .r 1<|.frz 22 [2,4,5,6,7,8,9] [2,4,5,7,8] [V2=V2,([]:List (List AV)).length+(t.looks.map intA).length=(([]:List (List AV))++(t.looks.map intA)).length] ⟨rfl,(by first | rfl | (simp;done) | (simp;omega)),trivial⟩<|
 .r 1<|let L1:Lp (Nat):=⟨fun a1=>⟨[(2,.ptr 2 b1 0),(4,.ptr 4 b3 0),(5,.ptr 5 b4 0),(6,.sl 1 false ((Qbh t.now c).map intA)),(7,.ptr 7 b5 0),(8,.ptr 8 b6 0),(10,aI (a1:Int)),(9,.sl 1 false ((wiF t.looks ((Qbh t.now c).take a1)).map intA))],[(2,.box b1 31 [aI t.stamp,.sl 5 false (t.was.l.map nodA),aI t.was.next,.sl 5 false (t.now.l.map nodA),aI t.now.next,.sl 1 false (t.looks.map intA)]),(4,.box b3 31 [aI 0,aN,aI 0,aN,aI 0,aN]),(5,.box b4 45 [aI 0,aI 0,aI 0,aI 0,aS ([]),aN]),(7,.box b5 28 [.sl 5 false ((doF t.now c).1.l.map nodA),aI ((doF t.now c).1.next)]),(8,.box b6 45 [aI ((doF t.now c).2.e),aI ((doF t.now c).2.a),aI ((doF t.now c).2.b),aI ((doF t.now c).2.n),aS ((doF t.now c).2.text),.sl 1 false ((doF t.now c).2.names.map txA)])]⟩,fun a1=>(Qbh t.now c).length-a1,fun a1=>a1≤(Qbh t.now c).length⟩
 .lp L1 0 (show 0≤(Qbh t.now c).length from Nat.zero_le _) [(10,aI 0),(9,.sl 1 false (([]:List (List AV))++(t.looks.map intA)))] [] ⟨sR,sR,sR,sR,sR,sR,sO,Sub.loose _ _ _,trivial⟩ bb5 fun a1 ha1=>
 (fun (k:Nat) (hH1:k≤(Qbh t.now c).length)=>.r 3<|.lm 28 (Qbh t.now c) intA<|.r 1<|.bd 29 ((k:Int)<((Qbh t.now c).length:Int)) (fun p1=>.r 3<|.idxM (Qbh t.now c) intA k (m:=(k:Int)) rfl (by omega) fun x1 hx1=>
 .r 1<|.call (Qcw (wiF t.looks ((Qbh t.now c).take k)) x1 (by have h1:=Qhg ((Qbh t.now c).take k) t.looks;have h2:=Qf2 t.now c;rw [List.length_take] at h1;omega))<|
 .r 1<|.run 3 [rng .i64 ((k:Int)+1)] ⟨Qai (by omega) (by omega),trivial⟩<|
 .bk L1 k (k+1) (show (k+1)≤(Qbh t.now c).length from (by show _≤_;omega)) (show (Qbh t.now c).length-(k+1)<(Qbh t.now c).length-k from (by omega)) [(10,aI ((k:Int)+1)),(9,.sl 1 false ((Qcx (wiF t.looks ((Qbh t.now c).take k)) x1).map intA))] [] ⟨sR,sR,sR,sR,sR,sR,sO,Sub.of_eq (by rw [Zg9 hx1];rfl),trivial⟩ bb5)
 <| fun p1=>let J1:Jn (Unit):=⟨fun j1=>⟨[(4,.ptr 4 b3 0),(5,.ptr 5 b4 0)],[(4,.box b3 31 [aI t.stamp,.sl 5 false (t.was.l.map nodA),aI t.was.next,.sl 5 false ((doF t.now c).1.l.map nodA),aI ((doF t.now c).1.next),.sl 1 false ((wiF t.looks ((Qbh t.now c).take k)).map intA)]),(5,.box b4 45 [aI ((doF t.now c).2.e),aI ((doF t.now c).2.a),aI ((doF t.now c).2.b),aI ((doF t.now c).2.n),aS ((doF t.now c).2.text),.sl 1 false ((doF t.now c).2.names.map txA)])]⟩,fun _=>True⟩
 .cut J1 (.pick [0,1,2,3,4,5,6]<|.u 7 [b1,b1,b5]<|
 .fork<|.alt (.u 1 [b6]<|
 .pick [8,9]<|.u 2 [b3,b4]<|
 .jo J1 () [] [] sr2 bb2)
 <| .u 1 [b3]<|
 .pick [7,9]<|.u 2 [b6,b4]<|
 .jo J1 () [] [] sr2 bb2)
 <| fun _ _=>.f (.tup [.agg (txnA (Qb0 t c)),.agg (repA (doF t.now c).2)]) [b3,b4] (.tup [.agg [aI t.stamp,.sl 5 false (t.was.l.map nodA),aI t.was.next,.sl 5 false ((doF t.now c).1.l.map nodA),aI ((doF t.now c).1.next),.sl 1 false ((wiF t.looks ((Qbh t.now c).take k)).map intA)],.agg [aI ((doF t.now c).2.e),aI ((doF t.now c).2.a),aI ((doF t.now c).2.b),aI ((doF t.now c).2.n),aS ((doF t.now c).2.text),.sl 1 false ((doF t.now c).2.names.map txA)]]) (by
  unfold Qb0;rw [← Zha ha,show (Qbh t.now c).take k=Qbh t.now c from Qat (by omega)]
  first | exact sR | exact Sub.tups ⟨Sub.aggs ⟨sR,sR,sR,sR,sR,Sub.loose _ _ _,trivial⟩,sR,trivial⟩)) a1 ha1)
end Go.Proofs.YtahlldgocpabjaaGreat
