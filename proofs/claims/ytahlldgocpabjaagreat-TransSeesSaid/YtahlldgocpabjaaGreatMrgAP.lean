import Derived.Test.YtahlldgocpabjaaGreatMrgAO
import Derived.Test.YtahlldgocpabjaaGreatMrgAL
set_option maxRecDepth 100000
set_option maxHeartbeats 8000000
set_option linter.unusedVariables false
set_option linter.unusedSimpArgs false
namespace Go.Proofs.YtahlldgocpabjaaGreat
open Go Go.RowKit Copyhold Go.Proofs.Tryz
def fltK (f:Fsy) (c:Cal) (k:Nat):List Int:=((Qao f c).take k).filter fun x=>decide (1≤x)
def fltF (f:Fsy) (c:Cal):List Int:=(Qao f c).filter fun x=>decide (1≤x)
def Qbh (f:Fsy) (c:Cal):List Int:=if c.kind=6∨c.kind=7∨c.kind=8∨c.kind=12∨c.kind=15 then 0 :: fltF f c else fltF f c
theorem Qrb {f:Fsy} {c:Cal} {k:Nat} {x:Int} (h:(Qao f c)[k]?=some x) (q:1≤x):fltK f c (k+1)=fltK f c k++[x]:=by
 unfold fltK;rw [Qap h,List.filter_append];simp [q]
theorem Qh3 {f:Fsy} {c:Cal} {k:Nat} {x:Int} (h:(Qao f c)[k]?=some x) (q:¬ 1≤x):fltK f c (k+1)=fltK f c k:=by
 unfold fltK;rw [Qap h,List.filter_append];simp [q]
theorem Qd6 (f:Fsy) (c:Cal) (k:Nat):(fltK f c k).length≤6:=by
 have h1:=List.length_filter_le (fun x=>decide ((1:Int)≤x)) ((Qao f c).take k);have h2:=Qlb f c;rw [List.length_take] at h1;unfold fltK;omega
theorem Qch {f:Fsy} {c:Cal} {k:Nat} (h:(Qao f c).length≤k):fltK f c k=fltF f c:=by unfold fltK;rw [Qav h];rfl
theorem Zan (f:Fsy) (c:Cal):Asc (Qao f c):=by
 unfold Qao
 split
 ·unfold Asc;simp
 ·exact Qf7 _
theorem Qyi (f:Fsy) (c:Cal):Asc (fltF f c):=List.Pairwise.filter _ (Zan f c)
theorem Qkj {f:Fsy} {c:Cal} {x:Int}:x∈fltF f c↔x∈Qao f c∧1≤x:=by unfold fltF;rw [List.mem_filter];simp
theorem Zi3 {f:Fsy} {c:Cal} {x:Int} (h:x∈fltF f c):1≤x:=(Qkj.1 h).2
theorem Qsj (f:Fsy) (c:Cal):Asc (Qbh f c):=by
 unfold Qbh
 split
 ·exact List.pairwise_cons.2 ⟨fun x hx=>by have:=Zi3 hx;omega,Qyi f c⟩
 ·exact Qyi f c
theorem Qsi {f:Fsy} {c:Cal} {x:Int}:x∈Qbh f c↔(x=0∧Qjr c)∨(x∈Qao f c∧1≤x):=by
 unfold Qbh
 split
 ·rename_i h;rw [List.mem_cons,Qkj];constructor
  ·rintro (e | e)
   ·exact .inl ⟨e,h⟩
   ·exact .inr e
  ·rintro (e | e)
   ·exact .inl e.1
   ·exact .inr e
 ·rename_i h;rw [Qkj];constructor
  ·exact .inr
  ·rintro (e | e)
   ·exact absurd e.2 h
   ·exact e
theorem Qf3 (f:Fsy) (c:Cal):(Qbh f c).length≤7:=by
 have h:(fltF f c).length≤6:=by rw [← Qch (Nat.le_refl _)];exact Qd6 f c _
 unfold Qbh
 split
 ·rw [List.length_cons];omega
 ·omega
theorem Qf4 {f:Fsy} {c:Cal} (h:Qjr c):Qdg ([0]++fltF f c)=Qbh f c:=Qll (Qf7 _) (Qsj f c) fun x=>by
 rw [Qhl,Qsi,List.mem_append,Qkj,List.mem_singleton];constructor
 ·rintro (e | e)
  ·exact .inl ⟨e,h⟩
  ·exact .inr e
 ·rintro (e | e)
  ·exact .inl e.1
  ·exact .inr e
theorem Zg9 {f:Fsy} {c:Cal} (h:¬ Qjr c):Qbh f c=fltF f c:=if_neg h
def wiF (l:List Int) (ns:List Int):List Int:=ns.foldl Qcx l
theorem Quw {x:Int}:∀ {ns l:List Int},x∈wiF l ns↔x∈l∨x∈ns
 | [],l=>by simp [wiF]
 | n :: r,l=>by
  show x∈wiF (Qcx l n) r↔_;rw [Quw,Qjo,List.mem_cons];constructor
  ·rintro ((h | h) | h)
   ·exact .inr (.inl h)
   ·exact .inl h
   ·exact .inr (.inr h)
  ·rintro (h | h | h)
   ·exact .inl (.inr h)
   ·exact .inl (.inl h)
   ·exact .inr h
theorem Qux:∀ {ns l:List Int},Asc l→Asc (wiF l ns)
 | [],_,h=>h
 | n :: r,l,h=>Qux (ns:=r) (Qjp h n)
theorem Qhj:∀ (ns l:List Int),(wiF l ns).length≤l.length+ns.length
 | [],l=>Nat.le_refl _
 | n :: r,l=>by
  have h1:=Qhj r (Qcx l n);have h2:=Qie l n;show (wiF (Qcx l n) r).length≤_;rw [List.length_cons];omega
theorem Zg4 {l ns:List Int} {k:Nat} {x:Int} (h:ns[k]?=some x):wiF l (ns.take (k+1))=Qcx (wiF l (ns.take k)) x:=by
 unfold wiF;rw [Qap h,List.foldl_append];rfl
theorem Zg5 {l ns:List Int} (h:Asc l):wiF l ns=Qdg (l++ns):=Qll (Qux h) (Qf7 _) fun x=>by
 rw [Quw,Qhl,List.mem_append]
def Qby (c:Cal):List Int:=if c.kind=6∨c.kind=7∨c.kind=8∨c.kind=12∨c.kind=15 then [0] else []
theorem Zj6 (c:Cal):Asc (Qby c):=by
 unfold Qby
 split
 ·unfold Asc;simp
 ·exact List.Pairwise.nil
theorem Qi7 (c:Cal):(Qby c).length≤1:=by
 unfold Qby
 split<;>simp
theorem Qig (f:Fsy) (c:Cal):wiF (Qby c) (fltF f c)=Qbh f c:=Qll (Qux (Zj6 c)) (Qsj f c) fun x=>by
 rw [Quw,Qsi,Qkj];unfold Qby
 split
 ·rename_i h;rw [List.mem_singleton];constructor
  ·rintro (e | e)
   ·exact .inl ⟨e,h⟩
   ·exact .inr e
  ·rintro (e | e)
   ·exact .inl e.1
   ·exact .inr e
 ·rename_i h;constructor
  ·rintro (e | e)
   ·cases e
   ·exact .inr e
  ·rintro (e | e)
   ·exact absurd e.2 h
   ·exact .inr e
theorem Qo1 {f:Fsy} {c:Cal} {k:Nat} {x:Int} (h:(Qao f c)[k]?=some x) (q:1≤x):wiF (Qby c) (fltK f c (k+1))=Qcx (wiF (Qby c) (fltK f c k)) x:=by
 rw [Qrb h q];unfold wiF;rw [List.foldl_append];rfl
theorem Qo2 (f:Fsy) (c:Cal) (okf:OkF f) (okc:OkCal c) (hp:Qaq f):Qah prog 25 [.agg (fsyA f),.agg (calA c)] (.sl 1 false ((Qbh f c).map intA)):=by
 have hlu:=Qlb f c;exact Qab func25 (
 .new fun b1=>.new fun b2=>.r 1<|.r 1<|.rowNil 5 5 3 1<|.u 2 [b1,b2]<|
 .call (Qv6 f c okf okc hp)<|
 .r 1<|.lm 11 (Qao f c) intA<|.r 1<|let L1:Lp (Nat × Value):=⟨fun a1=>⟨[(3,.ptr 3 b2 0),(10,.sl 1 false ((Qao f c).map intA)),(11,aI ((Qao f c).length:Int)),(12,aI (a1.1:Int)),(5,.rw 5 a1.2 ((fltK f c a1.1).length))],[(3,.box b2 33 (calA c)),(5,.row a1.2 3 1 ((fltK f c a1.1).map intA))]⟩,fun a1=>(Qao f c).length-a1.1,fun a1=>a1.1≤(Qao f c).length⟩
 .lp L1 (0,.slice none 0 0) (show 0≤(Qao f c).length from Nat.zero_le _) [(12,aI 0),(5,.rw 5 (.slice none 0 0) 0)] [(5,.row (.slice none 0 0) 3 1 ([]))] ⟨sR,sR,sR,sO,sR,trivial⟩ bb2 fun a1 ha1=>
 (fun (k:Nat) (V:Value) (hH1:k≤(Qao f c).length)=>.r 1<|.bd 13 ((k:Int)<((Qao f c).length:Int)) (fun p1=>.idxM (Qao f c) intA k (m:=(k:Int)) rfl (by omega) fun x1 hx1=>
 .r 2<|.r 2<|.bd 17 (x1≥1) (fun p2=>.r 3<|.app 8 V ((fltK f c k).map intA) ([[aI x1]]) (by have:=Qd6 f c k;simp only [List.length_map,List.length_cons,List.length_nil];omega) (by have:=Qd6 f c k;simp only [List.length_map,List.length_cons,List.length_nil];omega) fun V1=>
 .r 1<|.run 2 [rng .i64 ((k:Int)+1)] ⟨Qaj (by omega) (by omega),trivial⟩<|
 .bk L1 (k,V) ((k+1),V1) (show (k+1)≤(Qao f c).length from (by show _≤_;omega)) (show (Qao f c).length-(k+1)<(Qao f c).length-k from (by omega)) [(12,aI ((k:Int)+1)),(5,.rw 5 V1 (((fltK f c k).map intA).length+([[aI x1]]:List (List AV)).length))] [(5,.row V1 3 1 (((fltK f c k).map intA)++([[aI x1]])))] ⟨sR,sR,sR,sO,Sub.of_eq (congrArg (AV.rw 5 V1) (by rw [Qrb hx1 (by omega)];simp)),trivial⟩ ⟨sB,⟨_,rfl,SubB.of_eq (by rw [Qrb hx1 (by omega)];simp [intA])⟩,trivial⟩)
 <| fun p2=>.run 2 [rng .i64 ((k:Int)+1)] ⟨Qaj (by omega) (by omega),trivial⟩<|
 .bk L1 (k,V) ((k+1),V) (show (k+1)≤(Qao f c).length from (by show _≤_;omega)) (show (Qao f c).length-(k+1)<(Qao f c).length-k from (by omega)) [(12,aI ((k:Int)+1)),(5,.rw 5 V ((fltK f c k).length))] [(5,.row V 3 1 ((fltK f c k).map intA))] ⟨sR,sR,sR,sO,Sub.of_eq (congrArg (AV.rw 5 V) (by rw [Qh3 hx1 (by omega)])),trivial⟩ ⟨sB,⟨_,rfl,SubB.of_eq (by rw [Qh3 hx1 (by omega)])⟩,trivial⟩)
 <| fun p1=>.u 2 [b2]<|
 .r 2<|.be 25 c.kind 6 (fun p3=>.frz 5 [5,13,25] [] [V=V,(fltK f c k).length=((fltK f c k).map intA).length] ⟨rfl,(by first | rfl | (simp;done) | (simp;omega)),trivial⟩<|
 .r 2<|.cs (args0:=[.sl 1 true ([[aI 0]]),.sl 1 false ((fltK f c k).map intA)]) (Qet [0] (fltF f c) (by have:=Qd6 f c k;rw [← Qch (f:=f) (c:=c) (k:=k) (by omega)];simp;omega)) ⟨Sub.loose _ _ _,Sub.of_eq (by rw [Qch (by omega)]),trivial⟩<|
 .r 1<|.f (.sl 1 false ((Qbh f c).map intA)) [] (.sl 1 false ((Qdg ([0]++fltF f c)).map intA)) (by
  rw [← Qf4 (by unfold Qjr;omega)];exact sR))
 <| fun p3=>.r 2<|.be 25 c.kind 7 (fun p4=>.frz 5 [5,13,25] [] [V=V,(fltK f c k).length=((fltK f c k).map intA).length] ⟨rfl,(by first | rfl | (simp;done) | (simp;omega)),trivial⟩<|
 .r 2<|.cs (args0:=[.sl 1 true ([[aI 0]]),.sl 1 false ((fltK f c k).map intA)]) (Qet [0] (fltF f c) (by have:=Qd6 f c k;rw [← Qch (f:=f) (c:=c) (k:=k) (by omega)];simp;omega)) ⟨Sub.loose _ _ _,Sub.of_eq (by rw [Qch (by omega)]),trivial⟩<|
 .r 1<|.f (.sl 1 false ((Qbh f c).map intA)) [] (.sl 1 false ((Qdg ([0]++fltF f c)).map intA)) (by
  rw [← Qf4 (by unfold Qjr;omega)];exact sR))
 <| fun p4=>.r 2<|.be 25 c.kind 8 (fun p5=>.frz 5 [5,13,25] [] [V=V,(fltK f c k).length=((fltK f c k).map intA).length] ⟨rfl,(by first | rfl | (simp;done) | (simp;omega)),trivial⟩<|
 .r 2<|.cs (args0:=[.sl 1 true ([[aI 0]]),.sl 1 false ((fltK f c k).map intA)]) (Qet [0] (fltF f c) (by have:=Qd6 f c k;rw [← Qch (f:=f) (c:=c) (k:=k) (by omega)];simp;omega)) ⟨Sub.loose _ _ _,Sub.of_eq (by rw [Qch (by omega)]),trivial⟩<|
 .r 1<|.f (.sl 1 false ((Qbh f c).map intA)) [] (.sl 1 false ((Qdg ([0]++fltF f c)).map intA)) (by
  rw [← Qf4 (by unfold Qjr;omega)];exact sR))
 <| fun p5=>.r 2<|.be 25 c.kind 12 (fun p6=>.frz 5 [5,13,25] [] [V=V,(fltK f c k).length=((fltK f c k).map intA).length] ⟨rfl,(by first | rfl | (simp;done) | (simp;omega)),trivial⟩<|
 .r 2<|.cs (args0:=[.sl 1 true ([[aI 0]]),.sl 1 false ((fltK f c k).map intA)]) (Qet [0] (fltF f c) (by have:=Qd6 f c k;rw [← Qch (f:=f) (c:=c) (k:=k) (by omega)];simp;omega)) ⟨Sub.loose _ _ _,Sub.of_eq (by rw [Qch (by omega)]),trivial⟩<|
 .r 1<|.f (.sl 1 false ((Qbh f c).map intA)) [] (.sl 1 false ((Qdg ([0]++fltF f c)).map intA)) (by
  rw [← Qf4 (by unfold Qjr;omega)];exact sR))
 <| fun p6=>.r 2<|.be 25 c.kind 15 (fun p7=>.frz 5 [5,13,25] [] [V=V,(fltK f c k).length=((fltK f c k).map intA).length] ⟨rfl,(by first | rfl | (simp;done) | (simp;omega)),trivial⟩<|
 .r 2<|.cs (args0:=[.sl 1 true ([[aI 0]]),.sl 1 false ((fltK f c k).map intA)]) (Qet [0] (fltF f c) (by have:=Qd6 f c k;rw [← Qch (f:=f) (c:=c) (k:=k) (by omega)];simp;omega)) ⟨Sub.loose _ _ _,Sub.of_eq (by rw [Qch (by omega)]),trivial⟩<|
 .r 1<|.f (.sl 1 false ((Qbh f c).map intA)) [] (.sl 1 false ((Qdg ([0]++fltF f c)).map intA)) (by
  rw [← Qf4 (by unfold Qjr;omega)];exact sR))
 <| fun p7=>.r 2<|.frz 5 [4] [] [V=V,(fltK f c k).length=((fltK f c k).map intA).length] ⟨rfl,(by first | rfl | (simp;done) | (simp;omega)),trivial⟩<|
 .f (.sl 1 false ((Qbh f c).map intA)) [] (.sl 1 false ((fltK f c k).map intA)) (by
  rw [Zg9 (by unfold Qjr;omega),← Qch (k:=k) (by omega)]
  first | exact sR | exact Sub.loose _ _ _)) a1.1 a1.2 ha1)
theorem Qva (f:Fsy) (c:Cal) (okf:OkF f) (okc:OkCal c) (hp:Qaq f):Qah prog 26 [.agg (fsyA f),.agg (calA c)] (.sl 1 false ((Qbh f c).map intA)):=by
 have hlu:=Qlb f c;exact Qab func26 (
 .new fun b1=>.new fun b2=>.r 1<|.u 2 [b1,b2]<|
 .call ((Zcu hp ▸ Qvj f c okf okc hp))<|
 .r 1<|.r 1<|.u 4 [b2]<|
 .be 14 c.kind 6 (fun p1=>.r 19<|.rowNil 6 6 3 1<|.r 2<|.app 8 (.slice none 0 0) ([]:List (List AV)) ([[aI 0]]) (by simp) (by simp) fun V1=>
 .r 1<|.frz 6 [4,5,6,14,18,19,23,24,28,29,33] [] [V1=V1,([]:List (List AV)).length+([[aI 0]]:List (List AV)).length=(([]:List (List AV))++([[aI 0]])).length] ⟨rfl,(by first | rfl | (simp;done) | (simp;omega)),trivial⟩<|
 .r 1<|let L1:Lp (Nat):=⟨fun a1=>⟨[(5,.sl 1 false ((Qao f c).map intA)),(7,aI (a1:Int)),(6,.sl 1 false ((wiF (Qby c) (fltK f c a1)).map intA))],[]⟩,fun a1=>(Qao f c).length-a1,fun a1=>a1≤(Qao f c).length⟩
 .lp L1 0 (show 0≤(Qao f c).length from Nat.zero_le _) [(7,aI 0),(6,.sl 1 false (([]:List (List AV))++([[aI 0]])))] [] ⟨sR,sO,(by rw [show wiF (Qby c) (fltK f c 0)=Qby c from rfl,show Qby c=_ from if_pos (by omega)];exact Sub.loose _ _ _),trivial⟩ trivial fun a1 ha1=>
 (fun (k:Nat) (hH1:k≤(Qao f c).length)=>.r 3<|.lm 39 (Qao f c) intA<|.r 1<|.bd 40 ((k:Int)<((Qao f c).length:Int)) (fun p2=>.r 2<|.idxM (Qao f c) intA k (m:=(k:Int)) rfl (by omega) fun x1 hx1=>
 .r 2<|.bd 47 (x1≥1) (fun p3=>.r 3<|.idx k (m:=(k:Int)) (xs:=(Qao f c).map intA) (e:=intA x1) rfl (map_some hx1)<|
 .r 1<|.call (Qcw (wiF (Qby c) (fltK f c k)) x1 (by have h1:=Qhj (fltK f c k) (Qby c);have h2:=Qd6 f c k;have h3:=Qi7 c;omega))<|
 .r 1<|.run 3 [rng .i64 ((k:Int)+1)] ⟨Qaj (by omega) (by omega),trivial⟩<|
 .bk L1 k (k+1) (show (k+1)≤(Qao f c).length from (by show _≤_;omega)) (show (Qao f c).length-(k+1)<(Qao f c).length-k from (by omega)) [(7,aI ((k:Int)+1)),(6,.sl 1 false ((Qcx (wiF (Qby c) (fltK f c k)) x1).map intA))] [] ⟨sR,sO,Sub.of_eq (by rw [Qo1 hx1 (by omega)];rfl),trivial⟩ trivial)
 <| fun p3=>.run 3 [rng .i64 ((k:Int)+1)] ⟨Qaj (by omega) (by omega),trivial⟩<|
 .bk L1 k (k+1) (show (k+1)≤(Qao f c).length from (by show _≤_;omega)) (show (Qao f c).length-(k+1)<(Qao f c).length-k from (by omega)) [(7,aI ((k:Int)+1)),(6,.sl 1 false ((wiF (Qby c) (fltK f c k)).map intA))] [] ⟨sR,sO,Sub.of_eq (by rw [Qh3 hx1 (by omega)];rfl),trivial⟩ trivial)
 <| fun p2=>.r 2<|.f (.sl 1 false ((Qbh f c).map intA)) [] (.sl 1 false ((wiF (Qby c) (fltK f c k)).map intA)) (by
  rw [← Qig,← Qch (k:=k) (by omega)];exact sR)) a1 ha1)
 <| fun p1=>.u 5 [b2]<|
 .be 19 c.kind 7 (fun p4=>.r 14<|.rowNil 6 6 3 1<|.r 2<|.app 8 (.slice none 0 0) ([]:List (List AV)) ([[aI 0]]) (by simp) (by simp) fun V2=>
 .r 1<|.frz 6 [4,5,6,14,19,23,24,28,29,33] [] [V2=V2,([]:List (List AV)).length+([[aI 0]]:List (List AV)).length=(([]:List (List AV))++([[aI 0]])).length] ⟨rfl,(by first | rfl | (simp;done) | (simp;omega)),trivial⟩<|
 .r 1<|let L1:Lp (Nat):=⟨fun a1=>⟨[(5,.sl 1 false ((Qao f c).map intA)),(7,aI (a1:Int)),(6,.sl 1 false ((wiF (Qby c) (fltK f c a1)).map intA))],[]⟩,fun a1=>(Qao f c).length-a1,fun a1=>a1≤(Qao f c).length⟩
 .lp L1 0 (show 0≤(Qao f c).length from Nat.zero_le _) [(7,aI 0),(6,.sl 1 false (([]:List (List AV))++([[aI 0]])))] [] ⟨sR,sO,(by rw [show wiF (Qby c) (fltK f c 0)=Qby c from rfl,show Qby c=_ from if_pos (by omega)];exact Sub.loose _ _ _),trivial⟩ trivial fun a1 ha1=>
 (fun (k:Nat) (hH1:k≤(Qao f c).length)=>.r 3<|.lm 39 (Qao f c) intA<|.r 1<|.bd 40 ((k:Int)<((Qao f c).length:Int)) (fun p5=>.r 2<|.idxM (Qao f c) intA k (m:=(k:Int)) rfl (by omega) fun x2 hx2=>
 .r 2<|.bd 47 (x2≥1) (fun p6=>.r 3<|.idx k (m:=(k:Int)) (xs:=(Qao f c).map intA) (e:=intA x2) rfl (map_some hx2)<|
 .r 1<|.call (Qcw (wiF (Qby c) (fltK f c k)) x2 (by have h1:=Qhj (fltK f c k) (Qby c);have h2:=Qd6 f c k;have h3:=Qi7 c;omega))<|
 .r 1<|.run 3 [rng .i64 ((k:Int)+1)] ⟨Qaj (by omega) (by omega),trivial⟩<|
 .bk L1 k (k+1) (show (k+1)≤(Qao f c).length from (by show _≤_;omega)) (show (Qao f c).length-(k+1)<(Qao f c).length-k from (by omega)) [(7,aI ((k:Int)+1)),(6,.sl 1 false ((Qcx (wiF (Qby c) (fltK f c k)) x2).map intA))] [] ⟨sR,sO,Sub.of_eq (by rw [Qo1 hx2 (by omega)];rfl),trivial⟩ trivial)
 <| fun p6=>.run 3 [rng .i64 ((k:Int)+1)] ⟨Qaj (by omega) (by omega),trivial⟩<|
 .bk L1 k (k+1) (show (k+1)≤(Qao f c).length from (by show _≤_;omega)) (show (Qao f c).length-(k+1)<(Qao f c).length-k from (by omega)) [(7,aI ((k:Int)+1)),(6,.sl 1 false ((wiF (Qby c) (fltK f c k)).map intA))] [] ⟨sR,sO,Sub.of_eq (by rw [Qh3 hx2 (by omega)];rfl),trivial⟩ trivial)
 <| fun p5=>.r 2<|.f (.sl 1 false ((Qbh f c).map intA)) [] (.sl 1 false ((wiF (Qby c) (fltK f c k)).map intA)) (by
  rw [← Qig,← Qch (k:=k) (by omega)];exact sR)) a1 ha1)
 <| fun p4=>.u 5 [b2]<|
 .be 24 c.kind 8 (fun p7=>.r 9<|.rowNil 6 6 3 1<|.r 2<|.app 8 (.slice none 0 0) ([]:List (List AV)) ([[aI 0]]) (by simp) (by simp) fun V3=>
 .r 1<|.frz 6 [4,5,6,14,19,24,28,29,33] [] [V3=V3,([]:List (List AV)).length+([[aI 0]]:List (List AV)).length=(([]:List (List AV))++([[aI 0]])).length] ⟨rfl,(by first | rfl | (simp;done) | (simp;omega)),trivial⟩<|
 .r 1<|let L1:Lp (Nat):=⟨fun a1=>⟨[(5,.sl 1 false ((Qao f c).map intA)),(7,aI (a1:Int)),(6,.sl 1 false ((wiF (Qby c) (fltK f c a1)).map intA))],[]⟩,fun a1=>(Qao f c).length-a1,fun a1=>a1≤(Qao f c).length⟩
 .lp L1 0 (show 0≤(Qao f c).length from Nat.zero_le _) [(7,aI 0),(6,.sl 1 false (([]:List (List AV))++([[aI 0]])))] [] ⟨sR,sO,(by rw [show wiF (Qby c) (fltK f c 0)=Qby c from rfl,show Qby c=_ from if_pos (by omega)];exact Sub.loose _ _ _),trivial⟩ trivial fun a1 ha1=>
 (fun (k:Nat) (hH1:k≤(Qao f c).length)=>.r 3<|.lm 39 (Qao f c) intA<|.r 1<|.bd 40 ((k:Int)<((Qao f c).length:Int)) (fun p8=>.r 2<|.idxM (Qao f c) intA k (m:=(k:Int)) rfl (by omega) fun x3 hx3=>
 .r 2<|.bd 47 (x3≥1) (fun p9=>.r 3<|.idx k (m:=(k:Int)) (xs:=(Qao f c).map intA) (e:=intA x3) rfl (map_some hx3)<|
 .r 1<|.call (Qcw (wiF (Qby c) (fltK f c k)) x3 (by have h1:=Qhj (fltK f c k) (Qby c);have h2:=Qd6 f c k;have h3:=Qi7 c;omega))<|
 .r 1<|.run 3 [rng .i64 ((k:Int)+1)] ⟨Qaj (by omega) (by omega),trivial⟩<|
 .bk L1 k (k+1) (show (k+1)≤(Qao f c).length from (by show _≤_;omega)) (show (Qao f c).length-(k+1)<(Qao f c).length-k from (by omega)) [(7,aI ((k:Int)+1)),(6,.sl 1 false ((Qcx (wiF (Qby c) (fltK f c k)) x3).map intA))] [] ⟨sR,sO,Sub.of_eq (by rw [Qo1 hx3 (by omega)];rfl),trivial⟩ trivial)
 <| fun p9=>.run 3 [rng .i64 ((k:Int)+1)] ⟨Qaj (by omega) (by omega),trivial⟩<|
 .bk L1 k (k+1) (show (k+1)≤(Qao f c).length from (by show _≤_;omega)) (show (Qao f c).length-(k+1)<(Qao f c).length-k from (by omega)) [(7,aI ((k:Int)+1)),(6,.sl 1 false ((wiF (Qby c) (fltK f c k)).map intA))] [] ⟨sR,sO,Sub.of_eq (by rw [Qh3 hx3 (by omega)];rfl),trivial⟩ trivial)
 <| fun p8=>.r 2<|.f (.sl 1 false ((Qbh f c).map intA)) [] (.sl 1 false ((wiF (Qby c) (fltK f c k)).map intA)) (by
  rw [← Qig,← Qch (k:=k) (by omega)];exact sR)) a1 ha1)
 <| fun p7=>.u 5 [b2]<|
 .be 29 c.kind 12 (fun p10=>.r 4<|.rowNil 6 6 3 1<|.r 2<|.app 8 (.slice none 0 0) ([]:List (List AV)) ([[aI 0]]) (by simp) (by simp) fun V4=>
 .r 1<|.frz 6 [4,5,6,14,19,24,29,33] [] [V4=V4,([]:List (List AV)).length+([[aI 0]]:List (List AV)).length=(([]:List (List AV))++([[aI 0]])).length] ⟨rfl,(by first | rfl | (simp;done) | (simp;omega)),trivial⟩<|
 .r 1<|let L1:Lp (Nat):=⟨fun a1=>⟨[(5,.sl 1 false ((Qao f c).map intA)),(7,aI (a1:Int)),(6,.sl 1 false ((wiF (Qby c) (fltK f c a1)).map intA))],[]⟩,fun a1=>(Qao f c).length-a1,fun a1=>a1≤(Qao f c).length⟩
 .lp L1 0 (show 0≤(Qao f c).length from Nat.zero_le _) [(7,aI 0),(6,.sl 1 false (([]:List (List AV))++([[aI 0]])))] [] ⟨sR,sO,(by rw [show wiF (Qby c) (fltK f c 0)=Qby c from rfl,show Qby c=_ from if_pos (by omega)];exact Sub.loose _ _ _),trivial⟩ trivial fun a1 ha1=>
 (fun (k:Nat) (hH1:k≤(Qao f c).length)=>.r 3<|.lm 39 (Qao f c) intA<|.r 1<|.bd 40 ((k:Int)<((Qao f c).length:Int)) (fun p11=>.r 2<|.idxM (Qao f c) intA k (m:=(k:Int)) rfl (by omega) fun x4 hx4=>
 .r 2<|.bd 47 (x4≥1) (fun p12=>.r 3<|.idx k (m:=(k:Int)) (xs:=(Qao f c).map intA) (e:=intA x4) rfl (map_some hx4)<|
 .r 1<|.call (Qcw (wiF (Qby c) (fltK f c k)) x4 (by have h1:=Qhj (fltK f c k) (Qby c);have h2:=Qd6 f c k;have h3:=Qi7 c;omega))<|
 .r 1<|.run 3 [rng .i64 ((k:Int)+1)] ⟨Qaj (by omega) (by omega),trivial⟩<|
 .bk L1 k (k+1) (show (k+1)≤(Qao f c).length from (by show _≤_;omega)) (show (Qao f c).length-(k+1)<(Qao f c).length-k from (by omega)) [(7,aI ((k:Int)+1)),(6,.sl 1 false ((Qcx (wiF (Qby c) (fltK f c k)) x4).map intA))] [] ⟨sR,sO,Sub.of_eq (by rw [Qo1 hx4 (by omega)];rfl),trivial⟩ trivial)
 <| fun p12=>.run 3 [rng .i64 ((k:Int)+1)] ⟨Qaj (by omega) (by omega),trivial⟩<|
 .bk L1 k (k+1) (show (k+1)≤(Qao f c).length from (by show _≤_;omega)) (show (Qao f c).length-(k+1)<(Qao f c).length-k from (by omega)) [(7,aI ((k:Int)+1)),(6,.sl 1 false ((wiF (Qby c) (fltK f c k)).map intA))] [] ⟨sR,sO,Sub.of_eq (by rw [Qh3 hx4 (by omega)];rfl),trivial⟩ trivial)
 <| fun p11=>.r 2<|.f (.sl 1 false ((Qbh f c).map intA)) [] (.sl 1 false ((wiF (Qby c) (fltK f c k)).map intA)) (by
  rw [← Qig,← Qch (k:=k) (by omega)];exact sR)) a1 ha1)
 <| fun p10=>.u 4 [b2]<|
 .be 33 c.kind 15 (fun p13=>.rowNil 6 6 3 1<|.r 2<|.app 8 (.slice none 0 0) ([]:List (List AV)) ([[aI 0]]) (by simp) (by simp) fun V5=>
 .r 1<|.frz 6 [4,5,6,14,19,24,29,33] [] [V5=V5,([]:List (List AV)).length+([[aI 0]]:List (List AV)).length=(([]:List (List AV))++([[aI 0]])).length] ⟨rfl,(by first | rfl | (simp;done) | (simp;omega)),trivial⟩<|
 .r 1<|let L1:Lp (Nat):=⟨fun a1=>⟨[(5,.sl 1 false ((Qao f c).map intA)),(7,aI (a1:Int)),(6,.sl 1 false ((wiF (Qby c) (fltK f c a1)).map intA))],[]⟩,fun a1=>(Qao f c).length-a1,fun a1=>a1≤(Qao f c).length⟩
 .lp L1 0 (show 0≤(Qao f c).length from Nat.zero_le _) [(7,aI 0),(6,.sl 1 false (([]:List (List AV))++([[aI 0]])))] [] ⟨sR,sO,(by rw [show wiF (Qby c) (fltK f c 0)=Qby c from rfl,show Qby c=_ from if_pos (by omega)];exact Sub.loose _ _ _),trivial⟩ trivial fun a1 ha1=>
 (fun (k:Nat) (hH1:k≤(Qao f c).length)=>.r 3<|.lm 39 (Qao f c) intA<|.r 1<|.bd 40 ((k:Int)<((Qao f c).length:Int)) (fun p14=>.r 2<|.idxM (Qao f c) intA k (m:=(k:Int)) rfl (by omega) fun x5 hx5=>
 .r 2<|.bd 47 (x5≥1) (fun p15=>.r 3<|.idx k (m:=(k:Int)) (xs:=(Qao f c).map intA) (e:=intA x5) rfl (map_some hx5)<|
 .r 1<|.call (Qcw (wiF (Qby c) (fltK f c k)) x5 (by have h1:=Qhj (fltK f c k) (Qby c);have h2:=Qd6 f c k;have h3:=Qi7 c;omega))<|
 .r 1<|.run 3 [rng .i64 ((k:Int)+1)] ⟨Qaj (by omega) (by omega),trivial⟩<|
 .bk L1 k (k+1) (show (k+1)≤(Qao f c).length from (by show _≤_;omega)) (show (Qao f c).length-(k+1)<(Qao f c).length-k from (by omega)) [(7,aI ((k:Int)+1)),(6,.sl 1 false ((Qcx (wiF (Qby c) (fltK f c k)) x5).map intA))] [] ⟨sR,sO,Sub.of_eq (by rw [Qo1 hx5 (by omega)];rfl),trivial⟩ trivial)
 <| fun p15=>.run 3 [rng .i64 ((k:Int)+1)] ⟨Qaj (by omega) (by omega),trivial⟩<|
 .bk L1 k (k+1) (show (k+1)≤(Qao f c).length from (by show _≤_;omega)) (show (Qao f c).length-(k+1)<(Qao f c).length-k from (by omega)) [(7,aI ((k:Int)+1)),(6,.sl 1 false ((wiF (Qby c) (fltK f c k)).map intA))] [] ⟨sR,sO,Sub.of_eq (by rw [Qh3 hx5 (by omega)];rfl),trivial⟩ trivial)
 <| fun p14=>.r 2<|.f (.sl 1 false ((Qbh f c).map intA)) [] (.sl 1 false ((wiF (Qby c) (fltK f c k)).map intA)) (by
  rw [← Qig,← Qch (k:=k) (by omega)];exact sR)) a1 ha1)
 <| fun p13=>.r 1<|let L1:Lp (Nat):=⟨fun a1=>⟨[(5,.sl 1 false ((Qao f c).map intA)),(7,aI (a1:Int)),(6,.sl 1 false ((wiF (Qby c) (fltK f c a1)).map intA))],[]⟩,fun a1=>(Qao f c).length-a1,fun a1=>a1≤(Qao f c).length⟩
 .lp L1 0 (show 0≤(Qao f c).length from Nat.zero_le _) [(7,aI 0),(6,aN)] [] ⟨sR,sO,(by rw [show wiF (Qby c) (fltK f c 0)=Qby c from rfl,show Qby c=_ from if_neg (by omega)];exact Sub.nil _ _),trivial⟩ trivial fun a1 ha1=>
 (fun (k:Nat) (hH1:k≤(Qao f c).length)=>.r 3<|.lm 39 (Qao f c) intA<|.r 1<|.bd 40 ((k:Int)<((Qao f c).length:Int)) (fun p16=>.r 2<|.idxM (Qao f c) intA k (m:=(k:Int)) rfl (by omega) fun x6 hx6=>
 .r 2<|.bd 47 (x6≥1) (fun p17=>.r 3<|.idx k (m:=(k:Int)) (xs:=(Qao f c).map intA) (e:=intA x6) rfl (map_some hx6)<|
 .r 1<|.call (Qcw (wiF (Qby c) (fltK f c k)) x6 (by have h1:=Qhj (fltK f c k) (Qby c);have h2:=Qd6 f c k;have h3:=Qi7 c;omega))<|
 .r 1<|.run 3 [rng .i64 ((k:Int)+1)] ⟨Qaj (by omega) (by omega),trivial⟩<|
 .bk L1 k (k+1) (show (k+1)≤(Qao f c).length from (by show _≤_;omega)) (show (Qao f c).length-(k+1)<(Qao f c).length-k from (by omega)) [(7,aI ((k:Int)+1)),(6,.sl 1 false ((Qcx (wiF (Qby c) (fltK f c k)) x6).map intA))] [] ⟨sR,sO,Sub.of_eq (by rw [Qo1 hx6 (by omega)];rfl),trivial⟩ trivial)
 <| fun p17=>.run 3 [rng .i64 ((k:Int)+1)] ⟨Qaj (by omega) (by omega),trivial⟩<|
 .bk L1 k (k+1) (show (k+1)≤(Qao f c).length from (by show _≤_;omega)) (show (Qao f c).length-(k+1)<(Qao f c).length-k from (by omega)) [(7,aI ((k:Int)+1)),(6,.sl 1 false ((wiF (Qby c) (fltK f c k)).map intA))] [] ⟨sR,sO,Sub.of_eq (by rw [Qh3 hx6 (by omega)];rfl),trivial⟩ trivial)
 <| fun p16=>.r 2<|.f (.sl 1 false ((Qbh f c).map intA)) [] (.sl 1 false ((wiF (Qby c) (fltK f c k)).map intA)) (by
  rw [← Qig,← Qch (k:=k) (by omega)];exact sR)) a1 ha1)
structure Txn where
 stamp:Int
 was:Fsy
 now:Fsy
 looks:List Int
def txnA (t:Txn):List AV:=[aI t.stamp,.sl 5 false (t.was.l.map nodA),aI t.was.next,.sl 5 false (t.now.l.map nodA),aI t.now.next,.sl 1 false (t.looks.map intA)]
noncomputable def Qb1 (t:Txn) (c:Cal):Txn:=⟨t.stamp,t.was,(doF t.now c).1,Qdg (t.looks++Qbh t.now c)⟩
theorem Zb5 (t:Txn) (c:Cal):Asc (Qb1 t c).looks:=Qf7 _
theorem Qsm (t:Txn) (c:Cal):(Qb1 t c).looks.length≤t.looks.length+7:=by
 have h1:=Qju (t.looks++Qbh t.now c);have h2:=Qf3 t.now c;rw [List.length_append] at h1;show (Qdg (t.looks++Qbh t.now c)).length≤_;omega
theorem Qmu (t:Txn) (c:Cal) (okf:OkF t.now) (okc:OkCal c) (hp:Qaq t.now) (hx:t.now.next<4611686018427387904) (hl:t.looks.length≤90000):Qah prog 18 [.agg [aI t.stamp,.sl 5 false (t.was.l.map nodA),aI t.was.next,.sl 5 false (t.now.l.map nodA),aI t.now.next,.sl 1 false (t.looks.map intA)],.agg (calA c)] (.tup [.agg (txnA (Qb1 t c)),.agg (repA (doF t.now c).2)]):=by
 exact Qab func18 (let R:AV:=.tup [.agg (txnA (Qb1 t c)),.agg (repA (doF t.now c).2)];
 .new fun b1=>.new fun b2=>.new fun b3=>.new fun b4=>.u 3 [b1,b2]<|
 .call (Znb t.now c okf okc hp (by omega))<|
 .r 3<|.new fun b5=>.new fun b6=>.u 2 [b5,b6]<|
 let J1:Jn (Unit):=⟨fun j1=>⟨[(4,.ptr 4 b3 0),(5,.ptr 5 b4 0)],[(4,.box b3 31 [aI t.stamp,.sl 5 false (t.was.l.map nodA),aI t.was.next,.sl 5 false ((doF t.now c).1.l.map nodA),aI ((doF t.now c).1.next),.sl 1 false ((Qdg (t.looks++Qbh t.now c)).map intA)]),(5,.box b4 45 [aI ((doF t.now c).2.e),aI ((doF t.now c).2.a),aI ((doF t.now c).2.b),aI ((doF t.now c).2.n),aS ((doF t.now c).2.text),.sl 1 false ((doF t.now c).2.names.map txA)])]⟩,fun _=>True⟩
 .cut J1 (.pick [0,1,2,3,4,5,6,7,8,9]<|.u 10 [b1,b1,b5,b1,b1,b2]<|
 .fork<|.alt (.call (Qo2 t.now c okf okc hp)<|
 .fork<|.alt (.call (Qet t.looks (Qbh t.now c) (by have:=Qf3 t.now c;omega))<|
 .pick [12]<|.r 1<|.fork<|.alt (.u 1 [b6]<|
 .pick [14,15]<|.u 2 [b3,b4]<|
 .jo J1 () [] [] sr2 bb2)
 <| .u 1 [b3]<|
 .pick [13,15]<|.u 2 [b6,b4]<|
 .jo J1 () [] [] sr2 bb2)
 <| .u 1 [b6]<|
 .pick [11,12,14,15]<|.call (Qet t.looks (Qbh t.now c) (by have:=Qf3 t.now c;omega))<|
 .u 3 [b3,b4]<|
 .jo J1 () [] [] sr2 bb2)
 <| .u 1 [b6]<|
 .pick [10,11,12,14,15]<|.call (Qo2 t.now c okf okc hp)<|
 .call (Qet t.looks (Qbh t.now c) (by have:=Qf3 t.now c;omega))<|
 .u 3 [b3,b4]<|
 .jo J1 () [] [] sr2 bb2)
 <| fun _ _=>.fi R [b3,b4])
theorem Qf8 (t:Txn) (c:Cal) (okf:OkF t.now) (okc:OkCal c) (hp:Qaq t.now) (hx:t.now.next<4611686018427387904) (hl:t.looks.length≤90000) (T:TreeP t.now) (hm:midF t.now) (htx:c.text.length≤500000) (ha:Asc t.looks):Qah prog 19 [.agg [aI t.stamp,.sl 5 false (t.was.l.map nodA),aI t.was.next,.sl 5 false (t.now.l.map nodA),aI t.now.next,.sl 1 false (t.looks.map intA)],.agg (calA c)] (.tup [.agg (txnA (Qb1 t c)),.agg (repA (doF t.now c).2)]):=by
 have htl:=Qf3 t.now c;exact Qab func19 (
 .new fun b1=>.new fun b2=>.new fun b3=>.new fun b4=>.u 3 [b1,b2]<|
 .call (Qva t.now c okf okc hp)<|
 .r 1<|.u 3 [b1,b2]<|
 .call (Qgz t.now c okf okc hp (by omega) T hm htx)<|
 .r 3<|.new fun b5=>.new fun b6=>.u 2 [b5,b6]<|
 .lit0 fun V1=>.u 2 [b1]<|
 .app 8 V1 ([]:List (List AV)) (t.looks.map intA) (by simp only [List.length_map,List.length_nil,List.length_append];omega) (by simp only [List.length_map,List.length_nil,List.length_append];omega) fun V2=>
 .r 1<|.frz 22 [2,4,5,6,7,8,9] [2,4,5,7,8] [V2=V2,([]:List (List AV)).length+(t.looks.map intA).length=(([]:List (List AV))++(t.looks.map intA)).length] ⟨rfl,(by first | rfl | (simp;done) | (simp;omega)),trivial⟩<|
 .r 1<|let L1:Lp (Nat):=⟨fun a1=>⟨[(2,.ptr 2 b1 0),(4,.ptr 4 b3 0),(5,.ptr 5 b4 0),(6,.sl 1 false ((Qbh t.now c).map intA)),(7,.ptr 7 b5 0),(8,.ptr 8 b6 0),(10,aI (a1:Int)),(9,.sl 1 false ((wiF t.looks ((Qbh t.now c).take a1)).map intA))],[(2,.box b1 31 [aI t.stamp,.sl 5 false (t.was.l.map nodA),aI t.was.next,.sl 5 false (t.now.l.map nodA),aI t.now.next,.sl 1 false (t.looks.map intA)]),(4,.box b3 31 [aI 0,aN,aI 0,aN,aI 0,aN]),(5,.box b4 45 [aI 0,aI 0,aI 0,aI 0,aS ([]),aN]),(7,.box b5 28 [.sl 5 false ((doF t.now c).1.l.map nodA),aI ((doF t.now c).1.next)]),(8,.box b6 45 [aI ((doF t.now c).2.e),aI ((doF t.now c).2.a),aI ((doF t.now c).2.b),aI ((doF t.now c).2.n),aS ((doF t.now c).2.text),.sl 1 false ((doF t.now c).2.names.map txA)])]⟩,fun a1=>(Qbh t.now c).length-a1,fun a1=>a1≤(Qbh t.now c).length⟩
 .lp L1 0 (show 0≤(Qbh t.now c).length from Nat.zero_le _) [(10,aI 0),(9,.sl 1 false (([]:List (List AV))++(t.looks.map intA)))] [] ⟨sR,sR,sR,sR,sR,sR,sO,Sub.loose _ _ _,trivial⟩ bb5 fun a1 ha1=>
 (fun (k:Nat) (hH1:k≤(Qbh t.now c).length)=>.r 3<|.lm 28 (Qbh t.now c) intA<|.r 1<|.bd 29 ((k:Int)<((Qbh t.now c).length:Int)) (fun p1=>.r 3<|.idxM (Qbh t.now c) intA k (m:=(k:Int)) rfl (by omega) fun x1 hx1=>
 .r 1<|.call (Qcw (wiF t.looks ((Qbh t.now c).take k)) x1 (by have h1:=Qhj ((Qbh t.now c).take k) t.looks;have h2:=Qf3 t.now c;rw [List.length_take] at h1;omega))<|
 .r 1<|.run 3 [rng .i64 ((k:Int)+1)] ⟨Qaj (by omega) (by omega),trivial⟩<|
 .bk L1 k (k+1) (show (k+1)≤(Qbh t.now c).length from (by show _≤_;omega)) (show (Qbh t.now c).length-(k+1)<(Qbh t.now c).length-k from (by omega)) [(10,aI ((k:Int)+1)),(9,.sl 1 false ((Qcx (wiF t.looks ((Qbh t.now c).take k)) x1).map intA))] [] ⟨sR,sR,sR,sR,sR,sR,sO,Sub.of_eq (by rw [Zg4 hx1];rfl),trivial⟩ bb5)
 <| fun p1=>let J1:Jn (Unit):=⟨fun j1=>⟨[(4,.ptr 4 b3 0),(5,.ptr 5 b4 0)],[(4,.box b3 31 [aI t.stamp,.sl 5 false (t.was.l.map nodA),aI t.was.next,.sl 5 false ((doF t.now c).1.l.map nodA),aI ((doF t.now c).1.next),.sl 1 false ((wiF t.looks ((Qbh t.now c).take k)).map intA)]),(5,.box b4 45 [aI ((doF t.now c).2.e),aI ((doF t.now c).2.a),aI ((doF t.now c).2.b),aI ((doF t.now c).2.n),aS ((doF t.now c).2.text),.sl 1 false ((doF t.now c).2.names.map txA)])]⟩,fun _=>True⟩
 .cut J1 (.pick [0,1,2,3,4,5,6]<|.u 7 [b1,b1,b5]<|
 .fork<|.alt (.u 1 [b6]<|
 .pick [8,9]<|.u 2 [b3,b4]<|
 .jo J1 () [] [] sr2 bb2)
 <| .u 1 [b3]<|
 .pick [7,9]<|.u 2 [b6,b4]<|
 .jo J1 () [] [] sr2 bb2)
 <| fun _ _=>.f (.tup [.agg (txnA (Qb1 t c)),.agg (repA (doF t.now c).2)]) [b3,b4] (.tup [.agg [aI t.stamp,.sl 5 false (t.was.l.map nodA),aI t.was.next,.sl 5 false ((doF t.now c).1.l.map nodA),aI ((doF t.now c).1.next),.sl 1 false ((wiF t.looks ((Qbh t.now c).take k)).map intA)],.agg [aI ((doF t.now c).2.e),aI ((doF t.now c).2.a),aI ((doF t.now c).2.b),aI ((doF t.now c).2.n),aS ((doF t.now c).2.text),.sl 1 false ((doF t.now c).2.names.map txA)]]) (by
  unfold Qb1;rw [← Zg5 ha,show (Qbh t.now c).take k=Qbh t.now c from Qav (by omega)]
  first | exact sR | exact Sub.tups ⟨Sub.aggs ⟨sR,sR,sR,sR,sR,Sub.loose _ _ _,trivial⟩,sR,trivial⟩)) a1 ha1)
theorem Zfo (a b:List Nod) (ha:a.length≤8796093022207) (hb:b.length≤8796093022207) (oka:∀ v∈a,OkN v) (okb:∀ v∈b,OkN v):Qah prog 99 [.sl 5 false (a.map nodA),.sl 5 false (b.map nodA),.val (.func (.func 100) #[] #[])] (aB (dP (a=b))):=by
 exact Qab func99 (let R:AV:=aB (dP (a=b));
 .r 1<|.r 2<|.lm 11 a nodA<|.r 2<|.lm 13 b nodA<|.r 1<|.br 14 ((a.length:Int) != (b.length:Int)) (fun q1=>have p1:=bneT q1;.r 1<|.f (aB (dP (a=b))) [] (aB false) (by exact sF (fun h=>by have:=congrArg List.length h;omega)))
 <| fun q1=>have p1:=bneF q1;.r 2<|.lm 16 a nodA<|.r 1<|let L1:Lp (Nat):=⟨fun a1=>⟨[(1,.sl 5 false (b.map nodA)),(2,.val (.func (.func 100) #[] #[])),(15,.sl 5 false (a.map nodA)),(16,aI (a.length:Int)),(17,aI (a1:Int))],[]⟩,fun a1=>a.length-a1,fun a1=>a1≤a.length∧a.take a1=b.take a1⟩
 .lp L1 0 ⟨Nat.zero_le _,rfl⟩ [(17,aI 0)] [] ⟨sR,sR,sR,sR,sO,trivial⟩ trivial fun a1 ha1=>
 (fun (k:Nat) (hH1:k≤a.length∧a.take k=b.take k)=>.r 1<|.br 18 (decide ((k:Int)<(a.length:Int))) (fun q2=>have p2:=decT q2;.r 1<|.idxM a nodA k (m:=(k:Int)) rfl (by omega) fun x1 hx1=>
 have okx1:=oka x1 (List.mem_of_getElem? hx1);.r 1<|.new fun b1=>.u 2 [b1]<|
 .r 2<|.idxM b nodA k (m:=(k:Int)) rfl (by omega) fun x2 hx2=>
 have okx2:=okb x2 (List.mem_of_getElem? hx2);.r 1<|.new fun b2=>.u 1 [b2]<|
 .u 3 [b1,b2]<|
 .call (Qpg x1 x2 okx1 okx2)<|
 .r 1<|.br 30 (!(dP (x1=x2))) (fun q3=>have q3:=notT q3;have p3:=booF q3;.r 1<|.f R [] (aB false) (by
  refine sF (fun h=>?_);rw [h,hx2] at hx1;obtain rfl:=Option.some.inj hx1;simp_all [Qax,Qac]))
 <| fun q3=>have q3:=notF q3;have p3:=booT q3;.run 2 [rng .i64 ((k:Int)+1)] ⟨Qaj (by omega) (by omega),trivial⟩<|
 .bk L1 k (k+1) ⟨by omega,by rw [Qap hx1,Qap hx2,hH1.2];first | (congr 2;done) | (congr 2;exact Qax.1 (by assumption))⟩ (show a.length-(k+1)<a.length-k from (by omega)) [(17,aI ((k:Int)+1))] [] ⟨sR,sR,sR,sR,sO,trivial⟩ trivial)
 <| fun q2=>have p2:=decF q2;.r 1<|.f R [] (aB true) (by
  refine sT ?_;have h:=hH1.2;rw [Qav (by omega),Qav (by omega)] at h;exact h)) a1 ha1)
theorem Qzd (f g:Fsy) (okf:OkF f) (okg:OkF g):Qah prog 55 [.agg (fsyA f),.agg (fsyA g)] (aB (dP (f=g))):=by
 exact Qab func55 (let R:AV:=aB (dP (f=g));
 .new fun b1=>.new fun b2=>.r 1<|.u 6 [b1,b2]<|
 .be 10 f.next g.next (fun p1=>.u 4 [b1,b2]<|
 .call (Zfo f.l g.l okf.2.1 okg.2.1 okf.2.2 okg.2.2)<|
 .r 2<|.f R [] (aB (dP (f.l=g.l))) (by
  refine sE ?_;constructor
  ·intro h;simp only [Bool.and_eq_true,beq_iff_eq,Qax] at *;refine Zk0 ?_ ?_<;>simp_all
  ·intro h;subst h;simp_all [Qax]))
 <| fun p1=>.r 7<|.f R [] (aB false) (by
  refine sF (fun h=>?_);subst h;simp_all [Qac]))
structure OkT (t:Txn):Prop where
 stamp:I64 t.stamp
 was:OkF t.was
 now:OkF t.now
 len:t.looks.length≤140737488351232
theorem Qtm (t:Txn) (okt:OkT t):Qah prog 28 [.agg [aI t.stamp,.sl 5 false (t.was.l.map nodA),aI t.was.next,.sl 5 false (t.now.l.map nodA),aI t.now.next,.sl 1 false (t.looks.map intA)]] (aB (dP (t.was=t.now))):=by
 exact Qab func28 (let R:AV:=aB (dP (t.was=t.now));
 .new fun b1=>.r 1<|.u 4 [b1,b1]<|
 .call (Qzd t.was t.now okt.was okt.now)<|
 .r 1<|.fi R [])
def Qag (s:Sto):Txn:=⟨s.stamp,Qb5 s s.stamp,Qb5 s s.stamp,[]⟩
theorem Qej (s:Sto) (oks:OkS s) (hf:s.l.length≤100000):Qah prog 22 [.agg (stoA s)] (.agg (txnA (Qag s))):=by
 exact Qab func22 (let R:AV:=.agg (txnA (Qag s));
 .new fun b1=>.new fun b2=>.ord [0,1,2,3,4,6,7,8,5,9,10,11]<|.u 8 [b1,b1,b1,b1,b1]<|
 .call (Qsd s s.stamp oks hf)<|
 .call (Qsd s s.stamp oks hf)<|
 .u 2 [b2]<|
 .f R [b2] (.agg [aI s.stamp,.sl 5 false ((Qb5 s s.stamp).l.map nodA),aI ((Qb5 s s.stamp).next),.sl 5 false ((Qb5 s s.stamp).l.map nodA),aI ((Qb5 s s.stamp).next),aN]) (by exact Sub.aggs ⟨sR,sR,sR,sR,sR,Sub.nil _ _,trivial⟩))
theorem Qvt (s:Sto) (oks:OkS s) (hf:s.l.length≤100000):Qah prog 23 [.agg (stoA s)] (.agg (txnA (Qag s))):=by
 exact Qab func23 (let R:AV:=.agg (txnA (Qag s));
 .new fun b1=>.new fun b2=>.u 3 [b1,b1]<|
 .call (Qij s s.stamp oks hf)<|
 .new fun b3=>.u 1 [b3]<|
 .u 6 [b1,b3,b3,b2]<|
 .f R [b2] (.agg [aI s.stamp,.sl 5 false ((Qb5 s s.stamp).l.map nodA),aI ((Qb5 s s.stamp).next),.sl 5 false ((Qb5 s s.stamp).l.map nodA),aI ((Qb5 s s.stamp).next),aN]) (by exact Sub.aggs ⟨sR,sR,sR,sR,sR,Sub.nil _ _,trivial⟩))
end Go.Proofs.YtahlldgocpabjaaGreat
