import Derived.Test.YtahlldgocpabjaaGreatMrgAJ
import Derived.Test.YtahlldgocpabjaaGreatMrgAI
import Derived.Test.YtahlldgocpabjaaGreatMrgB
set_option maxRecDepth 100000
set_option maxHeartbeats 8000000
set_option linter.unusedVariables false
set_option linter.unusedSimpArgs false
namespace Go.Proofs.YtahlldgocpabjaaGreat
open Go Go.RowKit Copyhold Go.Proofs.Tryz
structure Txn where
 stamp:Int
 was:Fsy
 now:Fsy
 looks:List Int
def txnA (t:Txn):List AV:=[aI t.stamp,.sl 5 false (t.was.l.map nodA),aI t.was.next,.sl 5 false (t.now.l.map nodA),aI t.now.next,.sl 1 false (t.looks.map intA)]
theorem Zjc {x y:Txn} (h1:x.stamp=y.stamp) (h2:x.was=y.was) (h3:x.now=y.now) (h4:x.looks=y.looks):x=y:=by cases x;cases y;simp_all
noncomputable def Qdt (t:Txn) (c:Cal):Txn:=⟨t.stamp,t.was,(doF t.now c).1,Qc3 (t.looks++Qbb t.now c)⟩
theorem Qiv (t:Txn) (c:Cal):(Qdt t c).looks.length≤t.looks.length+7:=by
 have h1:=Qix (t.looks++Qbb t.now c);have h2:=Qep t.now c;rw [List.length_append] at h1;show (Qc3 (t.looks++Qbb t.now c)).length≤_;omega
theorem Ql5 (t:Txn) (c:Cal) (okf:OkF t.now) (okc:OkCal c) (hp:Qam t.now) (hx:t.now.next<4611686018427387904) (hl:t.looks.length≤90000):Qaf prog 18 [.agg [aI t.stamp,.sl 5 false (t.was.l.map nodA),aI t.was.next,.sl 5 false (t.now.l.map nodA),aI t.now.next,.sl 1 false (t.looks.map intA)],.agg (calA c)] (.tup [.agg (txnA (Qdt t c)),.agg (repA (doF t.now c).2)]):=by
 exact Qac func18 (let R:AV:=.tup [.agg (txnA (Qdt t c)),.agg (repA (doF t.now c).2)];
 .new fun b1=>.new fun b2=>.new fun b3=>.new fun b4=>.u 3 [b1,b2]<|
 .call (Zl3 t.now c okf okc hp (by omega))<|
 .r 3<|.new fun b5=>.new fun b6=>.u 2 [b5,b6]<|
 let J1:Jn (Unit):=⟨fun j1=>⟨[(4,.ptr 4 b3 0),(5,.ptr 5 b4 0)],[(4,.box b3 31 [aI t.stamp,.sl 5 false (t.was.l.map nodA),aI t.was.next,.sl 5 false ((doF t.now c).1.l.map nodA),aI ((doF t.now c).1.next),.sl 1 false ((Qc3 (t.looks++Qbb t.now c)).map intA)]),(5,.box b4 45 [aI ((doF t.now c).2.e),aI ((doF t.now c).2.a),aI ((doF t.now c).2.b),aI ((doF t.now c).2.n),aS ((doF t.now c).2.text),.sl 1 false ((doF t.now c).2.names.map txA)])]⟩,fun _=>True⟩
 .cut J1 (.pick [0,1,2,3,4,5,6,7,8,9]<|.u 10 [b1,b1,b5,b1,b1,b2]<|
 .fork<|.alt (.call (Qj7 t.now c okf okc hp)<|
 .fork<|.alt (.call (Qec t.looks (Qbb t.now c) (by have:=Qep t.now c;omega))<|
 .pick [12]<|.r 1<|.fork<|.alt (.u 1 [b6]<|
 .pick [14,15]<|.u 2 [b3,b4]<|
 .jo J1 () [] [] sr2 bb2)
 <| .u 1 [b3]<|
 .pick [13,15]<|.u 2 [b6,b4]<|
 .jo J1 () [] [] sr2 bb2)
 <| .u 1 [b6]<|
 .pick [11,12,14,15]<|.call (Qec t.looks (Qbb t.now c) (by have:=Qep t.now c;omega))<|
 .u 3 [b3,b4]<|
 .jo J1 () [] [] sr2 bb2)
 <| .u 1 [b6]<|
 .pick [10,11,12,14,15]<|.call (Qj7 t.now c okf okc hp)<|
 .call (Qec t.looks (Qbb t.now c) (by have:=Qep t.now c;omega))<|
 .u 3 [b3,b4]<|
 .jo J1 () [] [] sr2 bb2)
 <| fun _ _=>.fi R [b3,b4])
theorem Qx9 (t:Txn) (c:Cal) (okf:OkF t.now) (okc:OkCal c) (hp:Qam t.now) (hx:t.now.next<4611686018427387904) (hl:t.looks.length≤90000) (T:TreeP t.now) (hm:midF t.now) (htx:c.text.length≤500000) (ha:Asc t.looks):Qaf prog 19 [.agg [aI t.stamp,.sl 5 false (t.was.l.map nodA),aI t.was.next,.sl 5 false (t.now.l.map nodA),aI t.now.next,.sl 1 false (t.looks.map intA)],.agg (calA c)] (.tup [.agg (txnA (Qdt t c)),.agg (repA (doF t.now c).2)]):=by
 have htl:=Qep t.now c;exact Qac func19 (
 .new fun b1=>.new fun b2=>.new fun b3=>.new fun b4=>.u 3 [b1,b2]<|
 .call (Qmc t.now c okf okc hp)<|
 .r 1<|.u 3 [b1,b2]<|
 .call (Zgf t.now c okf okc hp (by omega) T hm htx)<|
 .r 3<|.new fun b5=>.new fun b6=>.u 2 [b5,b6]<|
 .lit0 fun V1=>.u 2 [b1]<|
 .app 8 V1 ([]:List (List AV)) (t.looks.map intA) (by simp only [List.length_map,List.length_nil,List.length_append];omega) (by simp only [List.length_map,List.length_nil,List.length_append];omega) fun V2=>
 .r 1<|.frz 22 [2,4,5,6,7,8,9] [2,4,5,7,8] [V2=V2,([]:List (List AV)).length+(t.looks.map intA).length=(([]:List (List AV))++(t.looks.map intA)).length] ⟨rfl,(by first | rfl | (simp;done) | (simp;omega)),trivial⟩<|
 .r 1<|let L1:Lp (Nat):=⟨fun a1=>⟨[(2,.ptr 2 b1 0),(4,.ptr 4 b3 0),(5,.ptr 5 b4 0),(6,.sl 1 false ((Qbb t.now c).map intA)),(7,.ptr 7 b5 0),(8,.ptr 8 b6 0),(10,aI (a1:Int)),(9,.sl 1 false ((wiF t.looks ((Qbb t.now c).take a1)).map intA))],[(2,.box b1 31 [aI t.stamp,.sl 5 false (t.was.l.map nodA),aI t.was.next,.sl 5 false (t.now.l.map nodA),aI t.now.next,.sl 1 false (t.looks.map intA)]),(4,.box b3 31 [aI 0,aN,aI 0,aN,aI 0,aN]),(5,.box b4 45 [aI 0,aI 0,aI 0,aI 0,aS ([]),aN]),(7,.box b5 28 [.sl 5 false ((doF t.now c).1.l.map nodA),aI ((doF t.now c).1.next)]),(8,.box b6 45 [aI ((doF t.now c).2.e),aI ((doF t.now c).2.a),aI ((doF t.now c).2.b),aI ((doF t.now c).2.n),aS ((doF t.now c).2.text),.sl 1 false ((doF t.now c).2.names.map txA)])]⟩,fun a1=>(Qbb t.now c).length-a1,fun a1=>a1≤(Qbb t.now c).length⟩
 .lp L1 0 (show 0≤(Qbb t.now c).length from Nat.zero_le _) [(10,aI 0),(9,.sl 1 false (([]:List (List AV))++(t.looks.map intA)))] [] ⟨sR,sR,sR,sR,sR,sR,sO,Sub.loose _ _ _,trivial⟩ bb5 fun a1 ha1=>
 (fun (k:Nat) (hH1:k≤(Qbb t.now c).length)=>.r 3<|.lm 28 (Qbb t.now c) intA<|.r 1<|.bd 29 ((k:Int)<((Qbb t.now c).length:Int)) (fun p1=>.r 3<|.idxM (Qbb t.now c) intA k (m:=(k:Int)) rfl (by omega) fun x1 hx1=>
 .r 1<|.call (Qc7 (wiF t.looks ((Qbb t.now c).take k)) x1 (by have h1:=Qgg ((Qbb t.now c).take k) t.looks;have h2:=Qep t.now c;rw [List.length_take] at h1;omega))<|
 .r 1<|.run 3 [rng .i64 ((k:Int)+1)] ⟨Qaj (by omega) (by omega),trivial⟩<|
 .bk L1 k (k+1) (show (k+1)≤(Qbb t.now c).length from (by show _≤_;omega)) (show (Qbb t.now c).length-(k+1)<(Qbb t.now c).length-k from (by omega)) [(10,aI ((k:Int)+1)),(9,.sl 1 false ((Qcq (wiF t.looks ((Qbb t.now c).take k)) x1).map intA))] [] ⟨sR,sR,sR,sR,sR,sR,sO,Sub.of_eq (by rw [Zfg hx1];rfl),trivial⟩ bb5)
 <| fun p1=>let J1:Jn (Unit):=⟨fun j1=>⟨[(4,.ptr 4 b3 0),(5,.ptr 5 b4 0)],[(4,.box b3 31 [aI t.stamp,.sl 5 false (t.was.l.map nodA),aI t.was.next,.sl 5 false ((doF t.now c).1.l.map nodA),aI ((doF t.now c).1.next),.sl 1 false ((wiF t.looks ((Qbb t.now c).take k)).map intA)]),(5,.box b4 45 [aI ((doF t.now c).2.e),aI ((doF t.now c).2.a),aI ((doF t.now c).2.b),aI ((doF t.now c).2.n),aS ((doF t.now c).2.text),.sl 1 false ((doF t.now c).2.names.map txA)])]⟩,fun _=>True⟩
 .cut J1 (.pick [0,1,2,3,4,5,6]<|.u 7 [b1,b1,b5]<|
 .fork<|.alt (.u 1 [b6]<|
 .pick [8,9]<|.u 2 [b3,b4]<|
 .jo J1 () [] [] sr2 bb2)
 <| .u 1 [b3]<|
 .pick [7,9]<|.u 2 [b6,b4]<|
 .jo J1 () [] [] sr2 bb2)
 <| fun _ _=>.f (.tup [.agg (txnA (Qdt t c)),.agg (repA (doF t.now c).2)]) [b3,b4] (.tup [.agg [aI t.stamp,.sl 5 false (t.was.l.map nodA),aI t.was.next,.sl 5 false ((doF t.now c).1.l.map nodA),aI ((doF t.now c).1.next),.sl 1 false ((wiF t.looks ((Qbb t.now c).take k)).map intA)],.agg [aI ((doF t.now c).2.e),aI ((doF t.now c).2.a),aI ((doF t.now c).2.b),aI ((doF t.now c).2.n),aS ((doF t.now c).2.text),.sl 1 false ((doF t.now c).2.names.map txA)]]) (by
  unfold Qdt;rw [← Zfh ha,show (Qbb t.now c).take k=Qbb t.now c from Qav (by omega)]
  first | exact sR | exact Sub.tups ⟨Sub.aggs ⟨sR,sR,sR,sR,sR,Sub.loose _ _ _,trivial⟩,sR,trivial⟩)) a1 ha1)
theorem Zdx (a b:List Nod) (ha:a.length≤8796093022207) (hb:b.length≤8796093022207) (oka:∀ v∈a,OkN v) (okb:∀ v∈b,OkN v):Qaf prog 99 [.sl 5 false (a.map nodA),.sl 5 false (b.map nodA),.val (.func (.func 100) #[] #[])] (aB (dP (a=b))):=by
 exact Qac func99 (let R:AV:=aB (dP (a=b));
 .r 1<|.r 2<|.lm 11 a nodA<|.r 2<|.lm 13 b nodA<|.r 1<|.br 14 ((a.length:Int) != (b.length:Int)) (fun q1=>have p1:=bneT q1;.r 1<|.f (aB (dP (a=b))) [] (aB false) (by exact sF (fun h=>by have:=congrArg List.length h;omega)))
 <| fun q1=>have p1:=bneF q1;.r 2<|.lm 16 a nodA<|.r 1<|let L1:Lp (Nat):=⟨fun a1=>⟨[(1,.sl 5 false (b.map nodA)),(2,.val (.func (.func 100) #[] #[])),(15,.sl 5 false (a.map nodA)),(16,aI (a.length:Int)),(17,aI (a1:Int))],[]⟩,fun a1=>a.length-a1,fun a1=>a1≤a.length∧a.take a1=b.take a1⟩
 .lp L1 0 ⟨Nat.zero_le _,rfl⟩ [(17,aI 0)] [] ⟨sR,sR,sR,sR,sO,trivial⟩ trivial fun a1 ha1=>
 (fun (k:Nat) (hH1:k≤a.length∧a.take k=b.take k)=>.r 1<|.br 18 (decide ((k:Int)<(a.length:Int))) (fun q2=>have p2:=decT q2;.r 1<|.idxM a nodA k (m:=(k:Int)) rfl (by omega) fun x1 hx1=>
 have okx1:=oka x1 (List.mem_of_getElem? hx1);.r 1<|.new fun b1=>.u 2 [b1]<|
 .r 2<|.idxM b nodA k (m:=(k:Int)) rfl (by omega) fun x2 hx2=>
 have okx2:=okb x2 (List.mem_of_getElem? hx2);.r 1<|.new fun b2=>.u 1 [b2]<|
 .u 3 [b1,b2]<|
 .call (Qor x1 x2 okx1 okx2)<|
 .r 1<|.br 30 (!(dP (x1=x2))) (fun q3=>have q3:=notT q3;have p3:=booF q3;.r 1<|.f R [] (aB false) (by
  refine sF (fun h=>?_);rw [h,hx2] at hx1;obtain rfl:=Option.some.inj hx1;simp_all [Qas,Qab]))
 <| fun q3=>have q3:=notF q3;have p3:=booT q3;.run 2 [rng .i64 ((k:Int)+1)] ⟨Qaj (by omega) (by omega),trivial⟩<|
 .bk L1 k (k+1) ⟨by omega,by rw [Qak hx1,Qak hx2,hH1.2];first | (congr 2;done) | (congr 2;exact Qas.1 (by assumption))⟩ (show a.length-(k+1)<a.length-k from (by omega)) [(17,aI ((k:Int)+1))] [] ⟨sR,sR,sR,sR,sO,trivial⟩ trivial)
 <| fun q2=>have p2:=decF q2;.r 1<|.f R [] (aB true) (by
  refine sT ?_;have h:=hH1.2;rw [Qav (by omega),Qav (by omega)] at h;exact h)) a1 ha1)
theorem Qj6 (f g:Fsy) (okf:OkF f) (okg:OkF g):Qaf prog 55 [.agg (fsyA f),.agg (fsyA g)] (aB (dP (f=g))):=by
 exact Qac func55 (let R:AV:=aB (dP (f=g));
 .new fun b1=>.new fun b2=>.r 1<|.u 6 [b1,b2]<|
 .be 10 f.next g.next (fun p1=>.u 4 [b1,b2]<|
 .call (Zdx f.l g.l okf.2.1 okg.2.1 okf.2.2 okg.2.2)<|
 .r 2<|.f R [] (aB (dP (f.l=g.l))) (by
  refine sE ?_;constructor
  ·intro h;simp only [Bool.and_eq_true,beq_iff_eq,Qas] at *;refine Zjv ?_ ?_<;>simp_all
  ·intro h;subst h;simp_all [Qas]))
 <| fun p1=>.r 7<|.f R [] (aB false) (by
  refine sF (fun h=>?_);subst h;simp_all [Qab]))
structure OkT (t:Txn):Prop where
 stamp:I64 t.stamp
 was:OkF t.was
 now:OkF t.now
 len:t.looks.length≤140737488351232
theorem Qm4 (t:Txn) (okt:OkT t):Qaf prog 28 [.agg [aI t.stamp,.sl 5 false (t.was.l.map nodA),aI t.was.next,.sl 5 false (t.now.l.map nodA),aI t.now.next,.sl 1 false (t.looks.map intA)]] (aB (dP (t.was=t.now))):=by
 exact Qac func28 (let R:AV:=aB (dP (t.was=t.now));
 .new fun b1=>.r 1<|.u 4 [b1,b1]<|
 .call (Qj6 t.was t.now okt.was okt.now)<|
 .r 1<|.fi R [])
theorem Zh0 (a b:List Int) (ha:a.length≤140737488351232) (hb:b.length≤140737488351232):Qaf prog 56 [.sl 1 false (a.map intA),.sl 1 false (b.map intA)] (aB (dP (a=b))):=by
 exact Qac func56 (let R:AV:=aB (dP (a=b));
 .r 1<|.r 2<|.lm 7 a intA<|.r 2<|.lm 9 b intA<|.r 1<|.bn 10 (a.length:Int) (b.length:Int) (fun p1=>.r 1<|.f (aB (dP (a=b))) [] (aB false) (by exact sF (fun h=>by have:=congrArg List.length h;omega)))
 <| fun p1=>.r 2<|.lm 12 a intA<|.r 1<|let L1:Lp (Nat):=⟨fun a1=>⟨[(0,.sl 1 false (a.map intA)),(1,.sl 1 false (b.map intA)),(12,aI (a.length:Int)),(13,aI (a1:Int))],[]⟩,fun a1=>a.length-a1,fun a1=>a1≤a.length∧a.take a1=b.take a1⟩
 .lp L1 0 ⟨Nat.zero_le _,rfl⟩ [(13,aI 0)] [] ⟨sR,sR,sR,sO,trivial⟩ trivial fun a1 ha1=>
 (fun (k:Nat) (hH1:k≤a.length∧a.take k=b.take k)=>.r 1<|.bd 14 ((k:Int)<(a.length:Int)) (fun p2=>.r 2<|.ord [0,1,2,3,4,5,6,7,8]<|.r 2<|.idxM a intA k (m:=(k:Int)) rfl (by omega) fun x1 hx1=>
 .r 3<|.idxM b intA k (m:=(k:Int)) rfl (by omega) fun x2 hx2=>
 .r 2<|.bn 24 x1 x2 (fun p3=>.r 1<|.f R [] (aB false) (by
  refine sF (fun h=>?_);rw [h,hx2] at hx1;obtain rfl:=Option.some.inj hx1;simp_all [Qas,Qab]))
 <| fun p3=>.run 2 [rng .i64 ((k:Int)+1)] ⟨Qaj (by omega) (by omega),trivial⟩<|
 .bk L1 k (k+1) ⟨by omega,by rw [Qak hx1,Qak hx2,hH1.2];first | (congr 2;done) | (congr 2;exact (by simp_all))⟩ (show a.length-(k+1)<a.length-k from (by omega)) [(13,aI ((k:Int)+1))] [] ⟨sR,sR,sR,sO,trivial⟩ trivial)
 <| fun p2=>.r 1<|.f R [] (aB true) (by
  refine sT ?_;have h:=hH1.2;rw [Qav (by omega),Qav (by omega)] at h;exact h)) a1 ha1)
theorem Qoz (a b:List Int) (ha:a.length≤140737488351232) (hb:b.length≤140737488351232):Qaf prog 24 [.sl 1 false (a.map intA),.sl 1 false (b.map intA)] (aB (dP (a=b))):=by
 exact Qac func24 (let R:AV:=aB (dP (a=b));
 .r 1<|.r 2<|.lm 7 a intA<|.r 2<|.lm 9 b intA<|.r 1<|.bn 10 (a.length:Int) (b.length:Int) (fun p1=>.r 1<|.f (aB (dP (a=b))) [] (aB false) (by exact sF (fun h=>by have:=congrArg List.length h;omega)))
 <| fun p1=>.r 1<|let L1:Lp (Nat):=⟨fun a1=>⟨[(0,.sl 1 false (a.map intA)),(1,.sl 1 false (b.map intA)),(5,aI (a1:Int))],[]⟩,fun a1=>a.length-a1,fun a1=>a1≤a.length∧a.take a1=b.take a1⟩
 .lp L1 0 ⟨Nat.zero_le _,rfl⟩ [(5,aI 0)] [] ⟨sR,sR,sO,trivial⟩ trivial fun a1 ha1=>
 (fun (k:Nat) (hH1:k≤a.length∧a.take k=b.take k)=>.r 3<|.lm 13 a intA<|.r 1<|.bd 14 ((k:Int)<(a.length:Int)) (fun p2=>.ord [0,1,2,3,4,5,6,7,8]<|.r 2<|.idxM a intA k (m:=(k:Int)) rfl (by omega) fun x1 hx1=>
 .r 3<|.idxM b intA k (m:=(k:Int)) rfl (by omega) fun x2 hx2=>
 .r 2<|.bn 25 x1 x2 (fun p3=>.r 1<|.f R [] (aB false) (by
  refine sF (fun h=>?_);rw [h,hx2] at hx1;obtain rfl:=Option.some.inj hx1;simp_all [Qas,Qab]))
 <| fun p3=>.run 3 [rng .i64 ((k:Int)+1)] ⟨Qaj (by omega) (by omega),trivial⟩<|
 .bk L1 k (k+1) ⟨by omega,by rw [Qak hx1,Qak hx2,hH1.2];first | (congr 2;done) | (congr 2;exact (by simp_all))⟩ (show a.length-(k+1)<a.length-k from (by omega)) [(5,aI ((k:Int)+1))] [] ⟨sR,sR,sO,trivial⟩ trivial)
 <| fun p2=>.r 1<|.f R [] (aB true) (by
  refine sT ?_;have h:=hH1.2;rw [Qav (by omega),Qav (by omega)] at h;exact h)) a1 ha1)
theorem Qtt (t u:Txn) (okt:OkT t) (oku:OkT u):Qaf prog 27 [.agg [aI t.stamp,.sl 5 false (t.was.l.map nodA),aI t.was.next,.sl 5 false (t.now.l.map nodA),aI t.now.next,.sl 1 false (t.looks.map intA)],.agg [aI u.stamp,.sl 5 false (u.was.l.map nodA),aI u.was.next,.sl 5 false (u.now.l.map nodA),aI u.now.next,.sl 1 false (u.looks.map intA)]] (aB (dP (t=u))):=by
 exact Qac func27 (let R:AV:=aB (dP (t=u));
 .new fun b1=>.new fun b2=>.r 1<|.u 6 [b1,b2]<|
 .be 10 t.stamp u.stamp (fun p1=>.u 4 [b1,b2]<|
 .call (Qj6 t.was u.was okt.was oku.was)<|
 .r 2<|.bb 17 (dP (t.was=u.was)) (fun p2=>.u 4 [b1,b2]<|
 .call (Qj6 t.now u.now okt.now oku.now)<|
 .r 2<|.bb 24 (dP (t.now=u.now)) (fun p3=>.u 4 [b1,b2]<|
 .call (Zh0 t.looks u.looks okt.len oku.len)<|
 .r 2<|.f R [] (aB (dP (t.looks=u.looks))) (by
  refine sE ?_;constructor
  ·intro h;simp only [Bool.and_eq_true,beq_iff_eq,Qas] at *;refine Zjc ?_ ?_ ?_ ?_<;>simp_all
  ·intro h;subst h;simp_all [Qas]))
 <| fun p3=>.r 7<|.f R [] (aB false) (by
  refine sF (fun h=>?_);subst h;simp_all [Qab]))
 <| fun p2=>.r 14<|.f R [] (aB false) (by
  refine sF (fun h=>?_);subst h;simp_all [Qab]))
 <| fun p1=>.r 21<|.f R [] (aB false) (by
  refine sF (fun h=>?_);subst h;simp_all [Qab]))
theorem Qia (t u:Txn) (okt:OkT t) (oku:OkT u):Qaf prog 20 [.agg [aI t.stamp,.sl 5 false (t.was.l.map nodA),aI t.was.next,.sl 5 false (t.now.l.map nodA),aI t.now.next,.sl 1 false (t.looks.map intA)],.agg [aI u.stamp,.sl 5 false (u.was.l.map nodA),aI u.was.next,.sl 5 false (u.now.l.map nodA),aI u.now.next,.sl 1 false (u.looks.map intA)]] (aB (dP (t=u))):=by
 exact Qac func20 (let R:AV:=aB (dP (t=u));
 .new fun b1=>.new fun b2=>.r 1<|.u 4 [b1,b2]<|
 .call (Qkl t.was u.was okt.was oku.was)<|
 .r 1<|.u 4 [b1,b2]<|
 .call (Qkl t.now u.now okt.now oku.now)<|
 .r 1<|.u 4 [b1,b2]<|
 .call (Qoz t.looks u.looks okt.len oku.len)<|
 .r 1<|.r 2<|.bb 24 (dP (t.was=u.was)) (fun p1=>.r 3<|.bb 27 (dP (t.now=u.now)) (fun p2=>.r 3<|.bb 30 (dP (t.looks=u.looks)) (fun p3=>.u 7 [b1,b2]<|
 .f R [] (aB (t.stamp==u.stamp)) (by
  refine sE ?_;constructor
  ·intro h;simp only [Bool.and_eq_true,beq_iff_eq,Qas] at *;refine Zjc ?_ ?_ ?_ ?_<;>simp_all
  ·intro h;subst h;simp_all [Qas]))
 <| fun p3=>.r 7<|.f R [] (aB false) (by
  refine sF (fun h=>?_);subst h;simp_all [Qab]))
 <| fun p2=>.r 10<|.f R [] (aB false) (by
  refine sF (fun h=>?_);subst h;simp_all [Qab]))
 <| fun p1=>.r 13<|.f R [] (aB false) (by
  refine sF (fun h=>?_);subst h;simp_all [Qab]))
def Qag (s:Sto):Txn:=⟨s.stamp,Qd4 s s.stamp,Qd4 s s.stamp,[]⟩
theorem Qdz (s:Sto) (oks:OkS s) (hf:s.l.length≤100000):Qaf prog 22 [.agg (stoA s)] (.agg (txnA (Qag s))):=by
 exact Qac func22 (let R:AV:=.agg (txnA (Qag s));
 .new fun b1=>.new fun b2=>.ord [0,1,2,3,4,6,7,8,5,9,10,11]<|.u 8 [b1,b1,b1,b1,b1]<|
 .call (Qrc s s.stamp oks hf)<|
 .call (Qrc s s.stamp oks hf)<|
 .u 2 [b2]<|
 .f R [b2] (.agg [aI s.stamp,.sl 5 false ((Qd4 s s.stamp).l.map nodA),aI ((Qd4 s s.stamp).next),.sl 5 false ((Qd4 s s.stamp).l.map nodA),aI ((Qd4 s s.stamp).next),aN]) (by exact Sub.aggs ⟨sR,sR,sR,sR,sR,Sub.nil _ _,trivial⟩))
theorem Qui (s:Sto) (oks:OkS s) (hf:s.l.length≤100000):Qaf prog 23 [.agg (stoA s)] (.agg (txnA (Qag s))):=by
 exact Qac func23 (let R:AV:=.agg (txnA (Qag s));
 .new fun b1=>.new fun b2=>.u 3 [b1,b1]<|
 .call (Qoe s s.stamp oks hf)<|
 .new fun b3=>.u 1 [b3]<|
 .u 6 [b1,b3,b3,b2]<|
 .f R [b2] (.agg [aI s.stamp,.sl 5 false ((Qd4 s s.stamp).l.map nodA),aI ((Qd4 s s.stamp).next),.sl 5 false ((Qd4 s s.stamp).l.map nodA),aI ((Qd4 s s.stamp).next),aN]) (by exact Sub.aggs ⟨sR,sR,sR,sR,sR,Sub.nil _ _,trivial⟩))
def Za5 (l:List Int) (i:Nat) (x:Int):Prop:=0≤x∧∀ y,0<i→l[i-1]?=some y→y<x
def txnP (t:Txn):Prop:=(Asc t.looks∧∀ x∈t.looks,0≤x)∧Qeu t.was∧Qeu t.now∧t.was.next≤t.now.next∧1≤t.stamp
theorem Qhj:∀ {l:List Int},(Asc l∧∀ x∈l,0≤x)↔AllQ (Za5 l) l:=by
 intro l;constructor
 ·rintro ⟨h1,h2⟩ i x hx;refine ⟨h2 x (List.mem_of_getElem? hx),fun y h0 hy=>?_⟩;have l1:=Qan hx;have l2:=Qan hy;have:=List.pairwise_iff_getElem.1 h1 (i-1) i l2 l1 (by omega);rw [List.getElem?_eq_getElem l1] at hx;rw [List.getElem?_eq_getElem l2] at hy;obtain rfl:=Option.some.inj hx;obtain rfl:=Option.some.inj hy;exact this
 ·intro h;have key:∀ (j i:Nat) (hi:i<l.length) (hj:j<l.length),i<j→l[i]<l[j]:=by
   intro j
   induction j with
   | zero=>intro i hi hj h0;omega
   | succ j ih=>
    intro i hi hj hij;have h1:=(h.at (List.getElem?_eq_getElem hj)).2 (l[j]'(by omega)) (by omega) (by simp);by_cases e:i=j
    ·subst e;exact h1
    ·have:=ih i hi (by omega) (by omega);omega
  refine ⟨List.pairwise_iff_getElem.2 fun i j hi hj hij=>key j i hi hj hij,fun x hx=>?_⟩;obtain ⟨k,hk⟩:=List.getElem?_of_mem hx;exact (h.at hk).1
theorem Qkz (t:Txn) (okt:OkT t) (hmw:midF t.was) (hmn:midF t.now):Qaf prog 15 [.agg [aI t.stamp,.sl 5 false (t.was.l.map nodA),aI t.was.next,.sl 5 false (t.now.l.map nodA),aI t.now.next,.sl 1 false (t.looks.map intA)]] (aB (dP (txnP t))):=by
 have hbl:=okt.len;exact Qac func15 (let R:AV:=aB (dP (txnP t));
 .new fun b1=>.r 1<|.r 1<|let L1:Lp (Nat):=⟨fun a1=>⟨[(1,.ptr 1 b1 0),(3,aI (a1:Int))],[(1,.box b1 31 [aI t.stamp,.sl 5 false (t.was.l.map nodA),aI t.was.next,.sl 5 false (t.now.l.map nodA),aI t.now.next,.sl 1 false (t.looks.map intA)])]⟩,fun a1=>t.looks.length-a1,fun a1=>a1≤t.looks.length∧Qa1 (Za5 t.looks) t.looks a1⟩
 .lp L1 0 ⟨Nat.zero_le _,Qa1.zero _ _⟩ [(3,aI 0)] [] ⟨sR,sO,trivial⟩ bb1 fun a1 ha1=>
 (fun (k:Nat) (hH1:k≤t.looks.length∧Qa1 (Za5 t.looks) t.looks k)=>.u 4 [b1]<|
 .lm 9 t.looks intA<|.r 1<|.bd 10 ((k:Int)<(t.looks.length:Int)) (fun p1=>.ord [0,1,2,3,4,5,6,7,8,9,10,11,12,13,14,15,16,17,18,19,20,21,22,23]<|.u 3 [b1]<|
 .idxM t.looks intA k (m:=(k:Int)) rfl (by omega) fun x1 hx1=>
 .r 3<|.bd 19 (x1<0) (fun p2=>.r 17<|.r 1<|.f R [] (aB false) (by
  refine sF (fun h=>?_);have g:=(Qhj.1 h.1).at hx1;have:=g.1;omega))
 <| fun p2=>.r 3<|.bd 22 ((k:Int)>0) (fun p3=>.run 4 [b1=b1,rng .i64 ((k:Int)-1)] ⟨rfl,Qaj (by omega) (by omega),trivial⟩<|
 .idxM t.looks intA (k-1) (m:=(k:Int)-1) (show (k:Int)-1=((k-1:Nat):Int) from by omega) (by omega) fun x2 hx2=>
 .u 4 [b1]<|
 .idx k (m:=(k:Int)) (xs:=t.looks.map intA) (e:=intA x1) rfl (map_some hx1)<|
 .r 4<|.bd 36 (x2≥x1) (fun p4=>.r 1<|.f R [] (aB false) (by
  refine sF (fun h=>?_);have g:=(Qhj.1 h.1).at hx1;have:=g.2 x2 (by omega) hx2;have:=g.1;omega))
 <| fun p4=>.run 3 [rng .i64 ((k:Int)+1)] ⟨Qaj (by omega) (by omega),trivial⟩<|
 .bk L1 k (k+1) ⟨by omega,hH1.2.step hx1 (⟨by omega,fun z h0 hz=>by rw [hx2] at hz;obtain rfl:=Option.some.inj hz;omega⟩)⟩ (show t.looks.length-(k+1)<t.looks.length-k from (by omega)) [(3,aI ((k:Int)+1))] [] ⟨sR,sO,trivial⟩ bb1)
 <| fun p3=>.r 14<|.run 3 [rng .i64 ((k:Int)+1)] ⟨Qaj (by omega) (by omega),trivial⟩<|
 .bk L1 k (k+1) ⟨by omega,hH1.2.step hx1 (⟨by omega,fun z h0 hz=>absurd h0 (by omega)⟩)⟩ (show t.looks.length-(k+1)<t.looks.length-k from (by omega)) [(3,aI ((k:Int)+1))] [] ⟨sR,sO,trivial⟩ bb1)
 <| fun p1=>.u 2 [b1]<|
 .call (Qid t.was okt.was hmw)<|
 .r 1<|.u 2 [b1]<|
 .call (Qid t.now okt.now hmn)<|
 .r 1<|.r 2<|.bb 44 (dP (Qeu t.was)) (fun p5=>.r 3<|.bb 47 (dP (Qeu t.now)) (fun p6=>.u 9 [b1,b1]<|
 .bd 56 (t.now.next≥t.was.next) (fun p7=>.u 5 [b1]<|
 .f (aB (dP (txnP t))) [] (aB (decide (t.stamp≥1))) (by
  have hall:=Qhj.2 (hH1.2.full (by omega));refine sE ?_;unfold txnP;simp only [Bool.and_eq_true,decide_eq_true_eq,Qas] at *;constructor
  ·intro h;simp_all
  ·intro h;simp_all))
 <| fun p7=>.r 5<|.f (aB (dP (txnP t))) [] (aB false) (by
  have hall:=Qhj.2 (hH1.2.full (by omega));refine sF (fun h=>?_);obtain ⟨_,h1,h2,h3,h4⟩:=h;simp_all [Qab]))
 <| fun p6=>.r 14<|.f (aB (dP (txnP t))) [] (aB false) (by
  have hall:=Qhj.2 (hH1.2.full (by omega));refine sF (fun h=>?_);obtain ⟨_,h1,h2,h3,h4⟩:=h;simp_all [Qab]))
 <| fun p5=>.r 17<|.f (aB (dP (txnP t))) [] (aB false) (by
  have hall:=Qhj.2 (hH1.2.full (by omega));refine sF (fun h=>?_);obtain ⟨_,h1,h2,h3,h4⟩:=h;simp_all [Qab])) a1 ha1)
theorem Qgv {f:Fsy} (hf:fewF f):midF f:=by
 have:=hf.1;unfold midF;omega
def fewT (t:Txn):Prop:=fewF t.was∧fewF t.now∧t.looks.length≤300∧t.now.next<1152921504606846976∧txnP t
def Zhn (s:Sto):Prop:=few s∧Qn8 s∧s.stamp<1152921504606846976∧fewF (Qd4 s s.stamp)∧Qeu (Qd4 s s.stamp)∧(Qd4 s s.stamp).next<1152921504606846976
def Qk7 (s:Sto) (t:Txn):Prop:=∃ x∈Qdc s t.stamp,x∈t.looks
theorem Zak (s:Sto) (st:Int):(Qdc s st).length≤s.l.length+1:=Zfw s st
theorem Qog (t:Txn) (okt:OkT t):Qaf prog 17 [.agg [aI t.stamp,.sl 5 false (t.was.l.map nodA),aI t.was.next,.sl 5 false (t.now.l.map nodA),aI t.now.next,.sl 1 false (t.looks.map intA)]] (aB (dP (fewT t))):=by
 have hbl:=okt.len;exact Qac func17 (let R:AV:=aB (dP (fewT t));
 .new fun b1=>.r 1<|.u 2 [b1]<|
 .call (Qjs t.was okt.was)<|
 .r 2<|.br 7 (!(dP (fewF t.was))) (fun q1=>have q1:=notT q1;have p1:=booF q1;.r 17<|.r 1<|.f R [] (aB false) (by
  refine sF (fun h=>?_);obtain ⟨h1,h2,h3,h4,h5⟩:=h
  first | omega | (simp_all [Qab];done) | (simp_all [Qab];omega)))
 <| fun q1=>have q1:=notF q1;have p1:=booT q1;.u 2 [b1]<|
 .call (Qjs t.now okt.now)<|
 .r 3<|.br 13 (!(dP (fewF t.now))) (fun q2=>have q2:=notT q2;have p2:=booF q2;.r 11<|.r 1<|.f R [] (aB false) (by
  refine sF (fun h=>?_);obtain ⟨h1,h2,h3,h4,h5⟩:=h
  first | omega | (simp_all [Qab];done) | (simp_all [Qab];omega)))
 <| fun q2=>have q2:=notF q2;have p2:=booT q2;.u 3 [b1]<|
 .lm 16 t.looks intA<|.r 3<|.br 19 (decide ((t.looks.length:Int)>300)) (fun q3=>have p3:=decT q3;.r 5<|.r 1<|.f R [] (aB false) (by
  refine sF (fun h=>?_);obtain ⟨h1,h2,h3,h4,h5⟩:=h
  first | omega | (simp_all [Qab];done) | (simp_all [Qab];omega)))
 <| fun q3=>have p3:=decF q3;.u 5 [b1]<|
 .br 24 (decide (t.now.next≥1152921504606846976)) (fun q4=>have p4:=decT q4;.r 1<|.f R [] (aB false) (by
  refine sF (fun h=>?_);obtain ⟨h1,h2,h3,h4,h5⟩:=h
  first | omega | (simp_all [Qab];done) | (simp_all [Qab];omega)))
 <| fun q4=>have p4:=decF q4;.u 1 [b1]<|
 .call (Qkz t okt (Qgv (Qas.1 q1)) (Qgv (Qas.1 q2)))<|
 .r 1<|.f R [] (aB (dP (txnP t))) (by
  refine sE ?_;unfold fewT;simp only [Qas] at *;constructor
  ·intro h;exact ⟨by assumption,by assumption,by omega,by omega,h⟩
  ·intro h;exact h.2.2.2.2))
theorem Qyg (s:Sto) (oks:OkS s):Qaf prog 16 [.agg (stoA s)] (aB (dP (Zhn s))):=by
 exact Qac func16 (let R:AV:=aB (dP (Zhn s));
 .new fun b1=>.r 1<|.u 1 [b1]<|
 .call (Zdw s oks)<|
 .r 2<|.br 7 (!(dP (few s))) (fun q1=>have q1:=notT q1;have p1:=booF q1;.r 9<|.r 1<|.f R [] (aB false) (by
  refine sF (fun h=>?_);obtain ⟨h1,h2,h3,h4,h5,h6⟩:=h
  first | omega | (simp_all [Qab];done) | (simp_all [Qab];omega)))
 <| fun q1=>have q1:=notF q1;have p1:=booT q1;.u 1 [b1]<|
 .call (Qt6 s oks)<|
 .r 3<|.br 12 (!(dP (Qn8 s))) (fun q2=>have q2:=notT q2;have p2:=booF q2;.r 4<|.r 1<|.f R [] (aB false) (by
  refine sF (fun h=>?_);obtain ⟨h1,h2,h3,h4,h5,h6⟩:=h
  first | omega | (simp_all [Qab];done) | (simp_all [Qab];omega)))
 <| fun q2=>have q2:=notF q2;have p2:=booT q2;.u 4 [b1]<|
 .br 16 (decide (s.stamp≥1152921504606846976)) (fun q3=>have p3:=decT q3;.r 1<|.f R [] (aB false) (by
  refine sF (fun h=>?_);obtain ⟨h1,h2,h3,h4,h5,h6⟩:=h
  first | omega | (simp_all [Qab];done) | (simp_all [Qab];omega)))
 <| fun q3=>have p3:=decF q3;.u 3 [b1,b1]<|
 .call (Qoe s s.stamp oks (by have:=Qqm (Qas.1 q1);omega))<|
 .new fun b2=>.u 1 [b2]<|
 .u 1 [b2]<|
 .call (Qjs (Qd4 s s.stamp) (Qpg oks _))<|
 .r 1<|.br 23 (dP (fewF (Qd4 s s.stamp))) (fun q4=>have p4:=booT q4;.u 1 [b2]<|
 .call (Qid (Qd4 s s.stamp) (Qpg oks _) (Qgv (Qas.1 q4)))<|
 .r 2<|.br 27 (dP (Qeu (Qd4 s s.stamp))) (fun q5=>have p5:=booT q5;.u 5 [b2]<|
 .f R [] (aB (decide (((Qd4 s s.stamp).next)<1152921504606846976))) (by
  refine sE ?_;unfold Zhn;simp only [Qas,decide_eq_true_eq] at *;constructor
  ·intro h;exact ⟨by assumption,by assumption,by omega,by assumption,by assumption,h⟩
  ·intro h;exact h.2.2.2.2.2))
 <| fun q5=>have p5:=booF q5;.r 5<|.f R [] (aB false) (by
  refine sF (fun h=>?_);obtain ⟨h1,h2,h3,h4,h5,h6⟩:=h
  first | omega | (simp_all [Qab];done) | (simp_all [Qab];omega)))
 <| fun q4=>have p4:=booF q4;.r 9<|.f R [] (aB false) (by
  refine sF (fun h=>?_);obtain ⟨h1,h2,h3,h4,h5,h6⟩:=h
  first | omega | (simp_all [Qab];done) | (simp_all [Qab];omega)))
end Go.Proofs.YtahlldgocpabjaaGreat

namespace Go.Proofs.YtahlldgocpabjaaGreat
open Go Go.RowKit Go.Shelf Copyhold
attribute [local go_sem] Oper.semAt_some
theorem Qsd {D:Nat→Prop} {W:World} {t:Bool} {L:List Int} {A:Option Addr} {c:Nat} (h:Ra D W (.sl 1 t (L.map intA)) (.slice A L.length c)) {k:Nat} (hk:k<L.length) :
  ∃ b off,A=some ⟨b,off,none⟩∧b<W.heap.size∧D b∧W.cell? ⟨b,off+k,none⟩=some (.int .i64 L[k]):=by
 generalize hv:Value.slice A L.length c=v at h;cases h with
 | sl _ _ _ A' c' b off vs h1 h2 h3 h4 h5 h6=>
  injection hv with e1 e2 e3
  subst e1;obtain ⟨a1,a2,a3⟩:=h3 (by rw [List.length_map];omega);have hx:(L.map intA)[k]?=some (intA L[k]):=by rw [List.getElem?_map,List.getElem?_eq_getElem hk];rfl
  have q:=h5 k _ 0 (aI L[k]) hx rfl;have r:=h6 k _ 0 (aI L[k]) hx rfl;have e:vs k 0=.int .i64 L[k]:=by generalize vs k 0=u at r;cases r;rfl
  refine ⟨b,off,a1,a3,a2,?_⟩;rw [e,Nat.mul_one,Nat.add_zero] at q;exact q.1
theorem Zlk (n:Nat) (hn:1≤n) (l Bs n₀ c:Nat) (A:Option Addr) (L:List Int) (hlen:L.length≤140737488351232) (D:Nat→Prop) (J Jx:List Int→World→Prop)
  (hY:∀ pre x W,J pre W→pre.length<L.length→YieldAt Fence.wide (n-1) Tryz.prog l #[.int .i64 x] W fun e W'=>
   (e=.returned (.bool true)∧J (pre++[x]) W'∧Below n₀ W W')∨(e=.returned (.bool false)∧Jx (pre++[x]) W'))
  (W:World) (hn0:n₀≤W.heap.size) (hBs:W.cell? ⟨Bs,5,none⟩=some (.slice A L.length c)) (hE:Ra D W (.sl 1 false (L.map intA)) (.slice A L.length c)) (hD:∀ b,D b→b<n₀) (h0:J [] W) :
  CallsIn Fence.wide n Tryz.prog 83 #[.func (.yield l) #[] #[],.pointer (some ⟨Bs,0,none⟩)] W fun e W'=>(∃ v,e=.returned v) ∧
   ((∃ ys,ys=L∧J ys W')∨(∃ pre,pre <+: L∧Jx pre W')):=by
 have HE:=Lib.hid hE;have HD:=Lib.hid hD;clear hE hD;refine callsIn_of_wp Tryz.func83 rfl trivial ?_ rfl;simp only [Tryz.ntmps83,List.size_toArray,List.length_cons,List.length_nil,Nat.reduceAdd,Nat.reduceSub,Array.replicate_succ,Array.replicate_zero,List.push_toArray,List.append_toArray,List.nil_append,List.cons_append]
 gi_wp2
 gi_loopw [8] (fun i wr=>∃ k:Nat,k≤L.length∧i=.int .i64 k∧J (L.take k) wr∧Below n₀ W wr∧W.heap.size≤wr.heap.size)
  (fun i _=>L.length-(intOf i).toNat)
 case atStart=>exact ⟨0,Nat.zero_le _,rfl,by simpa using h0,Below.refl _ _,Nat.le_refl _⟩
 case round=>
  obtain ⟨k,hk,rfl,hJs,hnx,hsz⟩:=hrel;by_cases hlt:k<L.length
  ·have hE':Ra D wr (.sl 1 false (L.map intA)) (.slice A L.length c):=HE.out.frame (fun _ h=>h) hsz (fun b hb _=>hnx.block b (HD.out b hb));obtain ⟨b,off,hA,hbk,_,hc1⟩:=Qsd hE' hlt;subst hA;have hst:L.take (k+1)=L.take k++[L[k]]:=List.take_succ_eq_append_getElem hlt;have HST:=Lib.hid hst;have hll:(L.take k).length<L.length:=by simp;omega
   obtain ⟨fn,tmps,assign,body,hy,hR⟩:=hY _ L[k] _ hJs hll;have HR:=Lib.hid hR;have HNX:=Lib.hid hnx;have HPP:Hid (L.take (k+1) <+: L):=Lib.hid (List.take_prefix _ _);clear hE' hst hll hR hnx hJs hY;generalize L[k]=x at *
   gi_wp2
   refine HR.out.mono ?_;rintro e W3 (⟨rfl,hJ3,hk3⟩ | ⟨rfl,hJx3⟩)
   ·have hn3:Below n₀ W W3:=HNX.out.trans hk3;have hs3:=hk3.size
    gi_wp2
    go_roundw
    case rel=>exact ⟨k+1,by omega,by go_num,by rw [HST.out];exact hJ3,hn3,by omega⟩
    case measure=>simp [intOf];omega
   ·gi_wp2
    refine bodyPost_ret (results_none rfl _ _ _) rfl ?_;exact ⟨⟨_,rfl⟩,.inr ⟨_,by rw [← HST.out];exact HPP.out,hJx3⟩⟩
  ·obtain rfl:k=L.length:=by omega
   have hfin:L.take L.length=L:=List.take_length;have HF:=Lib.hid hfin;clear hfin
   gi_wp2
   go_end0
   exact ⟨⟨_,rfl⟩,.inl (by rw [← HF.out];exact ⟨_,rfl,hJs⟩)⟩
theorem Zcp (n:Nat) (st n1 n2:Int) (s1 s2 v:Value) (w:World) :
  CallsIn Fence.wide n Tryz.prog 45 #[.agg #[.int .i64 st,s1,.int .i64 n1,s2,.int .i64 n2,v]] w fun e w'=>e=.returned (.func (.func 83) #[] #[.pointer (some ⟨w.heap.size,0,none⟩)])∧w'=w.alloc (.cells #[.int .i64 st,s1,.int .i64 n1,s2,.int .i64 n2,v] 31):=by
 refine callsIn_of_wp Tryz.func45 rfl trivial ?_ rfl;simp only [Tryz.ntmps45,List.size_toArray,List.length_cons,List.length_nil,Nat.reduceAdd,Nat.reduceSub,Array.replicate_succ,Array.replicate_zero,List.push_toArray,List.append_toArray,List.nil_append,List.cons_append]
 gi_wp2
 go_ret
 exact ⟨rfl,rfl⟩
theorem Qr4 (n:Nat) (hn:1≤n) (Bs n₀ c:Nat) (A:Option Addr) (L:List Int) (hlen:L.length≤140737488351232) (D:Nat→Prop) (hD:∀ b,D b→b<n₀) (w:World) (hBs:Bs<w.heap.size) (hn₀:n₀≤w.heap.size)
  (hc:w.cell? ⟨Bs,5,none⟩=some (.slice A L.length c)) (hE:Ra D w (.sl 1 false (L.map intA)) (.slice A L.length c)) :
  SeqStopsK Fence.wide n Tryz.prog 83 #[.pointer (some ⟨Bs,0,none⟩)] (fun x:Int=>#[Value.int .i64 x]) (Below n₀) (fun ys=>ys=L) (fun pre=>pre <+: L) L.length w:=fun l J Jx W hW hJ _ hY h0=>
 Zlk n hn l Bs n₀ c A L hlen D J Jx hY W (Nat.le_trans hn₀ hW.size) ((hW.cell (p:=⟨Bs,5,none⟩) hBs).trans hc) (hE.frame (fun _ h=>h) hW.size (fun b hb hl=>hW.block b hl)) hD h0
end Go.Proofs.YtahlldgocpabjaaGreat
