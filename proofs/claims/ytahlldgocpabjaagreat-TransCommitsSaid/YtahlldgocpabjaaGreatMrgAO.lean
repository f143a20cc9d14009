import Derived.Test.YtahlldgocpabjaaGreatMrgAN
import Derived.Test.YtahlldgocpabjaaGreatMrgAL
import Derived.Test.YtahlldgocpabjaaGreatMrgAM
import Derived.Test.YtahlldgocpabjaaGreatMrgAH
set_option maxRecDepth 100000
set_option maxHeartbeats 8000000
set_option linter.unusedVariables false
set_option linter.unusedSimpArgs false
namespace Go.Proofs.YtahlldgocpabjaaGreat
open Go Go.RowKit Copyhold Go.Proofs.Tryz
theorem Quw {c:Chg} {st:Int} (h:c.gone=true):Qak c st=⟨st,true,nod0⟩:=if_pos h
theorem Qy7 {c:Chg} {st:Int} (h:c.gone=false):Qak c st=⟨st,false,⟨c.ino,c.n.kind,c.n.links,c.n.text,c.n.l⟩⟩:=if_neg (by rw [h];decide)
theorem Qqe (s:Sto) (cs:List Chg) (next:Int) (oks:OkS s) (hp:Qch s) (hf:s.l.length≤1000) (hc:cs.length≤1000) (hnx:s.nexts.length≤1000) (hv:∀ c∈s.l,c.l.length≤1000) (hs:s.stamp<1152921504606846977):Qah prog 60 [.agg (stoA s),.sl 7 false (cs.map chgA),aI next] (.agg (stoA (Qdd s cs next))):=by
 have ok1:=oks.1.1;have hn1:=hp.2.1.1;exact Qac func60 (
 .new fun b1=>.new fun b2=>.run 6 [b1=b1,b1=b1,rng .i64 (s.stamp+1)] ⟨rfl,rfl,Qai (by omega) (by omega),trivial⟩<|
 .new fun b3=>.u 1 [b3]<|
 .r 1<|let L1:Lp (Nat):=⟨fun a1=>⟨[(1,.sl 7 false (cs.map chgA)),(2,aI next),(3,.ptr 3 b1 0),(6,.ptr 6 b2 0),(7,.ptr 7 b3 0),(8,aI (a1:Int))],[(3,.box b1 25 (stoA s)),(6,.box b2 25 [aN,aN,aI 0]),(7,.box b3 25 [.sl 2 false ((Qas s.l (s.stamp+1) cs a1).map chnA),aN,aI (s.stamp+1)])]⟩,fun a1=>cs.length-a1,fun a1=>a1≤cs.length⟩
 .lp L1 0 (show 0≤cs.length from Nat.zero_le _) [(8,aI 0)] [(7,.box b3 25 [.sl 2 false (s.l.map chnA),aN,aI (s.stamp+1)])] ⟨sR,sR,sR,sR,sR,sO,trivial⟩ ⟨sB,sB,⟨_,rfl,SubB.of_eq (by first | rfl | simp [Qas])⟩,trivial⟩ fun a1 ha1=>
 (fun (k:Nat) (hH1:k≤cs.length)=>.r 3<|.lm 18 cs chgA<|.r 1<|.bd 19 ((k:Int)<(cs.length:Int)) (fun p1=>.ord [0,1,2,3,4,5,6,7,8,9]<|.u 4 [b3]<|
 .idxM cs chgA k (m:=(k:Int)) rfl (by omega) fun x1 hx1=>
 .r 3<|.new fun b4=>.u 1 [b4]<|
 .r 2<|.idx k (m:=(k:Int)) (xs:=cs.map chgA) (e:=chgA x1) rfl (map_some hx1)<|
 .r 3<|.br 35 (!x1.gone) (fun q2=>have q2:=notT q2;have p2:=booF q2;.r 2<|.idx k (m:=(k:Int)) (xs:=cs.map chgA) (e:=chgA x1) rfl (map_some hx1)<|
 .u 4 [b4]<|
 .r 2<|.idx k (m:=(k:Int)) (xs:=cs.map chgA) (e:=chgA x1) rfl (map_some hx1)<|
 .u 5 [b4]<|
 .ord [0,1,2,3,4,5,6,7,8,9,10]<|.u 4 [b3]<|
 .idx k (m:=(k:Int)) (xs:=cs.map chgA) (e:=chgA x1) rfl (map_some hx1)<|
 .u 3 [b4]<|
 .cs (args0:=[.sl 2 false ((Qas s.l (s.stamp+1) cs k).map chnA),aI x1.ino,.agg [aI (s.stamp+1),aB x1.gone,aI x1.ino,aI x1.n.kind,aI x1.n.links,aS x1.n.text,.sl 2 false (x1.n.l.map entA)]]) (Qmx (Qas s.l (s.stamp+1) cs k) x1.ino (Qak x1 (s.stamp+1)) (by have:=Qgk s.l (s.stamp+1) cs k;omega) (fun c hc=>by have:=Qdt hv k (by omega) c hc;omega)) ⟨sR,sR,(by rw [Qy7 q2];exact Sub.aggs ⟨sR,Sub.of_eq (congrArg aB (by first | rfl | exact q2)),sR,sR,sR,sR,sR,trivial⟩),trivial⟩<|
 .u 2 [b3]<|
 .run 3 [rng .i64 ((k:Int)+1)] ⟨Qai (by omega) (by omega),trivial⟩<|
 .bk L1 k (k+1) (show (k+1)≤cs.length from (by show _≤_;omega)) (show cs.length-(k+1)<cs.length-k from (by omega)) [(8,aI ((k:Int)+1))] [(7,.box b3 25 [.sl 2 false ((Qr8 x1.ino (Qak x1 (s.stamp+1)) (Qas s.l (s.stamp+1) cs k)).map chnA),aN,aI (s.stamp+1)])] ⟨sR,sR,sR,sR,sR,sO,trivial⟩ ⟨sB,sB,⟨_,rfl,SubB.of_eq (by rw [Qr5 hp hx1])⟩,trivial⟩)
 <| fun q2=>have q2:=notF q2;have p2:=booT q2;.ord [0,1,2,3,4,5,6,7,8,9,10]<|.u 4 [b3]<|
 .idx k (m:=(k:Int)) (xs:=cs.map chgA) (e:=chgA x1) rfl (map_some hx1)<|
 .u 3 [b4]<|
 .cs (args0:=[.sl 2 false ((Qas s.l (s.stamp+1) cs k).map chnA),aI x1.ino,.agg [aI (s.stamp+1),aB x1.gone,aI 0,aI 0,aI 0,aS ([]),aN]]) (Qmx (Qas s.l (s.stamp+1) cs k) x1.ino (Qak x1 (s.stamp+1)) (by have:=Qgk s.l (s.stamp+1) cs k;omega) (fun c hc=>by have:=Qdt hv k (by omega) c hc;omega)) ⟨sR,sR,(by rw [Quw q2];exact Sub.aggs ⟨sR,Sub.of_eq (congrArg aB (by first | rfl | exact q2)),sR,sR,sR,sR,Sub.nil _ _,trivial⟩),trivial⟩<|
 .u 2 [b3]<|
 .run 3 [rng .i64 ((k:Int)+1)] ⟨Qai (by omega) (by omega),trivial⟩<|
 .bk L1 k (k+1) (show (k+1)≤cs.length from (by show _≤_;omega)) (show cs.length-(k+1)<cs.length-k from (by omega)) [(8,aI ((k:Int)+1))] [(7,.box b3 25 [.sl 2 false ((Qr8 x1.ino (Qak x1 (s.stamp+1)) (Qas s.l (s.stamp+1) cs k)).map chnA),aN,aI (s.stamp+1)])] ⟨sR,sR,sR,sR,sR,sO,trivial⟩ ⟨sB,sB,⟨_,rfl,SubB.of_eq (by rw [Qr5 hp hx1])⟩,trivial⟩)
 <| fun p1=>.lit0 fun V1=>.u 2 [b1]<|
 .app 16 V1 ([]:List (List AV)) (s.nexts.map cntA) (by simp<;>omega) (by simp<;>omega) fun V2=>
 .u 2 [b3]<|
 .u 6 [b1,b1]<|
 .lm 69 s.nexts cntA<|.run 1 [rng .i64 ((s.nexts.length:Int)-1)] ⟨Qai (by omega) (by omega),trivial⟩<|
 .idxM s.nexts cntA (s.nexts.length-1) (m:=(s.nexts.length:Int)-1) (show ((s.nexts.length:Int)-1)=((s.nexts.length-1:Nat):Int) from by omega) (by omega) fun x2 hx2=>
 .r 3<|.bd 74 (next>x2.next) (fun p3=>.u 7 [b3,b3]<|
 .app 16 V2 (([]:List (List AV))++(s.nexts.map cntA)) ([[aI (s.stamp+1),aI next]]) (by simp<;>omega) (by simp<;>omega) fun V3=>
 .u 2 [b3]<|
 .u 2 [b3,b2]<|
 .frz 59 [6] [6] [V3=V3,(([]:List (List AV))++(s.nexts.map cntA)).length+([[aI (s.stamp+1),aI next]]:List (List AV)).length=((([]:List (List AV))++(s.nexts.map cntA))++([[aI (s.stamp+1),aI next]])).length] ⟨rfl,(by first | rfl | (simp;done) | (simp;omega)),trivial⟩<|
 .f (.agg (stoA (Qdd s cs next))) [b2] (.agg [.sl 2 false ((Qas s.l (s.stamp+1) cs k).map chnA),.sl 2 false ((([]:List (List AV))++(s.nexts.map cntA))++([[aI (s.stamp+1),aI next]])),aI (s.stamp+1)]) (by
  have hk:k=cs.length:=by omega
  subst hk;unfold Qdd;rw [Qnf hx2 p3];exact Sub.aggs ⟨sR,Sub.of_eq (congrArg (AV.sl 2 false) (by simp [cntA])),sR,trivial⟩))
 <| fun p3=>.u 2 [b3,b2]<|
 .frz 59 [6] [6] [V2=V2,([]:List (List AV)).length+(s.nexts.map cntA).length=(([]:List (List AV))++(s.nexts.map cntA)).length] ⟨rfl,(by first | rfl | (simp;done) | (simp;omega)),trivial⟩<|
 .f (.agg (stoA (Qdd s cs next))) [b2] (.agg [.sl 2 false ((Qas s.l (s.stamp+1) cs k).map chnA),.sl 2 false (([]:List (List AV))++(s.nexts.map cntA)),aI (s.stamp+1)]) (by
  have hk:k=cs.length:=by omega
  subst hk;unfold Qdd;rw [Qxr hx2 p3];exact Sub.aggs ⟨sR,Sub.of_eq (congrArg (AV.sl 2 false) (by simp [cntA])),sR,trivial⟩)) a1 ha1)
theorem Zm7:Elem prog 29 3 (.int .i64 0) 1 8:=⟨Tryz.underlying29,by kernel_rfl,by kernel_rfl,by decide⟩
theorem Ze8 (n:Nat) (hn:n≤1000000) (w:World) :
  Calls prog 151 #[.slice none 0 0,.int .i64 (n:Int)] w (Zg6 w 3 1 0 []):=by
 by_cases h0:0<n
 ·obtain ⟨G,w',hrun,hG1,hG2,hown,hb⟩:=Qr2 Zm7 Tryz.underlying3 n h0 (by omega) (by omega) w;have HO:=Lib.hid (And.intro hown hb);have hi0:(0:Int)<(n:Int):=by omega
  clear hown hb
  go_enter func151,Tryz.ntmps151
  go_wp2_with (at_builtin;refine Qff rfl _ _ _ _ rfl _ _ _ _ rfl rfl (hrun _) ?_)
  go_ret
  exact ⟨_,rfl,HO.out.1,HO.out.2⟩
 ·obtain rfl:n=0:=by omega
  go_enter func151,Tryz.ntmps151
  go_wp2_with fail
  go_ret
  exact ⟨_,rfl,World.ownsRow_nil _ _ _ _,Below.refl _ _⟩
def pcI (p:List (List AV)):List AV:=[.sl 1 false p]
theorem Qt5 (ps:List (List (List AV))) (hl:ps.length≤100000) (ht:ps.flatten.length≤100000) (hx:∀ l∈ps.flatten,l.length=1):Qej prog 89 [.sl 1 false (ps.map pcI)] 3 1 (ps.flatten):=by
 exact Qez func89 (
 .r 1<|.r 1<|.r 2<|.lm 10 ps pcI<|.r 1<|let L1:Lp (Nat):=⟨fun a1=>⟨[(0,.sl 1 false (ps.map pcI)),(9,.sl 1 false (ps.map pcI)),(10,aI (ps.length:Int)),(3,aI ((ps.take a1).flatten.length:Int)),(11,aI (a1:Int))],[]⟩,fun a1=>ps.length-a1,fun a1=>a1≤ps.length⟩
 .lp L1 0 (show 0≤ps.length from Nat.zero_le _) [(3,aI 0),(11,aI 0)] [] ⟨sR,sR,sR,sO,sO,trivial⟩ trivial fun a1 ha1=>
 (fun (k:Nat) (hH1:k≤ps.length)=>.r 1<|.bd 12 ((k:Int)<(ps.length:Int)) (fun p1=>.idxM ps pcI k (m:=(k:Int)) rfl (by omega) fun x1 hx1=>
 have tx1:=Qdq ps (k+1);have ux1:=congrArg List.length (Qdk hx1);have vx1:=(@List.length_append _ (ps.take k).flatten x1);.r 2<|.run 5 [rng .i64 (((ps.take k).flatten.length:Int)+((x1).length:Int))] ⟨Qai (by omega) (by omega),trivial⟩<|
 .r 2<|.bd 20 ((((ps.take k).flatten.length:Int)+((x1).length:Int))<0) (fun p2=>.no (by omega))
 <| fun p2=>.run 2 [rng .i64 ((k:Int)+1)] ⟨Qai (by omega) (by omega),trivial⟩<|
 .bk L1 k (k+1) (show (k+1)≤ps.length from (by show _≤_;omega)) (show ps.length-(k+1)<ps.length-k from (by omega)) [(3,aI (((ps.take k).flatten.length:Int)+((x1).length:Int))),(11,aI ((k:Int)+1))] [] ⟨sR,sR,sR,Sub.of_eq (congrArg aI (by rw [Qdk hx1,List.length_append];omega)),sO,trivial⟩ trivial)
 <| fun p1=>.r 1<|.cw (args0:=[aN,aI ((ps.take k).flatten.length:Int)]) (Qtl (fun w=>Ze8 ((ps.take k).flatten.length) (by have:=Qdq ps k;omega) w)) sr2 fun V1=>
 .r 1<|.r 2<|.lm 26 ps pcI<|.r 1<|let L2:Lp (Nat × Value):=⟨fun a2=>⟨[(25,.sl 1 false (ps.map pcI)),(26,aI (ps.length:Int)),(27,aI (a2.1:Int)),(6,.rw 24 a2.2 ((ps.take a2.1).flatten.length))],[(24,.row a2.2 3 1 ((ps.take a2.1).flatten))]⟩,fun a2=>ps.length-a2.1,fun a2=>a2.1≤ps.length⟩
 .lp L2 (0,V1) (show 0≤ps.length from Nat.zero_le _) [(27,aI 0),(6,.rw 24 V1 0)] [(24,.row V1 3 1 ([]))] ⟨sR,sR,sO,Sub.of_eq (congrArg (AV.rw 24 V1) (by simp)),trivial⟩ ⟨⟨_,rfl,SubB.of_eq (by simp)⟩,trivial⟩ fun a2 ha2=>
 (fun (j:Nat) (V:Value) (hH2:j≤ps.length)=>.r 1<|.bd 28 ((j:Int)<(ps.length:Int)) (fun p3=>.idxM ps pcI j (m:=(j:Int)) rfl (by omega) fun x2 hx2=>
 have tx2:=Qdq ps (j+1);have ux2:=congrArg List.length (Qdk hx2);have vx2:=(@List.length_append _ (ps.take j).flatten x2);.r 2<|.r 2<|.app 8 V ((ps.take j).flatten) x2 (by omega) (by omega) fun V2=>
 .r 1<|.run 2 [rng .i64 ((j:Int)+1)] ⟨Qai (by omega) (by omega),trivial⟩<|
 .bk L2 (j,V) ((j+1),V2) (show (j+1)≤ps.length from (by show _≤_;omega)) (show ps.length-(j+1)<ps.length-j from (by omega)) [(27,aI ((j:Int)+1)),(6,.rw 24 V2 (((ps.take j).flatten).length+x2.length))] [(24,.row V2 3 1 (((ps.take j).flatten)++x2))] ⟨sR,sR,sO,Sub.of_eq (congrArg (AV.rw 24 V2) (by rw [Qdk hx2,List.length_append])),trivial⟩ ⟨⟨_,rfl,SubB.of_eq (by rw [Qdk hx2])⟩,trivial⟩)
 <| fun p3=>.r 2<|.finRow (x:=(ps.take j).flatten) (r:=ps.flatten) [] trivial 24 3 1 ((ps.take j).flatten.length) V (by rw [Qat (by omega)])) a2.1 a2.2 ha2) a1 ha1)
theorem Qys (a b:List Int) (h:a.length+b.length≤100000):Qej prog 89 [.sl 1 false ([a.map intA,b.map intA].map pcI)] 3 1 ((a++b).map intA):=by
 have hx:∀ l∈[a.map intA,b.map intA].flatten,l.length=1:=fun l hl=>by
  simp only [List.flatten_cons,List.flatten_nil,List.append_nil,List.mem_append,List.mem_map] at hl;rcases hl with ⟨x,_,rfl⟩ | ⟨x,_,rfl⟩<;>rfl
 have:=Qt5 [a.map intA,b.map intA] (by simp) (by simp;omega) hx;rw [List.map_append];simpa using this
theorem pcI2 {t t1 t2:Bool} (A B:List (List AV)):Sub (.sl 1 t [[.sl 1 t1 A],[.sl 1 t2 B]]) (.sl 1 false ([A,B].map pcI)):=
 (Sub.sl2 (xs:=[[.sl 1 t1 A],[.sl 1 t2 B]]) (ys:=[A,B].map pcI) rfl (fun i q p hq hp=>by
 match i,hq,hp with
 | 0,hq,hp=>simp at hq hp;subst hq hp;exact ⟨Sub.loose _ _ _,trivial⟩
 | 1,hq,hp=>simp at hq hp;subst hq hp;exact ⟨Sub.loose _ _ _,trivial⟩
 | i+2,hq,_=>simp at hq)).trans (Sub.loose _ _ _)
theorem Zap (a b:List Int) (h1:1≤(a++b).length) (hl:a.length+b.length≤100000):Qah prog 49 [.sl 1 false (a.map intA),.sl 1 false (b.map intA)] (.sl 1 false ((Qdg (a++b)).map intA)):=by
 exact Qac func49 (let R:AV:=.sl 1 false ((Qdg (a++b)).map intA);
 .r 1<|.r 3<|.op (crR prog 30) (89,[.sl 1 true ([[.sl 1 false (a.map intA)],[.sl 1 false (b.map intA)]])],9) (fun (V:Value) σ=>(σ.put (some 9) (.rw 30 V ((a++b).map intA).length)).setB 30 (.row V 3 1 ((a++b).map intA))) (Qhl (args':=[.sl 1 false ([a.map intA,b.map intA].map pcI)]) ⟨pcI2 _ _,trivial⟩ (Qys a b (by omega))) fun V1=>
 .r 1<|.lent 1<|.r 1<|.lop (lcR prog 30) ((90,[.rw 30 V1 (((a++b).map intA).length)],some 11),.row V1 3 1 ((a++b).map intA)) (fun (_:Unit) σ=>(σ.put (some 11) (.tup [])).setB 30 (.row V1 3 1 (((a++b).mergeSort fun x y=>decide (x≤y)).map intA))) (Qdr (args':=[.rw 30 V1 ((a++b).length)]) ⟨Sub.of_eq (congrArg (AV.rw 30 V1) (by rw [List.length_map])),trivial⟩ (Qoy (a++b) V1 h1 (by rw [List.length_append];omega))) fun _=>
 .lent 1<|.r 1<|.lop (lcR prog 30) ((91,[.rw 30 V1 (((a++b).map intA).length)],some 13),.row V1 3 1 (((a++b).mergeSort fun x y=>decide (x≤y)).map intA)) (fun (_:Unit) σ=>(σ.put (some 13) (.sl 1 false ((Qdg (a++b)).map intA))).setB 30 gone) (Qcy (args':=[.rw 30 V1 (((a++b).mergeSort fun x y=>decide (x≤y)).length)]) ⟨Sub.of_eq (congrArg (AV.rw 30 V1) (by rw [List.length_map,List.length_mergeSort])),trivial⟩ (Qko ((a++b).mergeSort fun x y=>decide (x≤y)) V1 (by rw [List.length_mergeSort];exact h1) (by rw [List.length_mergeSort,List.length_append];omega))) fun _=>
 .r 1<|.fi R [])
theorem Zaq :Qah prog 49 [.sl 1 false (([]:List Int).map intA),.sl 1 false (([]:List Int).map intA)] (.sl 1 false []):=by
 exact Qac func49 (
 .r 1<|.r 3<|.op (crR prog 30) (89,[.sl 1 true ([[.sl 1 false (([]:List Int).map intA)],[.sl 1 false (([]:List Int).map intA)]])],9) (fun (V:Value) σ=>(σ.put (some 9) (.rw 30 V ([]:List (List AV)).length)).setB 30 (.row V 3 1 (([]:List (List AV))))) (Qhl (args':=[.sl 1 false ([([]:List Int).map intA,([]:List Int).map intA].map pcI)]) ⟨pcI2 _ _,trivial⟩ (Qys [] [] (by simp))) fun V1=>
 .r 1<|.lent 1<|.r 1<|.lop (lcR prog 30) ((90,[.rw 30 V1 (([]:List (List AV)).length)],some 11),.row V1 3 1 ([]:List (List AV))) (fun (_:Unit) σ=>(σ.put (some 11) (.tup [])).setB 30 (.row V1 3 1 ([]))) (Qdr (args':=[.rw 30 V1 0]) ⟨Sub.of_eq rfl,trivial⟩ (Qoz V1)) fun _=>
 .lent 1<|.r 1<|.lop (lcR prog 30) ((91,[.rw 30 V1 (([]:List (List AV)).length)],some 13),.row V1 3 1 ([])) (fun (_:Unit) σ=>(σ.put (some 13) (.sl 1 false ([]))).setB 30 gone) (Qcy (args':=[.rw 30 V1 0]) ⟨Sub.of_eq rfl,trivial⟩ (Qkp V1)) fun _=>
 .r 1<|.fi (.sl 1 false []) [])
theorem Qeq (a b:List Int) (hl:a.length+b.length≤100000):Qah prog 49 [.sl 1 false (a.map intA),.sl 1 false (b.map intA)] (.sl 1 false ((Qdg (a++b)).map intA)):=by
 by_cases h1:1≤(a++b).length
 ·exact Zap a b h1 hl
 ·rw [List.length_append] at h1;obtain rfl:a=[]:=List.eq_nil_of_length_eq_zero (by omega);obtain rfl:b=[]:=List.eq_nil_of_length_eq_zero (by omega);rw [show Qdg ([]++[])=[] from List.eq_nil_of_length_eq_zero (Nat.le_zero.1 (Qjr []))];exact Zaq
end Go.Proofs.YtahlldgocpabjaaGreat
