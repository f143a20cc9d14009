import Derived.Test.YtahlldgocpabjaaGreatAl
import Derived.Test.YtahlldgocpabjaaGreatMrgAE
import Derived.Test.YtahlldgocpabjaaGreatMrgAD
import Derived.Test.YtahlldgocpabjaaGreatMrgZ
set_option maxRecDepth 100000
set_option maxHeartbeats 8000000
set_option linter.unusedVariables false
set_option linter.unusedSimpArgs false
namespace Go.Proofs.YtahlldgocpabjaaGreat
open Go Go.RowKit Copyhold Go.Proofs.Tryz
theorem Qv6 {c:Chg} {st:Int} (h:c.gone=true):Qal c st=⟨st,true,nod0⟩:=W1y h
theorem Zaw {c:Chg} {st:Int} (h:c.gone=false):Qal c st=⟨st,false,⟨c.ino,c.n.kind,c.n.links,c.n.text,c.n.l⟩⟩:=W1x (by rw [h];decide)
theorem Qra (s:Sto) (cs:List Chg) (next:Int) (oks:OkS s) (hp:Qb7 s) (hf:s.l.length≤5000) (hc:cs.length≤5000) (hnx:s.nexts.length≤5000) (hv:∀ c∈s.l,c.l.length≤5000) (hs:s.stamp<1152921504606847976):Qai prog 60 [.agg (stoA s),.sl 7 false (cs.map chgA),aI next] (.agg (stoA (Qcy s cs next))):=by
 have ok1:=oks.1.1;have hn1:=hp.2.1.1;exact Qae func60 (
 .new fun b1=>.new fun b2=>.run 6 [b1=b1,b1=b1,rng .i64 (s.stamp+1)] ⟨rfl,rfl,Qah,trivial⟩<|
 .new fun b3=>.u 1 [b3]<|
 .r 1<|let L1:Lp (Nat):=⟨fun a1=>⟨[(1,.sl 7 false (cs.map chgA)),(2,aI next),(3,.ptr 3 b1 0),(6,.ptr 6 b2 0),(7,.ptr 7 b3 0),(8,aI (a1:Int))],[(3,.box b1 25 (stoA s)),(6,.box b2 25 [aN,aN,aI 0]),(7,.box b3 25 [.sl 2 false ((Qas s.l (s.stamp+1) cs a1).map chnA),aN,aI (s.stamp+1)])]⟩,fun a1=>cs.length-a1,fun a1=>a1≤cs.length⟩
 .lp L1 0 (show 0≤cs.length from W0j _) [(8,aI 0)] [(7,.box b3 25 [.sl 2 false (s.l.map chnA),aN,aI (s.stamp+1)])] ⟨sR,sR,sR,sR,sR,sO,trivial⟩ ⟨sB,sB,⟨_,rfl,W2q (by first | rfl | simp [Qas])⟩,trivial⟩ fun a1 ha1=>
 (fun (k:Nat) (hH1:k≤cs.length)=>.r 3<|.lm 18 cs chgA<|.r 1<|.bd 19 ((k:Int)<(cs.length:Int)) (fun p1=>.ord [0,1,2,3,4,5,6,7,8,9]<|.u 4 [b3]<|
 .idxM cs chgA k (m:=(k:Int)) rfl (by omega) fun x1 hx1=>
 .r 3<|.new fun b4=>.u 1 [b4]<|
 .r 2<|.idx k (m:=(k:Int)) (xs:=cs.map chgA) (e:=chgA x1) rfl (map_some hx1)<|
 .r 3<|.br 35 (!x1.gone) (fun q2=>have q2:=notT q2;have p2:=booF q2;.r 2<|.idx k (m:=(k:Int)) (xs:=cs.map chgA) (e:=chgA x1) rfl (map_some hx1)<|
 .u 4 [b4]<|
 .r 2<|.idx k (m:=(k:Int)) (xs:=cs.map chgA) (e:=chgA x1) rfl (map_some hx1)<|
 .u 5 [b4]<|
 .ord [0,1,2,3,4,5,6,7,8,9,10]<|.u 4 [b3]<|
 .idx k (m:=(k:Int)) (xs:=cs.map chgA) (e:=chgA x1) rfl (map_some hx1)<|
 .u 3 [b4]<|
 .cs (args0:=[.sl 2 false ((Qas s.l (s.stamp+1) cs k).map chnA),aI x1.ino,.agg [aI (s.stamp+1),aB x1.gone,aI x1.ino,aI x1.n.kind,aI x1.n.links,aS x1.n.text,.sl 2 false (x1.n.l.map entA)]]) (Qno (Qas s.l (s.stamp+1) cs k) x1.ino (Qal x1 (s.stamp+1)) (by have:=Qgx s.l (s.stamp+1) cs k;omega) (fun c hc=>by have:=Qdy hv k (by omega) c hc;omega)) ⟨sR,sR,(by rw [Zaw q2];exact W2t ⟨sR,W2p (W1z aB (by first | rfl | exact q2)),sR,sR,sR,sR,sR,trivial⟩),trivial⟩<|
 .u 2 [b3]<|
 .run 3 [rng .i64 ((k:Int)+1)] ⟨Qah,trivial⟩<|
 .bk L1 k (k+1) (show (k+1)≤cs.length from (by show _≤_;omega)) (show cs.length-(k+1)<cs.length-k from (by omega)) [(8,aI ((k:Int)+1))] [(7,.box b3 25 [.sl 2 false ((Qta x1.ino (Qal x1 (s.stamp+1)) (Qas s.l (s.stamp+1) cs k)).map chnA),aN,aI (s.stamp+1)])] ⟨sR,sR,sR,sR,sR,sO,trivial⟩ ⟨sB,sB,⟨_,rfl,W2q (by rw [Qs7 hp hx1])⟩,trivial⟩)
 <| fun q2=>have q2:=notF q2;have p2:=booT q2;.ord [0,1,2,3,4,5,6,7,8,9,10]<|.u 4 [b3]<|
 .idx k (m:=(k:Int)) (xs:=cs.map chgA) (e:=chgA x1) rfl (map_some hx1)<|
 .u 3 [b4]<|
 .cs (args0:=[.sl 2 false ((Qas s.l (s.stamp+1) cs k).map chnA),aI x1.ino,.agg [aI (s.stamp+1),aB x1.gone,aI 0,aI 0,aI 0,aS ([]),aN]]) (Qno (Qas s.l (s.stamp+1) cs k) x1.ino (Qal x1 (s.stamp+1)) (by have:=Qgx s.l (s.stamp+1) cs k;omega) (fun c hc=>by have:=Qdy hv k (by omega) c hc;omega)) ⟨sR,sR,(by rw [Qv6 q2];exact W2t ⟨sR,W2p (W1z aB (by first | rfl | exact q2)),sR,sR,sR,sR,Sub.nil _ _,trivial⟩),trivial⟩<|
 .u 2 [b3]<|
 .run 3 [rng .i64 ((k:Int)+1)] ⟨Qah,trivial⟩<|
 .bk L1 k (k+1) (show (k+1)≤cs.length from (by show _≤_;omega)) (show cs.length-(k+1)<cs.length-k from (by omega)) [(8,aI ((k:Int)+1))] [(7,.box b3 25 [.sl 2 false ((Qta x1.ino (Qal x1 (s.stamp+1)) (Qas s.l (s.stamp+1) cs k)).map chnA),aN,aI (s.stamp+1)])] ⟨sR,sR,sR,sR,sR,sO,trivial⟩ ⟨sB,sB,⟨_,rfl,W2q (by rw [Qs7 hp hx1])⟩,trivial⟩)
 <| fun p1=>.lit0 fun V1=>.u 2 [b1]<|
 .app 16 V1 ([]:List (List AV)) (s.nexts.map cntA) (by simp<;>omega) (by simp<;>omega) fun V2=>
 .u 2 [b3]<|
 .u 6 [b1,b1]<|
 .lm 69 s.nexts cntA<|.run 1 [rng .i64 ((s.nexts.length:Int)-1)] ⟨Qah,trivial⟩<|
 .idxM s.nexts cntA (s.nexts.length-1) (m:=(s.nexts.length:Int)-1) (show ((s.nexts.length:Int)-1)=((s.nexts.length-1:Nat):Int) from by omega) (by omega) fun x2 hx2=>
 .r 3<|.bd 74 (next>x2.next) (fun p3=>.u 7 [b3,b3]<|
 .app 16 V2 (([]:List (List AV))++(s.nexts.map cntA)) ([[aI (s.stamp+1),aI next]]) (by simp<;>omega) (by simp<;>omega) fun V3=>
 .u 2 [b3]<|
 .u 2 [b3,b2]<|
 .frz 59 [6] [6] [V3=V3,(([]:List (List AV))++(s.nexts.map cntA)).length+([[aI (s.stamp+1),aI next]]:List (List AV)).length=((([]:List (List AV))++(s.nexts.map cntA))++([[aI (s.stamp+1),aI next]])).length] ⟨rfl,(by first | rfl | (simp;done) | (simp;omega)),trivial⟩<|
 .f (.agg (stoA (Qcy s cs next))) [b2] (.agg [.sl 2 false ((Qas s.l (s.stamp+1) cs k).map chnA),.sl 2 false ((([]:List (List AV))++(s.nexts.map cntA))++([[aI (s.stamp+1),aI next]])),aI (s.stamp+1)]) (by
  have hk:k=cs.length:=by omega
  subst hk;unfold Qcy;rw [Qn6 hx2 p3];exact W2t ⟨sR,W2p (W1z (AV.sl 2 false) (by simp [cntA])),sR,trivial⟩))
 <| fun p3=>.u 2 [b3,b2]<|
 .frz 59 [6] [6] [V2=V2,([]:List (List AV)).length+(s.nexts.map cntA).length=(([]:List (List AV))++(s.nexts.map cntA)).length] ⟨rfl,(by first | rfl | (simp;done) | (simp;omega)),trivial⟩<|
 .f (.agg (stoA (Qcy s cs next))) [b2] (.agg [.sl 2 false ((Qas s.l (s.stamp+1) cs k).map chnA),.sl 2 false (([]:List (List AV))++(s.nexts.map cntA)),aI (s.stamp+1)]) (by
  have hk:k=cs.length:=by omega
  subst hk;unfold Qcy;rw [Qy9 hx2 p3];exact W2t ⟨sR,W2p (W1z (AV.sl 2 false) (by simp [cntA])),sR,trivial⟩)) a1 ha1)
theorem Zoc:Elem prog 29 3 (.int .i64 0) 1 8:=⟨Tryz.underlying29,by kernel_rfl,by kernel_rfl,by decide⟩
theorem Zgm (n:Nat) (hn:n≤1000000) (w:World) :
  Calls prog 151 #[.slice none 0 0,.int .i64 (n:Int)] w (Zie w 3 1 0 []):=by
 by_cases h0:0<n
 ·obtain ⟨G,w',hrun,hG1,hG2,hown,hb⟩:=Qs5 Zoc Tryz.underlying3 n h0 (by omega) (by omega) w;have HO:=Lib.hid (And.intro hown hb);have hi0:(0:Int)<(n:Int):=by omega
  clear hown hb
  go_enter func151,Tryz.ntmps151
  go_wp2_with (at_builtin;refine Qft rfl _ _ _ _ rfl _ _ _ _ rfl rfl (hrun _) ?_)
  go_ret
  exact ⟨_,rfl,HO.out.1,HO.out.2⟩
 ·obtain rfl:n=0:=by omega
  go_enter func151,Tryz.ntmps151
  go_wp2_with fail
  go_ret
  exact ⟨_,rfl,World.ownsRow_nil _ _ _ _,Below.refl _ _⟩
def pcI (p:List (List AV)):List AV:=[.sl 1 false p]
theorem Qvc (ps:List (List (List AV))) (hl:ps.length≤100000) (ht:ps.flatten.length≤100000) (hx:∀ l∈ps.flatten,l.length=1):Qex prog 89 [.sl 1 false (ps.map pcI)] 3 1 (ps.flatten):=by
 exact Qfb func89 (
 .r 1<|.r 1<|.r 2<|.lm 10 ps pcI<|.r 1<|let L1:Lp (Nat):=⟨fun a1=>⟨[(0,.sl 1 false (ps.map pcI)),(9,.sl 1 false (ps.map pcI)),(10,aI (ps.length:Int)),(3,aI ((ps.take a1).flatten.length:Int)),(11,aI (a1:Int))],[]⟩,fun a1=>ps.length-a1,fun a1=>a1≤ps.length⟩
 .lp L1 0 (show 0≤ps.length from W0j _) [(3,aI 0),(11,aI 0)] [] ⟨sR,sR,sR,sO,sO,trivial⟩ trivial fun a1 ha1=>
 (fun (k:Nat) (hH1:k≤ps.length)=>.r 1<|.bd 12 ((k:Int)<(ps.length:Int)) (fun p1=>.idxM ps pcI k (m:=(k:Int)) rfl (by omega) fun x1 hx1=>
 have tx1:=Qdv ps (k+1);have ux1:=W1z List.length (Qdq hx1);have vx1:=(@W0e _ (ps.take k).flatten x1);.r 2<|.run 5 [rng .i64 (((ps.take k).flatten.length:Int)+((x1).length:Int))] ⟨Qah,trivial⟩<|
 .r 2<|.bd 20 ((((ps.take k).flatten.length:Int)+((x1).length:Int))<0) (fun p2=>.no (by omega))
 <| fun p2=>.run 2 [rng .i64 ((k:Int)+1)] ⟨Qah,trivial⟩<|
 .bk L1 k (k+1) (show (k+1)≤ps.length from (by show _≤_;omega)) (show ps.length-(k+1)<ps.length-k from (by omega)) [(3,aI (((ps.take k).flatten.length:Int)+((x1).length:Int))),(11,aI ((k:Int)+1))] [] ⟨sR,sR,sR,W2p (W1z aI (by rw [Qdq hx1,W0e];omega)),sO,trivial⟩ trivial)
 <| fun p1=>.r 1<|.cw (args0:=[aN,aI ((ps.take k).flatten.length:Int)]) (Qus (fun w=>Zgm ((ps.take k).flatten.length) (by have:=Qdv ps k;omega) w)) sr2 fun V1=>
 .r 1<|.r 2<|.lm 26 ps pcI<|.r 1<|let L2:Lp (Nat × Value):=⟨fun a2=>⟨[(25,.sl 1 false (ps.map pcI)),(26,aI (ps.length:Int)),(27,aI (a2.1:Int)),(6,.rw 24 a2.2 ((ps.take a2.1).flatten.length))],[(24,.row a2.2 3 1 ((ps.take a2.1).flatten))]⟩,fun a2=>ps.length-a2.1,fun a2=>a2.1≤ps.length⟩
 .lp L2 (0,V1) (show 0≤ps.length from W0j _) [(27,aI 0),(6,.rw 24 V1 0)] [(24,.row V1 3 1 ([]))] ⟨sR,sR,sO,W2p (W1z (AV.rw 24 V1) (by simp)),trivial⟩ ⟨⟨_,rfl,W2q (by simp)⟩,trivial⟩ fun a2 ha2=>
 (fun (j:Nat) (V:Value) (hH2:j≤ps.length)=>.r 1<|.bd 28 ((j:Int)<(ps.length:Int)) (fun p3=>.idxM ps pcI j (m:=(j:Int)) rfl (by omega) fun x2 hx2=>
 have tx2:=Qdv ps (j+1);have ux2:=W1z List.length (Qdq hx2);have vx2:=(@W0e _ (ps.take j).flatten x2);.r 2<|.r 2<|.app 8 V ((ps.take j).flatten) x2 (by omega) (by omega) fun V2=>
 .r 1<|.run 2 [rng .i64 ((j:Int)+1)] ⟨Qah,trivial⟩<|
 .bk L2 (j,V) ((j+1),V2) (show (j+1)≤ps.length from (by show _≤_;omega)) (show ps.length-(j+1)<ps.length-j from (by omega)) [(27,aI ((j:Int)+1)),(6,.rw 24 V2 (((ps.take j).flatten).length+x2.length))] [(24,.row V2 3 1 (((ps.take j).flatten)++x2))] ⟨sR,sR,sO,W2p (W1z (AV.rw 24 V2) (by rw [Qdq hx2,W0e])),trivial⟩ ⟨⟨_,rfl,W2q (by rw [Qdq hx2])⟩,trivial⟩)
 <| fun p3=>.r 2<|.finRow (x:=(ps.take j).flatten) (r:=ps.flatten) [] trivial 24 3 1 ((ps.take j).flatten.length) V (by rw [Qat (by omega)])) a2.1 a2.2 ha2) a1 ha1)
theorem Zad (a b:List Int) (h:a.length+b.length≤100000):Qex prog 89 [.sl 1 false ([a.map intA,b.map intA].map pcI)] 3 1 ((a++b).map intA):=by
 have hx:∀ l∈[a.map intA,b.map intA].flatten,l.length=1:=fun l hl=>by
  simp only [W1g,List.flatten_nil,List.append_nil,W05,W1j] at hl;rcases hl with ⟨x,_,rfl⟩ | ⟨x,_,rfl⟩<;>rfl
 have:=Qvc [a.map intA,b.map intA] (by simp) (by simp;omega) hx;rw [W1t];simpa using this
theorem pcI2 {t t1 t2:Bool} (A B:List (List AV)):Sub (.sl 1 t [[.sl 1 t1 A],[.sl 1 t2 B]]) (.sl 1 false ([A,B].map pcI)):=
 (Sub.sl2 (xs:=[[.sl 1 t1 A],[.sl 1 t2 B]]) (ys:=[A,B].map pcI) rfl (fun i q p hq hp=>by
 match i,hq,hp with
 | 0,hq,hp=>simp at hq hp;subst hq hp;exact ⟨W2r _ _ _,trivial⟩
 | 1,hq,hp=>simp at hq hp;subst hq hp;exact ⟨W2r _ _ _,trivial⟩
 | i+2,hq,_=>simp at hq)).trans (W2r _ _ _)
theorem Zcc (a b:List Int) (h1:1≤(a++b).length) (hl:a.length+b.length≤100000):Qai prog 49 [.sl 1 false (a.map intA),.sl 1 false (b.map intA)] (.sl 1 false ((Qdn (a++b)).map intA)):=by
 exact Qae func49 (let R:AV:=.sl 1 false ((Qdn (a++b)).map intA);
 .r 1<|.r 3<|.op (crR prog 30) (89,[.sl 1 true ([[.sl 1 false (a.map intA)],[.sl 1 false (b.map intA)]])],9) (fun (V:Value) σ=>(σ.put (some 9) (.rw 30 V ((a++b).map intA).length)).setB 30 (.row V 3 1 ((a++b).map intA))) (Qh3 (args':=[.sl 1 false ([a.map intA,b.map intA].map pcI)]) ⟨pcI2 _ _,trivial⟩ (Zad a b (by omega))) fun V1=>
 .r 1<|.lent 1<|.r 1<|.lop (lcR prog 30) ((90,[.rw 30 V1 (((a++b).map intA).length)],some 11),.row V1 3 1 ((a++b).map intA)) (fun (_:Unit) σ=>(σ.put (some 11) (.tup [])).setB 30 (.row V1 3 1 (((a++b).mergeSort fun x y=>decide (x≤y)).map intA))) (Qdw (args':=[.rw 30 V1 ((a++b).length)]) ⟨W2p (W1z (AV.rw 30 V1) (by rw [W0a])),trivial⟩ (Qpu (a++b) V1 h1 (by rw [W0e];omega))) fun _=>
 .lent 1<|.r 1<|.lop (lcR prog 30) ((91,[.rw 30 V1 (((a++b).map intA).length)],some 13),.row V1 3 1 (((a++b).mergeSort fun x y=>decide (x≤y)).map intA)) (fun (_:Unit) σ=>(σ.put (some 13) (.sl 1 false ((Qdn (a++b)).map intA))).setB 30 gone) (Qc4 (args':=[.rw 30 V1 (((a++b).mergeSort fun x y=>decide (x≤y)).length)]) ⟨W2p (W1z (AV.rw 30 V1) (by rw [W0a,List.length_mergeSort])),trivial⟩ (Qk7 ((a++b).mergeSort fun x y=>decide (x≤y)) V1 (by rw [List.length_mergeSort];exact h1) (by rw [List.length_mergeSort,W0e];omega))) fun _=>
 .r 1<|.fi R [])
theorem Zcd :Qai prog 49 [.sl 1 false (([]:List Int).map intA),.sl 1 false (([]:List Int).map intA)] (.sl 1 false []):=by
 exact Qae func49 (
 .r 1<|.r 3<|.op (crR prog 30) (89,[.sl 1 true ([[.sl 1 false (([]:List Int).map intA)],[.sl 1 false (([]:List Int).map intA)]])],9) (fun (V:Value) σ=>(σ.put (some 9) (.rw 30 V ([]:List (List AV)).length)).setB 30 (.row V 3 1 (([]:List (List AV))))) (Qh3 (args':=[.sl 1 false ([([]:List Int).map intA,([]:List Int).map intA].map pcI)]) ⟨pcI2 _ _,trivial⟩ (Zad [] [] (by simp))) fun V1=>
 .r 1<|.lent 1<|.r 1<|.lop (lcR prog 30) ((90,[.rw 30 V1 (([]:List (List AV)).length)],some 11),.row V1 3 1 ([]:List (List AV))) (fun (_:Unit) σ=>(σ.put (some 11) (.tup [])).setB 30 (.row V1 3 1 ([]))) (Qdw (args':=[.rw 30 V1 0]) ⟨W2p rfl,trivial⟩ (Qpv V1)) fun _=>
 .lent 1<|.r 1<|.lop (lcR prog 30) ((91,[.rw 30 V1 (([]:List (List AV)).length)],some 13),.row V1 3 1 ([])) (fun (_:Unit) σ=>(σ.put (some 13) (.sl 1 false ([]))).setB 30 gone) (Qc4 (args':=[.rw 30 V1 0]) ⟨W2p rfl,trivial⟩ (Qk8 V1)) fun _=>
 .r 1<|.fi (.sl 1 false []) [])
theorem Qe5 (a b:List Int) (hl:a.length+b.length≤100000):Qai prog 49 [.sl 1 false (a.map intA),.sl 1 false (b.map intA)] (.sl 1 false ((Qdn (a++b)).map intA)):=by
 by_cases h1:1≤(a++b).length
 ·exact Zcc a b h1 hl
 ·rw [W0e] at h1;obtain rfl:a=[]:=W0l (by omega);obtain rfl:b=[]:=W0l (by omega);rw [show Qdn ([]++[])=[] from W0l (Nat.le_zero.1 (Qka []))];exact Zcd
def fltK (f:Fsy) (c:Cal) (k:Nat):List Int:=((Qaq f c).take k).filter fun x=>decide (1≤x)
def fltF (f:Fsy) (c:Cal):List Int:=(Qaq f c).filter fun x=>decide (1≤x)
def Qbn (f:Fsy) (c:Cal):List Int:=if c.kind=6∨c.kind=7∨c.kind=8∨c.kind=12∨c.kind=15 then 0 :: fltF f c else fltF f c
theorem Qsa {f:Fsy} {c:Cal} {k:Nat} {x:Int} (h:(Qaq f c)[k]?=some x) (q:1≤x):fltK f c (k+1)=fltK f c k++[x]:=by
 unfold fltK;rw [Qam h,W1k];simp [q]
theorem Qif {f:Fsy} {c:Cal} {k:Nat} {x:Int} (h:(Qaq f c)[k]?=some x) (q:¬ 1≤x):fltK f c (k+1)=fltK f c k:=by
 unfold fltK;rw [Qam h,W1k];simp [q]
theorem Qec (f:Fsy) (c:Cal) (k:Nat):(fltK f c k).length≤6:=by
 have h1:=W2h (fun x=>decide ((1:Int)≤x)) ((Qaq f c).take k);have h2:=Qlv f c;rw [W0g] at h1;unfold fltK;omega
theorem Qcl {f:Fsy} {c:Cal} {k:Nat} (h:(Qaq f c).length≤k):fltK f c k=fltF f c:=by unfold fltK;rw [Qat h];rfl
theorem Zb7 (f:Fsy) (c:Cal):Asc (Qaq f c):=by
 unfold Qaq
 split
 ·unfold Asc;simp
 ·exact Qgh _
theorem Qzx (f:Fsy) (c:Cal):Asc (fltF f c):=List.Pairwise.filter _ (Zb7 f c)
theorem Qk0 {f:Fsy} {c:Cal} {x:Int}:x∈fltF f c↔x∈Qaq f c∧1≤x:=by unfold fltF;rw [W1m];simp
theorem Zkd {f:Fsy} {c:Cal} {x:Int} (h:x∈fltF f c):1≤x:=(Qk0.1 h).2
theorem Qtg (f:Fsy) (c:Cal):Asc (Qbn f c):=by
 unfold Qbn
 split
 ·exact W1l.2 ⟨fun x hx=>by have:=Zkd hx;omega,Qzx f c⟩
 ·exact Qzx f c
theorem Qj8 {f:Fsy} {c:Cal} {x:Int}:x∈Qbn f c↔(x=0∧Qhu c)∨(x∈Qaq f c∧1≤x):=by
 unfold Qbn
 split
 ·rename_i h;rw [W0y,Qk0];constructor
  ·rintro (e | e)
   ·exact .inl ⟨e,h⟩
   ·exact .inr e
  ·rintro (e | e)
   ·exact .inl e.1
   ·exact .inr e
 ·rename_i h;rw [Qk0];constructor
  ·exact .inr
  ·rintro (e | e)
   ·exact absurd e.2 h
   ·exact e
theorem Qgd (f:Fsy) (c:Cal):(Qbn f c).length≤7:=by
 have h:(fltF f c).length≤6:=by rw [← Qcl (W0m _)];exact Qec f c _
 unfold Qbn
 split
 ·rw [W0b];omega
 ·omega
theorem Qge {f:Fsy} {c:Cal} (h:Qhu c):Qdn ([0]++fltF f c)=Qbn f c:=Ql7 (Qgh _) (Qtg f c) fun x=>by
 rw [Qey,Qj8,W05,Qk0,W0z];constructor
 ·rintro (e | e)
  ·exact .inl ⟨e,h⟩
  ·exact .inr e
 ·rintro (e | e)
  ·exact .inl e.1
  ·exact .inr e
theorem Zin {f:Fsy} {c:Cal} (h:¬ Qhu c):Qbn f c=fltF f c:=W1x h
def wiF (l:List Int) (ns:List Int):List Int:=ns.foldl Qc0 l
theorem Qv2 {x:Int}:∀ {ns l:List Int},x∈wiF l ns↔x∈l∨x∈ns
 | [],l=>by simp [wiF]
 | n :: r,l=>by
  show x∈wiF (Qc0 l n) r↔_;rw [Qv2,Qip,W0y];constructor
  ·rintro ((h | h) | h)
   ·exact .inr (.inl h)
   ·exact .inl h
   ·exact .inr (.inr h)
  ·rintro (h | h | h)
   ·exact .inl (.inr h)
   ·exact .inl (.inl h)
   ·exact .inr h
theorem Qv3:∀ {ns l:List Int},Asc l→Asc (wiF l ns)
 | [],_,h=>h
 | n :: r,l,h=>Qv3 (ns:=r) (Qj4 h n)
theorem Qhz:∀ (ns l:List Int),(wiF l ns).length≤l.length+ns.length
 | [],l=>W0m _
 | n :: r,l=>by
  have h1:=Qhz r (Qc0 l n);have h2:=Qiq l n;show (wiF (Qc0 l n) r).length≤_;rw [W0b];omega
theorem Zii {l ns:List Int} {k:Nat} {x:Int} (h:ns[k]?=some x):wiF l (ns.take (k+1))=Qc0 (wiF l (ns.take k)) x:=by
 unfold wiF;rw [Qam h,W1p];rfl
theorem Zij {l ns:List Int} (h:Asc l):wiF l ns=Qdn (l++ns):=Ql7 (Qv3 h) (Qgh _) fun x=>by
 rw [Qv2,Qey,W05]
def Qb3 (c:Cal):List Int:=if c.kind=6∨c.kind=7∨c.kind=8∨c.kind=12∨c.kind=15 then [0] else []
theorem Zlj (c:Cal):Asc (Qb3 c):=by
 unfold Qb3
 split
 ·unfold Asc;simp
 ·exact List.Pairwise.nil
theorem Qjj (c:Cal):(Qb3 c).length≤1:=by
 unfold Qb3
 split<;>simp
theorem Qis (f:Fsy) (c:Cal):wiF (Qb3 c) (fltF f c)=Qbn f c:=Ql7 (Qv3 (Zlj c)) (Qtg f c) fun x=>by
 rw [Qv2,Qj8,Qk0];unfold Qb3
 split
 ·rename_i h;rw [W0z];constructor
  ·rintro (e | e)
   ·exact .inl ⟨e,h⟩
   ·exact .inr e
  ·rintro (e | e)
   ·exact .inl e.1
   ·exact .inr e
 ·rename_i h;constructor
  ·rintro (e | e)
   ·cases e
   ·exact .inr e
  ·rintro (e | e)
   ·exact absurd e.2 h
   ·exact .inr e
theorem Qpp {f:Fsy} {c:Cal} {k:Nat} {x:Int} (h:(Qaq f c)[k]?=some x) (q:1≤x):wiF (Qb3 c) (fltK f c (k+1))=Qc0 (wiF (Qb3 c) (fltK f c k)) x:=by
 rw [Qsa h q];unfold wiF;rw [W1p];rfl
theorem Qpq (f:Fsy) (c:Cal) (okf:OkF f) (okc:OkCal c) (hp:Qan f):Qai prog 25 [.agg (fsyA f),.agg (calA c)] (.sl 1 false ((Qbn f c).map intA)):=by
 have hlu:=Qlv f c;exact Qae func25 (
 .new fun b1=>.new fun b2=>.r 1<|.r 1<|.rowNil 5 5 3 1<|.u 2 [b1,b2]<|
 .call (Qxe f c okf okc hp)<|
 .r 1<|.lm 11 (Qaq f c) intA<|.r 1<|let L1:Lp (Nat × Value):=⟨fun a1=>⟨[(3,.ptr 3 b2 0),(10,.sl 1 false ((Qaq f c).map intA)),(11,aI ((Qaq f c).length:Int)),(12,aI (a1.1:Int)),(5,.rw 5 a1.2 ((fltK f c a1.1).length))],[(3,.box b2 33 (calA c)),(5,.row a1.2 3 1 ((fltK f c a1.1).map intA))]⟩,fun a1=>(Qaq f c).length-a1.1,fun a1=>a1.1≤(Qaq f c).length⟩
 .lp L1 (0,.slice none 0 0) (show 0≤(Qaq f c).length from W0j _) [(12,aI 0),(5,.rw 5 (.slice none 0 0) 0)] [(5,.row (.slice none 0 0) 3 1 ([]))] ⟨sR,sR,sR,sO,sR,trivial⟩ bb2 fun a1 ha1=>
 (fun (k:Nat) (V:Value) (hH1:k≤(Qaq f c).length)=>.r 1<|.bd 13 ((k:Int)<((Qaq f c).length:Int)) (fun p1=>.idxM (Qaq f c) intA k (m:=(k:Int)) rfl (by omega) fun x1 hx1=>
 .r 2<|.r 2<|.bd 17 (x1≥1) (fun p2=>.r 3<|.app 8 V ((fltK f c k).map intA) ([[aI x1]]) (by have:=Qec f c k;simp only [W0a,W0b,W0f];omega) (by have:=Qec f c k;simp only [W0a,W0b,W0f];omega) fun V1=>
 .r 1<|.run 2 [rng .i64 ((k:Int)+1)] ⟨Qah,trivial⟩<|
 .bk L1 (k,V) ((k+1),V1) (show (k+1)≤(Qaq f c).length from (by show _≤_;omega)) (show (Qaq f c).length-(k+1)<(Qaq f c).length-k from (by omega)) [(12,aI ((k:Int)+1)),(5,.rw 5 V1 (((fltK f c k).map intA).length+([[aI x1]]:List (List AV)).length))] [(5,.row V1 3 1 (((fltK f c k).map intA)++([[aI x1]])))] ⟨sR,sR,sR,sO,W2p (W1z (AV.rw 5 V1) (by rw [Qsa hx1 (by omega)];simp)),trivial⟩ ⟨sB,⟨_,rfl,W2q (by rw [Qsa hx1 (by omega)];simp [intA])⟩,trivial⟩)
 <| fun p2=>.run 2 [rng .i64 ((k:Int)+1)] ⟨Qah,trivial⟩<|
 .bk L1 (k,V) ((k+1),V) (show (k+1)≤(Qaq f c).length from (by show _≤_;omega)) (show (Qaq f c).length-(k+1)<(Qaq f c).length-k from (by omega)) [(12,aI ((k:Int)+1)),(5,.rw 5 V ((fltK f c k).length))] [(5,.row V 3 1 ((fltK f c k).map intA))] ⟨sR,sR,sR,sO,W2p (W1z (AV.rw 5 V) (by rw [Qif hx1 (by omega)])),trivial⟩ ⟨sB,⟨_,rfl,W2q (by rw [Qif hx1 (by omega)])⟩,trivial⟩)
 <| fun p1=>.u 2 [b2]<|
 .r 2<|.be 25 c.kind 6 (fun p3=>.frz 5 [5,13,25] [] [V=V,(fltK f c k).length=((fltK f c k).map intA).length] ⟨rfl,(by first | rfl | (simp;done) | (simp;omega)),trivial⟩<|
 .r 2<|.cs (args0:=[.sl 1 true ([[aI 0]]),.sl 1 false ((fltK f c k).map intA)]) (Qe5 [0] (fltF f c) (by have:=Qec f c k;rw [← Qcl (f:=f) (c:=c) (k:=k) (by omega)];simp;omega)) ⟨W2r _ _ _,W2p (by rw [Qcl (by omega)]),trivial⟩<|
 .r 1<|.f (.sl 1 false ((Qbn f c).map intA)) [] (.sl 1 false ((Qdn ([0]++fltF f c)).map intA)) (by
  rw [← Qge (by unfold Qhu;omega)];exact sR))
 <| fun p3=>.r 2<|.be 25 c.kind 7 (fun p4=>.frz 5 [5,13,25] [] [V=V,(fltK f c k).length=((fltK f c k).map intA).length] ⟨rfl,(by first | rfl | (simp;done) | (simp;omega)),trivial⟩<|
 .r 2<|.cs (args0:=[.sl 1 true ([[aI 0]]),.sl 1 false ((fltK f c k).map intA)]) (Qe5 [0] (fltF f c) (by have:=Qec f c k;rw [← Qcl (f:=f) (c:=c) (k:=k) (by omega)];simp;omega)) ⟨W2r _ _ _,W2p (by rw [Qcl (by omega)]),trivial⟩<|
 .r 1<|.f (.sl 1 false ((Qbn f c).map intA)) [] (.sl 1 false ((Qdn ([0]++fltF f c)).map intA)) (by
  rw [← Qge (by unfold Qhu;omega)];exact sR))
 <| fun p4=>.r 2<|.be 25 c.kind 8 (fun p5=>.frz 5 [5,13,25] [] [V=V,(fltK f c k).length=((fltK f c k).map intA).length] ⟨rfl,(by first | rfl | (simp;done) | (simp;omega)),trivial⟩<|
 .r 2<|.cs (args0:=[.sl 1 true ([[aI 0]]),.sl 1 false ((fltK f c k).map intA)]) (Qe5 [0] (fltF f c) (by have:=Qec f c k;rw [← Qcl (f:=f) (c:=c) (k:=k) (by omega)];simp;omega)) ⟨W2r _ _ _,W2p (by rw [Qcl (by omega)]),trivial⟩<|
 .r 1<|.f (.sl 1 false ((Qbn f c).map intA)) [] (.sl 1 false ((Qdn ([0]++fltF f c)).map intA)) (by
  rw [← Qge (by unfold Qhu;omega)];exact sR))
 <| fun p5=>.r 2<|.be 25 c.kind 12 (fun p6=>.frz 5 [5,13,25] [] [V=V,(fltK f c k).length=((fltK f c k).map intA).length] ⟨rfl,(by first | rfl | (simp;done) | (simp;omega)),trivial⟩<|
 .r 2<|.cs (args0:=[.sl 1 true ([[aI 0]]),.sl 1 false ((fltK f c k).map intA)]) (Qe5 [0] (fltF f c) (by have:=Qec f c k;rw [← Qcl (f:=f) (c:=c) (k:=k) (by omega)];simp;omega)) ⟨W2r _ _ _,W2p (by rw [Qcl (by omega)]),trivial⟩<|
 .r 1<|.f (.sl 1 false ((Qbn f c).map intA)) [] (.sl 1 false ((Qdn ([0]++fltF f c)).map intA)) (by
  rw [← Qge (by unfold Qhu;omega)];exact sR))
 <| fun p6=>.r 2<|.be 25 c.kind 15 (fun p7=>.frz 5 [5,13,25] [] [V=V,(fltK f c k).length=((fltK f c k).map intA).length] ⟨rfl,(by first | rfl | (simp;done) | (simp;omega)),trivial⟩<|
 .r 2<|.cs (args0:=[.sl 1 true ([[aI 0]]),.sl 1 false ((fltK f c k).map intA)]) (Qe5 [0] (fltF f c) (by have:=Qec f c k;rw [← Qcl (f:=f) (c:=c) (k:=k) (by omega)];simp;omega)) ⟨W2r _ _ _,W2p (by rw [Qcl (by omega)]),trivial⟩<|
 .r 1<|.f (.sl 1 false ((Qbn f c).map intA)) [] (.sl 1 false ((Qdn ([0]++fltF f c)).map intA)) (by
  rw [← Qge (by unfold Qhu;omega)];exact sR))
 <| fun p7=>.r 2<|.frz 5 [4] [] [V=V,(fltK f c k).length=((fltK f c k).map intA).length] ⟨rfl,(by first | rfl | (simp;done) | (simp;omega)),trivial⟩<|
 .f (.sl 1 false ((Qbn f c).map intA)) [] (.sl 1 false ((fltK f c k).map intA)) (by
  rw [Zin (by unfold Qhu;omega),← Qcl (k:=k) (by omega)]
  first | exact sR | exact W2r _ _ _)) a1.1 a1.2 ha1)
theorem Qwh (f:Fsy) (c:Cal) (okf:OkF f) (okc:OkCal c) (hp:Qan f):Qai prog 26 [.agg (fsyA f),.agg (calA c)] (.sl 1 false ((Qbn f c).map intA)):=by
 have hlu:=Qlv f c;exact Qae func26 (
 .new fun b1=>.new fun b2=>.r 1<|.u 2 [b1,b2]<|
 .call ((Zed hp ▸ Qwp f c okf okc hp))<|
 .r 1<|.r 1<|.u 4 [b2]<|
 .be 14 c.kind 6 (fun p1=>.r 19<|.rowNil 6 6 3 1<|.r 2<|.app 8 (.slice none 0 0) ([]:List (List AV)) ([[aI 0]]) (by simp) (by simp) fun V1=>
 .r 1<|.frz 6 [4,5,6,14,18,19,23,24,28,29,33] [] [V1=V1,([]:List (List AV)).length+([[aI 0]]:List (List AV)).length=(([]:List (List AV))++([[aI 0]])).length] ⟨rfl,(by first | rfl | (simp;done) | (simp;omega)),trivial⟩<|
 .r 1<|let L1:Lp (Nat):=⟨fun a1=>⟨[(5,.sl 1 false ((Qaq f c).map intA)),(7,aI (a1:Int)),(6,.sl 1 false ((wiF (Qb3 c) (fltK f c a1)).map intA))],[]⟩,fun a1=>(Qaq f c).length-a1,fun a1=>a1≤(Qaq f c).length⟩
 .lp L1 0 (show 0≤(Qaq f c).length from W0j _) [(7,aI 0),(6,.sl 1 false (([]:List (List AV))++([[aI 0]])))] [] ⟨sR,sO,(by rw [show wiF (Qb3 c) (fltK f c 0)=Qb3 c from rfl,show Qb3 c=_ from W1y (by omega)];exact W2r _ _ _),trivial⟩ trivial fun a1 ha1=>
 (fun (k:Nat) (hH1:k≤(Qaq f c).length)=>.r 3<|.lm 39 (Qaq f c) intA<|.r 1<|.bd 40 ((k:Int)<((Qaq f c).length:Int)) (fun p2=>.r 2<|.idxM (Qaq f c) intA k (m:=(k:Int)) rfl (by omega) fun x1 hx1=>
 .r 2<|.bd 47 (x1≥1) (fun p3=>.r 3<|.idx k (m:=(k:Int)) (xs:=(Qaq f c).map intA) (e:=intA x1) rfl (map_some hx1)<|
 .r 1<|.call (Qc3 (wiF (Qb3 c) (fltK f c k)) x1 (by have h1:=Qhz (fltK f c k) (Qb3 c);have h2:=Qec f c k;have h3:=Qjj c;omega))<|
 .r 1<|.run 3 [rng .i64 ((k:Int)+1)] ⟨Qah,trivial⟩<|
 .bk L1 k (k+1) (show (k+1)≤(Qaq f c).length from (by show _≤_;omega)) (show (Qaq f c).length-(k+1)<(Qaq f c).length-k from (by omega)) [(7,aI ((k:Int)+1)),(6,.sl 1 false ((Qc0 (wiF (Qb3 c) (fltK f c k)) x1).map intA))] [] ⟨sR,sO,W2p (by rw [Qpp hx1 (by omega)];rfl),trivial⟩ trivial)
 <| fun p3=>.run 3 [rng .i64 ((k:Int)+1)] ⟨Qah,trivial⟩<|
 .bk L1 k (k+1) (show (k+1)≤(Qaq f c).length from (by show _≤_;omega)) (show (Qaq f c).length-(k+1)<(Qaq f c).length-k from (by omega)) [(7,aI ((k:Int)+1)),(6,.sl 1 false ((wiF (Qb3 c) (fltK f c k)).map intA))] [] ⟨sR,sO,W2p (by rw [Qif hx1 (by omega)];rfl),trivial⟩ trivial)
 <| fun p2=>.r 2<|.f (.sl 1 false ((Qbn f c).map intA)) [] (.sl 1 false ((wiF (Qb3 c) (fltK f c k)).map intA)) (by
  rw [← Qis,← Qcl (k:=k) (by omega)];exact sR)) a1 ha1)
 <| fun p1=>.u 5 [b2]<|
 .be 19 c.kind 7 (fun p4=>.r 14<|.rowNil 6 6 3 1<|.r 2<|.app 8 (.slice none 0 0) ([]:List (List AV)) ([[aI 0]]) (by simp) (by simp) fun V2=>
 .r 1<|.frz 6 [4,5,6,14,19,23,24,28,29,33] [] [V2=V2,([]:List (List AV)).length+([[aI 0]]:List (List AV)).length=(([]:List (List AV))++([[aI 0]])).length] ⟨rfl,(by first | rfl | (simp;done) | (simp;omega)),trivial⟩<|
 .r 1<|let L1:Lp (Nat):=⟨fun a1=>⟨[(5,.sl 1 false ((Qaq f c).map intA)),(7,aI (a1:Int)),(6,.sl 1 false ((wiF (Qb3 c) (fltK f c a1)).map intA))],[]⟩,fun a1=>(Qaq f c).length-a1,fun a1=>a1≤(Qaq f c).length⟩
 .lp L1 0 (show 0≤(Qaq f c).length from W0j _) [(7,aI 0),(6,.sl 1 false (([]:List (List AV))++([[aI 0]])))] [] ⟨sR,sO,(by rw [show wiF (Qb3 c) (fltK f c 0)=Qb3 c from rfl,show Qb3 c=_ from W1y (by omega)];exact W2r _ _ _),trivial⟩ trivial fun a1 ha1=>
 (fun (k:Nat) (hH1:k≤(Qaq f c).length)=>.r 3<|.lm 39 (Qaq f c) intA<|.r 1<|.bd 40 ((k:Int)<((Qaq f c).length:Int)) (fun p5=>.r 2<|.idxM (Qaq f c) intA k (m:=(k:Int)) rfl (by omega) fun x2 hx2=>
 .r 2<|.bd 47 (x2≥1) (fun p6=>.r 3<|.idx k (m:=(k:Int)) (xs:=(Qaq f c).map intA) (e:=intA x2) rfl (map_some hx2)<|
 .r 1<|.call (Qc3 (wiF (Qb3 c) (fltK f c k)) x2 (by have h1:=Qhz (fltK f c k) (Qb3 c);have h2:=Qec f c k;have h3:=Qjj c;omega))<|
 .r 1<|.run 3 [rng .i64 ((k:Int)+1)] ⟨Qah,trivial⟩<|
 .bk L1 k (k+1) (show (k+1)≤(Qaq f c).length from (by show _≤_;omega)) (show (Qaq f c).length-(k+1)<(Qaq f c).length-k from (by omega)) [(7,aI ((k:Int)+1)),(6,.sl 1 false ((Qc0 (wiF (Qb3 c) (fltK f c k)) x2).map intA))] [] ⟨sR,sO,W2p (by rw [Qpp hx2 (by omega)];rfl),trivial⟩ trivial)
 <| fun p6=>.run 3 [rng .i64 ((k:Int)+1)] ⟨Qah,trivial⟩<|
 .bk L1 k (k+1) (show (k+1)≤(Qaq f c).length from (by show _≤_;omega)) (show (Qaq f c).length-(k+1)<(Qaq f c).length-k from (by omega)) [(7,aI ((k:Int)+1)),(6,.sl 1 false ((wiF (Qb3 c) (fltK f c k)).map intA))] [] ⟨sR,sO,W2p (by rw [Qif hx2 (by omega)];rfl),trivial⟩ trivial)
 <| fun p5=>.r 2<|.f (.sl 1 false ((Qbn f c).map intA)) [] (.sl 1 false ((wiF (Qb3 c) (fltK f c k)).map intA)) (by
  rw [← Qis,← Qcl (k:=k) (by omega)];exact sR)) a1 ha1)
 <| fun p4=>.u 5 [b2]<|
 .be 24 c.kind 8 (fun p7=>.r 9<|.rowNil 6 6 3 1<|.r 2<|.app 8 (.slice none 0 0) ([]:List (List AV)) ([[aI 0]]) (by simp) (by simp) fun V3=>
 .r 1<|.frz 6 [4,5,6,14,19,24,28,29,33] [] [V3=V3,([]:List (List AV)).length+([[aI 0]]:List (List AV)).length=(([]:List (List AV))++([[aI 0]])).length] ⟨rfl,(by first | rfl | (simp;done) | (simp;omega)),trivial⟩<|
 .r 1<|let L1:Lp (Nat):=⟨fun a1=>⟨[(5,.sl 1 false ((Qaq f c).map intA)),(7,aI (a1:Int)),(6,.sl 1 false ((wiF (Qb3 c) (fltK f c a1)).map intA))],[]⟩,fun a1=>(Qaq f c).length-a1,fun a1=>a1≤(Qaq f c).length⟩
 .lp L1 0 (show 0≤(Qaq f c).length from W0j _) [(7,aI 0),(6,.sl 1 false (([]:List (List AV))++([[aI 0]])))] [] ⟨sR,sO,(by rw [show wiF (Qb3 c) (fltK f c 0)=Qb3 c from rfl,show Qb3 c=_ from W1y (by omega)];exact W2r _ _ _),trivial⟩ trivial fun a1 ha1=>
 (fun (k:Nat) (hH1:k≤(Qaq f c).length)=>.r 3<|.lm 39 (Qaq f c) intA<|.r 1<|.bd 40 ((k:Int)<((Qaq f c).length:Int)) (fun p8=>.r 2<|.idxM (Qaq f c) intA k (m:=(k:Int)) rfl (by omega) fun x3 hx3=>
 .r 2<|.bd 47 (x3≥1) (fun p9=>.r 3<|.idx k (m:=(k:Int)) (xs:=(Qaq f c).map intA) (e:=intA x3) rfl (map_some hx3)<|
 .r 1<|.call (Qc3 (wiF (Qb3 c) (fltK f c k)) x3 (by have h1:=Qhz (fltK f c k) (Qb3 c);have h2:=Qec f c k;have h3:=Qjj c;omega))<|
 .r 1<|.run 3 [rng .i64 ((k:Int)+1)] ⟨Qah,trivial⟩<|
 .bk L1 k (k+1) (show (k+1)≤(Qaq f c).length from (by show _≤_;omega)) (show (Qaq f c).length-(k+1)<(Qaq f c).length-k from (by omega)) [(7,aI ((k:Int)+1)),(6,.sl 1 false ((Qc0 (wiF (Qb3 c) (fltK f c k)) x3).map intA))] [] ⟨sR,sO,W2p (by rw [Qpp hx3 (by omega)];rfl),trivial⟩ trivial)
 <| fun p9=>.run 3 [rng .i64 ((k:Int)+1)] ⟨Qah,trivial⟩<|
 .bk L1 k (k+1) (show (k+1)≤(Qaq f c).length from (by show _≤_;omega)) (show (Qaq f c).length-(k+1)<(Qaq f c).length-k from (by omega)) [(7,aI ((k:Int)+1)),(6,.sl 1 false ((wiF (Qb3 c) (fltK f c k)).map intA))] [] ⟨sR,sO,W2p (by rw [Qif hx3 (by omega)];rfl),trivial⟩ trivial)
 <| fun p8=>.r 2<|.f (.sl 1 false ((Qbn f c).map intA)) [] (.sl 1 false ((wiF (Qb3 c) (fltK f c k)).map intA)) (by
  rw [← Qis,← Qcl (k:=k) (by omega)];exact sR)) a1 ha1)
 <| fun p7=>.u 5 [b2]<|
 .be 29 c.kind 12 (fun p10=>.r 4<|.rowNil 6 6 3 1<|.r 2<|.app 8 (.slice none 0 0) ([]:List (List AV)) ([[aI 0]]) (by simp) (by simp) fun V4=>
 .r 1<|.frz 6 [4,5,6,14,19,24,29,33] [] [V4=V4,([]:List (List AV)).length+([[aI 0]]:List (List AV)).length=(([]:List (List AV))++([[aI 0]])).length] ⟨rfl,(by first | rfl | (simp;done) | (simp;omega)),trivial⟩<|
 .r 1<|let L1:Lp (Nat):=⟨fun a1=>⟨[(5,.sl 1 false ((Qaq f c).map intA)),(7,aI (a1:Int)),(6,.sl 1 false ((wiF (Qb3 c) (fltK f c a1)).map intA))],[]⟩,fun a1=>(Qaq f c).length-a1,fun a1=>a1≤(Qaq f c).length⟩
 .lp L1 0 (show 0≤(Qaq f c).length from W0j _) [(7,aI 0),(6,.sl 1 false (([]:List (List AV))++([[aI 0]])))] [] ⟨sR,sO,(by rw [show wiF (Qb3 c) (fltK f c 0)=Qb3 c from rfl,show Qb3 c=_ from W1y (by omega)];exact W2r _ _ _),trivial⟩ trivial fun a1 ha1=>
 (fun (k:Nat) (hH1:k≤(Qaq f c).length)=>.r 3<|.lm 39 (Qaq f c) intA<|.r 1<|.bd 40 ((k:Int)<((Qaq f c).length:Int)) (fun p11=>.r 2<|.idxM (Qaq f c) intA k (m:=(k:Int)) rfl (by omega) fun x4 hx4=>
 .r 2<|.bd 47 (x4≥1) (fun p12=>.r 3<|.idx k (m:=(k:Int)) (xs:=(Qaq f c).map intA) (e:=intA x4) rfl (map_some hx4)<|
 .r 1<|.call (Qc3 (wiF (Qb3 c) (fltK f c k)) x4 (by have h1:=Qhz (fltK f c k) (Qb3 c);have h2:=Qec f c k;have h3:=Qjj c;omega))<|
 .r 1<|.run 3 [rng .i64 ((k:Int)+1)] ⟨Qah,trivial⟩<|
 .bk L1 k (k+1) (show (k+1)≤(Qaq f c).length from (by show _≤_;omega)) (show (Qaq f c).length-(k+1)<(Qaq f c).length-k from (by omega)) [(7,aI ((k:Int)+1)),(6,.sl 1 false ((Qc0 (wiF (Qb3 c) (fltK f c k)) x4).map intA))] [] ⟨sR,sO,W2p (by rw [Qpp hx4 (by omega)];rfl),trivial⟩ trivial)
 <| fun p12=>.run 3 [rng .i64 ((k:Int)+1)] ⟨Qah,trivial⟩<|
 .bk L1 k (k+1) (show (k+1)≤(Qaq f c).length from (by show _≤_;omega)) (show (Qaq f c).length-(k+1)<(Qaq f c).length-k from (by omega)) [(7,aI ((k:Int)+1)),(6,.sl 1 false ((wiF (Qb3 c) (fltK f c k)).map intA))] [] ⟨sR,sO,W2p (by rw [Qif hx4 (by omega)];rfl),trivial⟩ trivial)
 <| fun p11=>.r 2<|.f (.sl 1 false ((Qbn f c).map intA)) [] (.sl 1 false ((wiF (Qb3 c) (fltK f c k)).map intA)) (by
  rw [← Qis,← Qcl (k:=k) (by omega)];exact sR)) a1 ha1)
 <| fun p10=>.u 4 [b2]<|
 .be 33 c.kind 15 (fun p13=>.rowNil 6 6 3 1<|.r 2<|.app 8 (.slice none 0 0) ([]:List (List AV)) ([[aI 0]]) (by simp) (by simp) fun V5=>
 .r 1<|.frz 6 [4,5,6,14,19,24,29,33] [] [V5=V5,([]:List (List AV)).length+([[aI 0]]:List (List AV)).length=(([]:List (List AV))++([[aI 0]])).length] ⟨rfl,(by first | rfl | (simp;done) | (simp;omega)),trivial⟩<|
 .r 1<|let L1:Lp (Nat):=⟨fun a1=>⟨[(5,.sl 1 false ((Qaq f c).map intA)),(7,aI (a1:Int)),(6,.sl 1 false ((wiF (Qb3 c) (fltK f c a1)).map intA))],[]⟩,fun a1=>(Qaq f c).length-a1,fun a1=>a1≤(Qaq f c).length⟩
 .lp L1 0 (show 0≤(Qaq f c).length from W0j _) [(7,aI 0),(6,.sl 1 false (([]:List (List AV))++([[aI 0]])))] [] ⟨sR,sO,(by rw [show wiF (Qb3 c) (fltK f c 0)=Qb3 c from rfl,show Qb3 c=_ from W1y (by omega)];exact W2r _ _ _),trivial⟩ trivial fun a1 ha1=>
 (fun (k:Nat) (hH1:k≤(Qaq f c).length)=>.r 3<|.lm 39 (Qaq f c) intA<|.r 1<|.bd 40 ((k:Int)<((Qaq f c).length:Int)) (fun p14=>.r 2<|.idxM (Qaq f c) intA k (m:=(k:Int)) rfl (by omega) fun x5 hx5=>
 .r 2<|.bd 47 (x5≥1) (fun p15=>.r 3<|.idx k (m:=(k:Int)) (xs:=(Qaq f c).map intA) (e:=intA x5) rfl (map_some hx5)<|
 .r 1<|.call (Qc3 (wiF (Qb3 c) (fltK f c k)) x5 (by have h1:=Qhz (fltK f c k) (Qb3 c);have h2:=Qec f c k;have h3:=Qjj c;omega))<|
 .r 1<|.run 3 [rng .i64 ((k:Int)+1)] ⟨Qah,trivial⟩<|
 .bk L1 k (k+1) (show (k+1)≤(Qaq f c).length from (by show _≤_;omega)) (show (Qaq f c).length-(k+1)<(Qaq f c).length-k from (by omega)) [(7,aI ((k:Int)+1)),(6,.sl 1 false ((Qc0 (wiF (Qb3 c) (fltK f c k)) x5).map intA))] [] ⟨sR,sO,W2p (by rw [Qpp hx5 (by omega)];rfl),trivial⟩ trivial)
 <| fun p15=>.run 3 [rng .i64 ((k:Int)+1)] ⟨Qah,trivial⟩<|
 .bk L1 k (k+1) (show (k+1)≤(Qaq f c).length from (by show _≤_;omega)) (show (Qaq f c).length-(k+1)<(Qaq f c).length-k from (by omega)) [(7,aI ((k:Int)+1)),(6,.sl 1 false ((wiF (Qb3 c) (fltK f c k)).map intA))] [] ⟨sR,sO,W2p (by rw [Qif hx5 (by omega)];rfl),trivial⟩ trivial)
 <| fun p14=>.r 2<|.f (.sl 1 false ((Qbn f c).map intA)) [] (.sl 1 false ((wiF (Qb3 c) (fltK f c k)).map intA)) (by
  rw [← Qis,← Qcl (k:=k) (by omega)];exact sR)) a1 ha1)
 <| fun p13=>.r 1<|let L1:Lp (Nat):=⟨fun a1=>⟨[(5,.sl 1 false ((Qaq f c).map intA)),(7,aI (a1:Int)),(6,.sl 1 false ((wiF (Qb3 c) (fltK f c a1)).map intA))],[]⟩,fun a1=>(Qaq f c).length-a1,fun a1=>a1≤(Qaq f c).length⟩
 .lp L1 0 (show 0≤(Qaq f c).length from W0j _) [(7,aI 0),(6,aN)] [] ⟨sR,sO,(by rw [show wiF (Qb3 c) (fltK f c 0)=Qb3 c from rfl,show Qb3 c=_ from W1x (by omega)];exact Sub.nil _ _),trivial⟩ trivial fun a1 ha1=>
 (fun (k:Nat) (hH1:k≤(Qaq f c).length)=>.r 3<|.lm 39 (Qaq f c) intA<|.r 1<|.bd 40 ((k:Int)<((Qaq f c).length:Int)) (fun p16=>.r 2<|.idxM (Qaq f c) intA k (m:=(k:Int)) rfl (by omega) fun x6 hx6=>
 .r 2<|.bd 47 (x6≥1) (fun p17=>.r 3<|.idx k (m:=(k:Int)) (xs:=(Qaq f c).map intA) (e:=intA x6) rfl (map_some hx6)<|
 .r 1<|.call (Qc3 (wiF (Qb3 c) (fltK f c k)) x6 (by have h1:=Qhz (fltK f c k) (Qb3 c);have h2:=Qec f c k;have h3:=Qjj c;omega))<|
 .r 1<|.run 3 [rng .i64 ((k:Int)+1)] ⟨Qah,trivial⟩<|
 .bk L1 k (k+1) (show (k+1)≤(Qaq f c).length from (by show _≤_;omega)) (show (Qaq f c).length-(k+1)<(Qaq f c).length-k from (by omega)) [(7,aI ((k:Int)+1)),(6,.sl 1 false ((Qc0 (wiF (Qb3 c) (fltK f c k)) x6).map intA))] [] ⟨sR,sO,W2p (by rw [Qpp hx6 (by omega)];rfl),trivial⟩ trivial)
 <| fun p17=>.run 3 [rng .i64 ((k:Int)+1)] ⟨Qah,trivial⟩<|
 .bk L1 k (k+1) (show (k+1)≤(Qaq f c).length from (by show _≤_;omega)) (show (Qaq f c).length-(k+1)<(Qaq f c).length-k from (by omega)) [(7,aI ((k:Int)+1)),(6,.sl 1 false ((wiF (Qb3 c) (fltK f c k)).map intA))] [] ⟨sR,sO,W2p (by rw [Qif hx6 (by omega)];rfl),trivial⟩ trivial)
 <| fun p16=>.r 2<|.f (.sl 1 false ((Qbn f c).map intA)) [] (.sl 1 false ((wiF (Qb3 c) (fltK f c k)).map intA)) (by
  rw [← Qis,← Qcl (k:=k) (by omega)];exact sR)) a1 ha1)
structure Txn where
 stamp:Int
 was:Fsy
 now:Fsy
 looks:List Int
def txnA (t:Txn):List AV:=[aI t.stamp,.sl 5 false (t.was.l.map nodA),aI t.was.next,.sl 5 false (t.now.l.map nodA),aI t.now.next,.sl 1 false (t.looks.map intA)]
noncomputable def Qbb (t:Txn) (c:Cal):Txn:=⟨t.stamp,t.was,(doF t.now c).1,Qdn (t.looks++Qbn t.now c)⟩
theorem Zdl (t:Txn) (c:Cal):Asc (Qbb t c).looks:=Qgh _
theorem Qtj (t:Txn) (c:Cal):(Qbb t c).looks.length≤t.looks.length+7:=by
 have h1:=Qka (t.looks++Qbn t.now c);have h2:=Qgd t.now c;rw [W0e] at h1;show (Qdn (t.looks++Qbn t.now c)).length≤_;omega
theorem Qfj (t:Txn) (c:Cal) (okf:OkF t.now) (okc:OkCal c) (hp:Qan t.now) (hx:t.now.next<4611686018427387904) (hl:t.looks.length≤90000):Qai prog 18 [.agg [aI t.stamp,.sl 5 false (t.was.l.map nodA),aI t.was.next,.sl 5 false (t.now.l.map nodA),aI t.now.next,.sl 1 false (t.looks.map intA)],.agg (calA c)] (.tup [.agg (txnA (Qbb t c)),.agg (repA (doF t.now c).2)]):=by
 exact Qae func18 (let R:AV:=.tup [.agg (txnA (Qbb t c)),.agg (repA (doF t.now c).2)];
 .new fun b1=>.new fun b2=>.new fun b3=>.new fun b4=>.u 3 [b1,b2]<|
 .call (Zoo t.now c okf okc hp (by omega))<|
 .r 3<|.new fun b5=>.new fun b6=>.u 2 [b5,b6]<|
 let J1:Jn (Unit):=⟨fun j1=>⟨[(4,.ptr 4 b3 0),(5,.ptr 5 b4 0)],[(4,.box b3 31 [aI t.stamp,.sl 5 false (t.was.l.map nodA),aI t.was.next,.sl 5 false ((doF t.now c).1.l.map nodA),aI ((doF t.now c).1.next),.sl 1 false ((Qdn (t.looks++Qbn t.now c)).map intA)]),(5,.box b4 45 [aI ((doF t.now c).2.e),aI ((doF t.now c).2.a),aI ((doF t.now c).2.b),aI ((doF t.now c).2.n),aS ((doF t.now c).2.text),.sl 1 false ((doF t.now c).2.names.map txA)])]⟩,fun _=>True⟩
 .cut J1 (.pick [0,1,2,3,4,5,6,7,8,9]<|.u 10 [b1,b1,b5,b1,b1,b2]<|
 .fork<|.alt (.call (Qpq t.now c okf okc hp)<|
 .fork<|.alt (.call (Qe5 t.looks (Qbn t.now c) (by have:=Qgd t.now c;omega))<|
 .pick [12]<|.r 1<|.fork<|.alt (.u 1 [b6]<|
 .pick [14,15]<|.u 2 [b3,b4]<|
 .jo J1 () [] [] sr2 bb2)
 <| .u 1 [b3]<|
 .pick [13,15]<|.u 2 [b6,b4]<|
 .jo J1 () [] [] sr2 bb2)
 <| .u 1 [b6]<|
 .pick [11,12,14,15]<|.call (Qe5 t.looks (Qbn t.now c) (by have:=Qgd t.now c;omega))<|
 .u 3 [b3,b4]<|
 .jo J1 () [] [] sr2 bb2)
 <| .u 1 [b6]<|
 .pick [10,11,12,14,15]<|.call (Qpq t.now c okf okc hp)<|
 .call (Qe5 t.looks (Qbn t.now c) (by have:=Qgd t.now c;omega))<|
 .u 3 [b3,b4]<|
 .jo J1 () [] [] sr2 bb2)
 <| fun _ _=>.fi R [b3,b4])
theorem Qgi (t:Txn) (c:Cal) (okf:OkF t.now) (okc:OkCal c) (hp:Qan t.now) (hx:t.now.next<4611686018427387904) (hl:t.looks.length≤90000) (T:TreeP t.now) (hm:midF t.now) (htx:c.text.length≤500000) (ha:Asc t.looks):Qai prog 19 [.agg [aI t.stamp,.sl 5 false (t.was.l.map nodA),aI t.was.next,.sl 5 false (t.now.l.map nodA),aI t.now.next,.sl 1 false (t.looks.map intA)],.agg (calA c)] (.tup [.agg (txnA (Qbb t c)),.agg (repA (doF t.now c).2)]):=by
 have htl:=Qgd t.now c;exact Qae func19 (
 .new fun b1=>.new fun b2=>.new fun b3=>.new fun b4=>.u 3 [b1,b2]<|
 .call (Qwh t.now c okf okc hp)<|
 .r 1<|.u 3 [b1,b2]<|
 .call (Qi2 t.now c okf okc hp (by omega) T hm htx)<|
 .r 3<|.new fun b5=>.new fun b6=>.u 2 [b5,b6]<|
 .lit0 fun V1=>.u 2 [b1]<|
 .app 8 V1 ([]:List (List AV)) (t.looks.map intA) (by simp only [W0a,W0f,W0e];omega) (by simp only [W0a,W0f,W0e];omega) fun V2=>
 .r 1<|.frz 22 [2,4,5,6,7,8,9] [2,4,5,7,8] [V2=V2,([]:List (List AV)).length+(t.looks.map intA).length=(([]:List (List AV))++(t.looks.map intA)).length] ⟨rfl,(by first | rfl | (simp;done) | (simp;omega)),trivial⟩<|
 .r 1<|let L1:Lp (Nat):=⟨fun a1=>⟨[(2,.ptr 2 b1 0),(4,.ptr 4 b3 0),(5,.ptr 5 b4 0),(6,.sl 1 false ((Qbn t.now c).map intA)),(7,.ptr 7 b5 0),(8,.ptr 8 b6 0),(10,aI (a1:Int)),(9,.sl 1 false ((wiF t.looks ((Qbn t.now c).take a1)).map intA))],[(2,.box b1 31 [aI t.stamp,.sl 5 false (t.was.l.map nodA),aI t.was.next,.sl 5 false (t.now.l.map nodA),aI t.now.next,.sl 1 false (t.looks.map intA)]),(4,.box b3 31 [aI 0,aN,aI 0,aN,aI 0,aN]),(5,.box b4 45 [aI 0,aI 0,aI 0,aI 0,aS ([]),aN]),(7,.box b5 28 [.sl 5 false ((doF t.now c).1.l.map nodA),aI ((doF t.now c).1.next)]),(8,.box b6 45 [aI ((doF t.now c).2.e),aI ((doF t.now c).2.a),aI ((doF t.now c).2.b),aI ((doF t.now c).2.n),aS ((doF t.now c).2.text),.sl 1 false ((doF t.now c).2.names.map txA)])]⟩,fun a1=>(Qbn t.now c).length-a1,fun a1=>a1≤(Qbn t.now c).length⟩
 .lp L1 0 (show 0≤(Qbn t.now c).length from W0j _) [(10,aI 0),(9,.sl 1 false (([]:List (List AV))++(t.looks.map intA)))] [] ⟨sR,sR,sR,sR,sR,sR,sO,W2r _ _ _,trivial⟩ bb5 fun a1 ha1=>
 (fun (k:Nat) (hH1:k≤(Qbn t.now c).length)=>.r 3<|.lm 28 (Qbn t.now c) intA<|.r 1<|.bd 29 ((k:Int)<((Qbn t.now c).length:Int)) (fun p1=>.r 3<|.idxM (Qbn t.now c) intA k (m:=(k:Int)) rfl (by omega) fun x1 hx1=>
 .r 1<|.call (Qc3 (wiF t.looks ((Qbn t.now c).take k)) x1 (by have h1:=Qhz ((Qbn t.now c).take k) t.looks;have h2:=Qgd t.now c;rw [W0g] at h1;omega))<|
 .r 1<|.run 3 [rng .i64 ((k:Int)+1)] ⟨Qah,trivial⟩<|
 .bk L1 k (k+1) (show (k+1)≤(Qbn t.now c).length from (by show _≤_;omega)) (show (Qbn t.now c).length-(k+1)<(Qbn t.now c).length-k from (by omega)) [(10,aI ((k:Int)+1)),(9,.sl 1 false ((Qc0 (wiF t.looks ((Qbn t.now c).take k)) x1).map intA))] [] ⟨sR,sR,sR,sR,sR,sR,sO,W2p (by rw [Zii hx1];rfl),trivial⟩ bb5)
 <| fun p1=>let J1:Jn (Unit):=⟨fun j1=>⟨[(4,.ptr 4 b3 0),(5,.ptr 5 b4 0)],[(4,.box b3 31 [aI t.stamp,.sl 5 false (t.was.l.map nodA),aI t.was.next,.sl 5 false ((doF t.now c).1.l.map nodA),aI ((doF t.now c).1.next),.sl 1 false ((wiF t.looks ((Qbn t.now c).take k)).map intA)]),(5,.box b4 45 [aI ((doF t.now c).2.e),aI ((doF t.now c).2.a),aI ((doF t.now c).2.b),aI ((doF t.now c).2.n),aS ((doF t.now c).2.text),.sl 1 false ((doF t.now c).2.names.map txA)])]⟩,fun _=>True⟩
 .cut J1 (.pick [0,1,2,3,4,5,6]<|.u 7 [b1,b1,b5]<|
 .fork<|.alt (.u 1 [b6]<|
 .pick [8,9]<|.u 2 [b3,b4]<|
 .jo J1 () [] [] sr2 bb2)
 <| .u 1 [b3]<|
 .pick [7,9]<|.u 2 [b6,b4]<|
 .jo J1 () [] [] sr2 bb2)
 <| fun _ _=>.f (.tup [.agg (txnA (Qbb t c)),.agg (repA (doF t.now c).2)]) [b3,b4] (.tup [.agg [aI t.stamp,.sl 5 false (t.was.l.map nodA),aI t.was.next,.sl 5 false ((doF t.now c).1.l.map nodA),aI ((doF t.now c).1.next),.sl 1 false ((wiF t.looks ((Qbn t.now c).take k)).map intA)],.agg [aI ((doF t.now c).2.e),aI ((doF t.now c).2.a),aI ((doF t.now c).2.b),aI ((doF t.now c).2.n),aS ((doF t.now c).2.text),.sl 1 false ((doF t.now c).2.names.map txA)]]) (by
  unfold Qbb;rw [← Zij ha,show (Qbn t.now c).take k=Qbn t.now c from Qat (by omega)]
  first | exact sR | exact W2s ⟨W2t ⟨sR,sR,sR,sR,sR,W2r _ _ _,trivial⟩,sR,trivial⟩)) a1 ha1)
end Go.Proofs.YtahlldgocpabjaaGreat
