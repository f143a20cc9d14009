import Derived.Test.YtkhodpknpligpaaGreatAl
import Derived.Test.YtkhodpknpligpaaGreatMrgAA
set_option maxRecDepth 100000
set_option maxHeartbeats 8000000
set_option linter.unusedVariables false
set_option linter.unusedSimpArgs false
namespace Go.Proofs.YtkhodpknpligpaaGreat
open Go Go.RowKit Copyhold Go.Proofs.Tryz
theorem Zhr:Elem prog 27 47 (.agg #[.int .i64 0,.int .i64 0,.int .i64 0,.int .i64 0,.int .i64 0,.slice none 0 0,.int .i64 0,.slice none 0 0,.int .i64 0,.slice none 0 0,.int .i64 0,.int .i64 0,.int .i64 0,.int .i64 0,.string ByteArray.empty,.slice none 0 0,.int .i64 0]) 17 208:=⟨Tryz.underlying27,by kernel_rfl,by kernel_rfl,by decide⟩
theorem Zdt (n:Nat) (hn:n≤1000000) (w:World) :
  Calls prog 240 #[.slice none 0 0,.int .i64 (n:Int)] w (Qpe w 47 17 0 []):=by
 by_cases h0:0<n
 ·obtain ⟨G,w',hrun,hG1,hG2,hown,hb⟩:=Qge Zhr Tryz.underlying3 n h0 (by omega) (by omega) w;have HO:=Lib.hid (And.intro hown hb);have hi0:(0:Int)<(n:Int):=by omega
  clear hown hb
  go_enter func240,Tryz.ntmps240
  go_wp2_with (at_builtin;refine Qb7 rfl _ _ _ _ rfl _ _ _ _ rfl rfl (hrun _) ?_)
  go_ret
  exact ⟨_,rfl,HO.out.1,HO.out.2⟩
 ·obtain rfl:n=0:=by omega
  go_enter func240,Tryz.ntmps240
  go_wp2_with fail
  go_ret
  exact ⟨_,rfl,World.ownsRow_nil _ _ _ _,Below.refl _ _⟩
def Qfj (p:List (List AV)):List AV:=[.sl 17 false p]
theorem Qgy (ps:List (List (List AV))) (hl:ps.length≤100000) (ht:ps.flatten.length≤100000):Qag prog 205 [.sl 1 false (ps.map Qfj)] (.sl 17 false ps.flatten):=by
 exact Qac func205 (
 .r 1<|.r 1<|.r 2<|.lm 10 ps Qfj<|.r 1<|let L1:Lp (Nat):=⟨fun a1=>⟨[(0,.sl 1 false (ps.map Qfj)),(9,.sl 1 false (ps.map Qfj)),(10,aI (ps.length:Int)),(3,aI ((ps.take a1).flatten.length:Int)),(11,aI (a1:Int))],[]⟩,fun a1=>ps.length-a1,fun a1=>a1≤ps.length⟩
 .lp L1 0 (show 0≤ps.length from W0j _) [(3,aI 0),(11,aI 0)] [] ⟨sR,sR,sR,sO,sO,trivial⟩ trivial fun a1 ha1=>
 (fun (k:Nat) (hH1:k≤ps.length)=>.r 1<|.bd 12 ((k:Int)<(ps.length:Int)) (fun p1=>.idxM ps Qfj k (m:=(k:Int)) rfl (by omega) fun x1 hx1=>
 have tx1:=Qbd ps (k+1);have ux1:=W1y List.length (Qa9 hx1);have vx1:=(@W0e _ (ps.take k).flatten x1);.r 2<|.run 5 [rng .i64 (((ps.take k).flatten.length:Int)+((x1).length:Int))] ⟨Qal,trivial⟩<|
 .r 2<|.bd 20 ((((ps.take k).flatten.length:Int)+((x1).length:Int))<0) (fun p2=>.no (by omega))
 <| fun p2=>.run 2 [rng .i64 ((k:Int)+1)] ⟨Qal,trivial⟩<|
 .bk L1 k (k+1) (show (k+1)≤ps.length from (by show _≤_;omega)) (show ps.length-(k+1)<ps.length-k from (by omega)) [(3,aI (((ps.take k).flatten.length:Int)+((x1).length:Int))),(11,aI ((k:Int)+1))] [] ⟨sR,sR,sR,W2n (W1y aI (by rw [Qa9 hx1,W0e];omega)),sO,trivial⟩ trivial)
 <| fun p1=>.r 1<|.cw (args0:=[aN,aI ((ps.take k).flatten.length:Int)]) (Qgr (fun w=>Zdt ((ps.take k).flatten.length) (by have:=Qbd ps k;omega) w)) sr2 fun V1=>
 .r 1<|.r 2<|.lm 26 ps Qfj<|.r 1<|let L2:Lp (Nat × Value):=⟨fun a2=>⟨[(25,.sl 1 false (ps.map Qfj)),(26,aI (ps.length:Int)),(27,aI (a2.1:Int)),(6,.rw 24 a2.2 ((ps.take a2.1).flatten.length))],[(24,.row a2.2 47 17 ((ps.take a2.1).flatten))]⟩,fun a2=>ps.length-a2.1,fun a2=>a2.1≤ps.length⟩
 .lp L2 (0,V1) (show 0≤ps.length from W0j _) [(27,aI 0),(6,.rw 24 V1 0)] [(24,.row V1 47 17 ([]))] ⟨sR,sR,sO,W2n (W1y (AV.rw 24 V1) (by simp)),trivial⟩ ⟨⟨_,rfl,W2o (by simp)⟩,trivial⟩ fun a2 ha2=>
 (fun (j:Nat) (V:Value) (hH2:j≤ps.length)=>.r 1<|.bd 28 ((j:Int)<(ps.length:Int)) (fun p3=>.idxM ps Qfj j (m:=(j:Int)) rfl (by omega) fun x2 hx2=>
 have tx2:=Qbd ps (j+1);have ux2:=W1y List.length (Qa9 hx2);have vx2:=(@W0e _ (ps.take j).flatten x2);.r 2<|.r 2<|.app 208 V ((ps.take j).flatten) x2 (by omega) (by omega) fun V2=>
 .r 1<|.run 2 [rng .i64 ((j:Int)+1)] ⟨Qal,trivial⟩<|
 .bk L2 (j,V) ((j+1),V2) (show (j+1)≤ps.length from (by show _≤_;omega)) (show ps.length-(j+1)<ps.length-j from (by omega)) [(27,aI ((j:Int)+1)),(6,.rw 24 V2 (((ps.take j).flatten).length+x2.length))] [(24,.row V2 47 17 (((ps.take j).flatten)++x2))] ⟨sR,sR,sO,W2n (W1y (AV.rw 24 V2) (by rw [Qa9 hx2,W0e])),trivial⟩ ⟨⟨_,rfl,W2o (by rw [Qa9 hx2])⟩,trivial⟩)
 <| fun p3=>.r 2<|.frz 24 [2] [] [V=V,(ps.take j).flatten.length=((ps.take j).flatten).length] ⟨rfl,(by first | rfl | (simp;done) | (simp;omega)),trivial⟩<|
 .f (.sl 17 false ps.flatten) [] (.sl 17 false ((ps.take j).flatten)) (by exact W2n (by rw [Qap (by omega)]))) a2.1 a2.2 ha2) a1 ha1)
theorem Zb3 {t t1 t2 t3:Bool} (A B C:List (List AV)):Sub (.sl 1 t [[.sl 17 t1 A],[.sl 17 t2 B],[.sl 17 t3 C]]) (.sl 1 false ([A,B,C].map Qfj)):=
 (Sub.sl2 (xs:=[[.sl 17 t1 A],[.sl 17 t2 B],[.sl 17 t3 C]]) (ys:=[A,B,C].map Qfj) rfl (fun i q p hq hp=>by
  match i,hq,hp with
  | 0,hq,hp=>simp [Qfj] at hq hp;subst hq hp;exact ⟨W2p _ _ _,trivial⟩
  | 1,hq,hp=>simp [Qfj] at hq hp;subst hq hp;exact ⟨W2p _ _ _,trivial⟩
  | 2,hq,hp=>simp [Qfj] at hq hp;subst hq hp;exact ⟨W2p _ _ _,trivial⟩
  | i+3,hq,_=>simp at hq)).trans (W2p _ _ _)
theorem Qcf (h:Hos) (n:Int) (l:List Udw) (hl:h.opens.length≤90000) (hl2:l.length≤1000):Qag prog 166 [.agg [.sl 2 false (h.s.l.map chnA),.sl 2 false (h.s.nexts.map cntA),aI h.s.stamp,.sl 4 false (h.rows.map trA),.sl 17 false (h.opens.map opA),aI h.now,aI h.lease],aI n,.sl 17 false (l.map opA)] (.agg (hosA (Qa3 h n l))):=by
 have hpr0:=Qgl h.opens n;exact Qac func166 (
 .new fun b1=>.new fun b2=>.u 2 [b1]<|
 .call (Qtg h n (by omega))<|
 .r 5<|.r 2<|.r 1<|.br 17 (thO h.opens n) (fun q1=>have p1:=booT q1;.run 3 [rng .i64 ((plO h.opens n:Int)+1)] ⟨Qal,trivial⟩<|
 .ord [0,1,2,3,4,5,6,7,8,9,10,11,12]<|.u 3 [b1]<|
 .slc 17 false (h.opens.map opA) none (some (plO h.opens n:Int)) none 0 (plO h.opens n) false (.inl ⟨rfl,rfl⟩) (.inr rfl) (.inl ⟨rfl,fun h=>by cases h⟩) (by have hpr:=Qgl h.opens n;(try have hpt:=Qgk (by assumption:thO h.opens n=true));first | omega | (rw [W0a];omega)) (by have hpr:=Qgl h.opens n;(try have hpt:=Qgk (by assumption:thO h.opens n=true));first | omega | (rw [W0a];omega))<|
 .u 4 [b1]<|
 .slc 17 false (h.opens.map opA) (some ((plO h.opens n:Int)+1)) none none (plO h.opens n+1) ((h.opens.map opA).length) false (.inr (W1y some (by omega))) (.inl ⟨rfl,rfl⟩) (.inl ⟨rfl,fun h=>by cases h⟩) (by have hpr:=Qgl h.opens n;(try have hpt:=Qgk (by assumption:thO h.opens n=true));first | omega | (rw [W0a];omega)) (by have hpr:=Qgl h.opens n;(try have hpt:=Qgk (by assumption:thO h.opens n=true));first | omega | (rw [W0a];omega))<|
 .r 1<|.cs (args0:=[.sl 1 true ([[.sl 17 false (((h.opens.map opA).take (plO h.opens n)).drop 0)],[.sl 17 false (l.map opA)],[.sl 17 false (((h.opens.map opA).take ((h.opens.map opA).length)).drop (plO h.opens n+1))]])]) (Qgy [((h.opens.map opA).take (plO h.opens n)).drop 0,l.map opA,((h.opens.map opA).take ((h.opens.map opA).length)).drop (plO h.opens n+1)] (by simp) (by simp only [W1f,List.flatten_nil,W0e,W0g,W0p,W0a,W0b,W0f];omega)) ⟨Zb3 _ _ _,trivial⟩<|
 .u 2 [b1]<|
 .u 2 [b1,b2]<|
 .f (.agg (hosA (Qa3 h n l))) [b2] (.agg [.sl 2 false (h.s.l.map chnA),.sl 2 false (h.s.nexts.map cntA),aI h.s.stamp,.sl 4 false (h.rows.map trA),.sl 17 false ([((h.opens.map opA).take (plO h.opens n)).drop 0,l.map opA,((h.opens.map opA).take ((h.opens.map opA).length)).drop (plO h.opens n+1)].flatten),aI h.now,aI h.lease]) (by
  refine W2r ⟨sR,sR,sR,sR,W2n (W1y (AV.sl 17 false) ?_),sR,sR,trivial⟩;show _=(Qa3 h n l).opens.map opA;unfold Qa3;rw [q1];simp [opA,W16,W2e,Qap]))
 <| fun q1=>have p1:=booF q1;.ord [0,1,2,3,4,5,6,7,8,9,10,11,12]<|.u 3 [b1]<|
 .slc 17 false (h.opens.map opA) none (some (plO h.opens n:Int)) none 0 (plO h.opens n) false (.inl ⟨rfl,rfl⟩) (.inr rfl) (.inl ⟨rfl,fun h=>by cases h⟩) (by have hpr:=Qgl h.opens n;(try have hpt:=Qgk (by assumption:thO h.opens n=true));first | omega | (rw [W0a];omega)) (by have hpr:=Qgl h.opens n;(try have hpt:=Qgk (by assumption:thO h.opens n=true));first | omega | (rw [W0a];omega))<|
 .u 4 [b1]<|
 .slc 17 false (h.opens.map opA) (some (plO h.opens n:Int)) none none (plO h.opens n) ((h.opens.map opA).length) false (.inr rfl) (.inl ⟨rfl,rfl⟩) (.inl ⟨rfl,fun h=>by cases h⟩) (by have hpr:=Qgl h.opens n;(try have hpt:=Qgk (by assumption:thO h.opens n=true));first | omega | (rw [W0a];omega)) (by have hpr:=Qgl h.opens n;(try have hpt:=Qgk (by assumption:thO h.opens n=true));first | omega | (rw [W0a];omega))<|
 .r 1<|.cs (args0:=[.sl 1 true ([[.sl 17 false (((h.opens.map opA).take (plO h.opens n)).drop 0)],[.sl 17 false (l.map opA)],[.sl 17 false (((h.opens.map opA).take ((h.opens.map opA).length)).drop (plO h.opens n))]])]) (Qgy [((h.opens.map opA).take (plO h.opens n)).drop 0,l.map opA,((h.opens.map opA).take ((h.opens.map opA).length)).drop (plO h.opens n)] (by simp) (by simp only [W1f,List.flatten_nil,W0e,W0g,W0p,W0a,W0b,W0f];omega)) ⟨Zb3 _ _ _,trivial⟩<|
 .u 2 [b1]<|
 .u 2 [b1,b2]<|
 .f (.agg (hosA (Qa3 h n l))) [b2] (.agg [.sl 2 false (h.s.l.map chnA),.sl 2 false (h.s.nexts.map cntA),aI h.s.stamp,.sl 4 false (h.rows.map trA),.sl 17 false ([((h.opens.map opA).take (plO h.opens n)).drop 0,l.map opA,((h.opens.map opA).take ((h.opens.map opA).length)).drop (plO h.opens n)].flatten),aI h.now,aI h.lease]) (by
  refine W2r ⟨sR,sR,sR,sR,W2n (W1y (AV.sl 17 false) ?_),sR,sR,trivial⟩;show _=(Qa3 h n l).opens.map opA;unfold Qa3;rw [q1];simp [opA,W16,W2e,Qap]))
theorem Qgc {t:Bool} {cs:List AV} {x:Udw} (h:Qc0 cs (opA x)):Sub (.sl 17 t [cs]) (.sl 17 false ([x].map opA)):=
 (Sub.sl2 (xs:=[cs]) (ys:=[x].map opA) rfl (fun i q p hq hp=>by
  match i,hq,hp with
  | 0,hq,hp=>simp at hq hp;subst hq hp;exact h
  | i+1,hq,_=>simp at hq)).trans (W2p _ _ _)
theorem Ze4 {h:Hos} {m:Msg} {s:Sto} {y old:Bool} (g:¬ (Qa0 h.rows m.client m.epoch m.seq y).2.2=0):decH h m s y old=(h,(Qa0 h.rows m.client m.epoch m.seq y).2.2):=W1x g
theorem Qig {h:Hos} {m:Msg} {s:Sto} {y old:Bool} (g:(Qa0 h.rows m.client m.epoch m.seq y).2.2=0):decH h m s y old=(⟨s,(Qa0 h.rows m.client m.epoch m.seq y).1,(offH h m).opens,h.now,h.lease⟩,if y=true then 0 else if old=true then 16 else 15):=W1w (fun c=>c g)
theorem Quj {h:Hos} {m:Msg} (g:(Qad h m).2=true):offH h m=Qa3 h m.client []:=W1x g
theorem Zcf {h:Hos} {m:Msg} (g:(Qad h m).2=false):offH h m=h:=W1w (by rw [g];decide)
theorem Qez (h:Hos) (m:Msg) (s:Sto) (y old:Bool) (okh:OkH h):Qag prog 144 [.agg [.sl 2 false (h.s.l.map chnA),.sl 2 false (h.s.nexts.map cntA),aI h.s.stamp,.sl 4 false (h.rows.map trA),.sl 17 false (h.opens.map opA),aI h.now,aI h.lease],.agg [aI m.kind,aI m.client,aI m.epoch,aI m.seq,aI m.n,aI m.stamp,aI m.c.kind,aI m.c.ino,aI m.c.to,aI m.c.at_,aI m.c.many,aS m.c.name,aS m.c.name2,aS m.c.text],.agg (stoA s),aB y,aB old] (.tup [.agg (hosA (decH h m s y old).1),.agg (repA rp0),aI (decH h m s y old).2]):=by
 have hop:=okh.opens;have hmr:=okh.many;have hn1:=okh.now;have hn2:=okh.lease;exact Qac func144 (
 .new fun b1=>.new fun b2=>.new fun b3=>.new fun b4=>.new fun b5=>.r 1<|.u 9 [b1,b2,b2,b2]<|
 .call (Qvf h.rows m.client m.epoch m.seq y okh.rows (by omega) (fun r hr=>W09 (okh.each r hr) (by decide)))<|
 .r 7<|.r 2<|.bn 33 ((Qa0 h.rows m.client m.epoch m.seq y).2.2) 0 (fun p1=>.u 6 [b1,b4,b5]<|
 .f (.tup [.agg (hosA (decH h m s y old).1),.agg (repA rp0),aI (decH h m s y old).2]) [b4,b5] (.tup [.agg [.sl 2 false (h.s.l.map chnA),.sl 2 false (h.s.nexts.map cntA),aI h.s.stamp,.sl 4 false (h.rows.map trA),.sl 17 false (h.opens.map opA),aI h.now,aI h.lease],.agg [aI 0,aI 0,aI 0,aI 0,aS ([]),aN],aI ((Qa0 h.rows m.client m.epoch m.seq y).2.2)]) (by
  rw [Ze4 p1];exact W2q ⟨sR,W2r ⟨sR,sR,sR,sR,sR,Sub.nil _ _,trivial⟩,sR,trivial⟩))
 <| fun p1=>.u 2 [b1,b2]<|
 .call (Qd4 h m (by omega))<|
 .r 3<|.new fun b6=>.u 2 [b6]<|
 .r 1<|.br 43 ((Qad h m).2) (fun q2=>have p2:=booT q2;.u 3 [b1,b2]<|
 .cs (args0:=[.agg [.sl 2 false (h.s.l.map chnA),.sl 2 false (h.s.nexts.map cntA),aI h.s.stamp,.sl 4 false (h.rows.map trA),.sl 17 false (h.opens.map opA),aI h.now,aI h.lease],aI m.client,aN]) (Qcf h m.client [] (by omega) (by decide)) ⟨sR,sR,Sub.nil _ _,trivial⟩<|
 .u 1 [b1]<|
 .u 6 [b3,b1,b1]<|
 .r 2<|.br 52 (y) (fun q3=>have p3:=booT q3;.u 5 [b1,b4,b5]<|
 .f (.tup [.agg (hosA (decH h m s y old).1),.agg (repA rp0),aI (decH h m s y old).2]) [b4,b5] (.tup [.agg [.sl 2 false (s.l.map chnA),.sl 2 false (s.nexts.map cntA),aI s.stamp,.sl 4 false ((Qa0 h.rows m.client m.epoch m.seq y).1.map trA),.sl 17 false ((Qa3 h m.client []).opens.map opA),aI ((Qa3 h m.client []).now),aI ((Qa3 h m.client []).lease)],.agg [aI 0,aI 0,aI 0,aI 0,aS ([]),aN],aI 0]) (by
  rw [Qig p1,Quj q2];exact W2q ⟨sR,W2r ⟨sR,sR,sR,sR,sR,Sub.nil _ _,trivial⟩,W2n (W1y aI (show _=_ from (W1x q3).symm)),trivial⟩))
 <| fun q3=>have p3:=booF q3;.r 2<|.br 56 (old) (fun q4=>have p4:=booT q4;.u 5 [b1,b4,b5]<|
 .f (.tup [.agg (hosA (decH h m s y old).1),.agg (repA rp0),aI (decH h m s y old).2]) [b4,b5] (.tup [.agg [.sl 2 false (s.l.map chnA),.sl 2 false (s.nexts.map cntA),aI s.stamp,.sl 4 false ((Qa0 h.rows m.client m.epoch m.seq y).1.map trA),.sl 17 false ((Qa3 h m.client []).opens.map opA),aI ((Qa3 h m.client []).now),aI ((Qa3 h m.client []).lease)],.agg [aI 0,aI 0,aI 0,aI 0,aS ([]),aN],aI 16]) (by
  rw [Qig p1,Quj q2];exact W2q ⟨sR,W2r ⟨sR,sR,sR,sR,sR,Sub.nil _ _,trivial⟩,W2n (W1y aI (show _=_ from ((W1w (by rw [q3];decide)).trans (W1x q4)).symm)),trivial⟩))
 <| fun q4=>have p4:=booF q4;.u 5 [b1,b4,b5]<|
 .f (.tup [.agg (hosA (decH h m s y old).1),.agg (repA rp0),aI (decH h m s y old).2]) [b4,b5] (.tup [.agg [.sl 2 false (s.l.map chnA),.sl 2 false (s.nexts.map cntA),aI s.stamp,.sl 4 false ((Qa0 h.rows m.client m.epoch m.seq y).1.map trA),.sl 17 false ((Qa3 h m.client []).opens.map opA),aI ((Qa3 h m.client []).now),aI ((Qa3 h m.client []).lease)],.agg [aI 0,aI 0,aI 0,aI 0,aS ([]),aN],aI 15]) (by
  rw [Qig p1,Quj q2];exact W2q ⟨sR,W2r ⟨sR,sR,sR,sR,sR,Sub.nil _ _,trivial⟩,W2n (W1y aI (show _=_ from ((W1w (by rw [q3];decide)).trans (W1w (by rw [q4];decide))).symm)),trivial⟩))
 <| fun q2=>have p2:=booF q2;.u 6 [b3,b1,b1]<|
 .r 2<|.br 52 (y) (fun q5=>have p5:=booT q5;.u 5 [b1,b4,b5]<|
 .f (.tup [.agg (hosA (decH h m s y old).1),.agg (repA rp0),aI (decH h m s y old).2]) [b4,b5] (.tup [.agg [.sl 2 false (s.l.map chnA),.sl 2 false (s.nexts.map cntA),aI s.stamp,.sl 4 false ((Qa0 h.rows m.client m.epoch m.seq y).1.map trA),.sl 17 false (h.opens.map opA),aI h.now,aI h.lease],.agg [aI 0,aI 0,aI 0,aI 0,aS ([]),aN],aI 0]) (by
  rw [Qig p1,Zcf q2];exact W2q ⟨sR,W2r ⟨sR,sR,sR,sR,sR,Sub.nil _ _,trivial⟩,W2n (W1y aI (show _=_ from (W1x q5).symm)),trivial⟩))
 <| fun q5=>have p5:=booF q5;.r 2<|.br 56 (old) (fun q6=>have p6:=booT q6;.u 5 [b1,b4,b5]<|
 .f (.tup [.agg (hosA (decH h m s y old).1),.agg (repA rp0),aI (decH h m s y old).2]) [b4,b5] (.tup [.agg [.sl 2 false (s.l.map chnA),.sl 2 false (s.nexts.map cntA),aI s.stamp,.sl 4 false ((Qa0 h.rows m.client m.epoch m.seq y).1.map trA),.sl 17 false (h.opens.map opA),aI h.now,aI h.lease],.agg [aI 0,aI 0,aI 0,aI 0,aS ([]),aN],aI 16]) (by
  rw [Qig p1,Zcf q2];exact W2q ⟨sR,W2r ⟨sR,sR,sR,sR,sR,Sub.nil _ _,trivial⟩,W2n (W1y aI (show _=_ from ((W1w (by rw [q5];decide)).trans (W1x q6)).symm)),trivial⟩))
 <| fun q6=>have p6:=booF q6;.u 5 [b1,b4,b5]<|
 .f (.tup [.agg (hosA (decH h m s y old).1),.agg (repA rp0),aI (decH h m s y old).2]) [b4,b5] (.tup [.agg [.sl 2 false (s.l.map chnA),.sl 2 false (s.nexts.map cntA),aI s.stamp,.sl 4 false ((Qa0 h.rows m.client m.epoch m.seq y).1.map trA),.sl 17 false (h.opens.map opA),aI h.now,aI h.lease],.agg [aI 0,aI 0,aI 0,aI 0,aS ([]),aN],aI 15]) (by
  rw [Qig p1,Zcf q2];exact W2q ⟨sR,W2r ⟨sR,sR,sR,sR,sR,Sub.nil _ _,trivial⟩,W2n (W1y aI (show _=_ from ((W1w (by rw [q5];decide)).trans (W1w (by rw [q6];decide))).symm)),trivial⟩))
theorem Qvq (h:Hos) (m:Msg) (okh:OkH h):Qag prog 139 [.agg [.sl 2 false (h.s.l.map chnA),.sl 2 false (h.s.nexts.map cntA),aI h.s.stamp,.sl 4 false (h.rows.map trA),.sl 17 false (h.opens.map opA),aI h.now,aI h.lease],.agg [aI m.kind,aI m.client,aI m.epoch,aI m.seq,aI m.n,aI m.stamp,aI m.c.kind,aI m.c.ino,aI m.c.to,aI m.c.at_,aI m.c.many,aS m.c.name,aS m.c.name2,aS m.c.text]] (.tup [.agg (hosA (Qbo h m).1),.agg (repA (Qbo h m).2.1),aI (Qbo h m).2.2]):=by
 have hop:=okh.opens;have hmr:=okh.many;have hn1:=okh.now;have hn2:=okh.lease;exact Qac func139 (
 .new fun b1=>.new fun b2=>.new fun b3=>.new fun b4=>.r 1<|.u 2 [b1,b2]<|
 .call (Qd4 h m (by omega))<|
 .r 3<|.new fun b5=>.u 2 [b5]<|
 .r 1<|.br 18 ((Qad h m).2) (fun q1=>have p1:=booT q1;let J1:Jn (Unit):=⟨fun j1=>⟨[(2,.ptr 2 b1 0),(3,.ptr 3 b2 0),(4,.ptr 4 b3 0),(5,.ptr 5 b4 0),(6,aI 0)],[(2,.box b1 29 [.sl 2 false (h.s.l.map chnA),.sl 2 false (h.s.nexts.map cntA),aI h.s.stamp,.sl 4 false (h.rows.map trA),.sl 17 false (h.opens.map opA),aI h.now,aI h.lease]),(3,.box b2 62 [aI m.kind,aI m.client,aI m.epoch,aI m.seq,aI m.n,aI m.stamp,aI m.c.kind,aI m.c.ino,aI m.c.to,aI m.c.at_,aI m.c.many,aS m.c.name,aS m.c.name2,aS m.c.text]),(4,.box b3 29 [.sl 2 false (h.s.l.map chnA),.sl 2 false (h.s.nexts.map cntA),aI h.s.stamp,.sl 4 false (h.rows.map trA),.sl 17 false (h.opens.map opA),aI h.now,aI h.lease]),(5,.box b4 45 [aI 0,aI ((Qad h m).1.t.stamp),aI 0,aI 0,aS ([]),aN])]⟩,fun _=>True⟩
 .cut J1 (.pick [0,1,2]<|.u 3 [b1]<|
 .fork<|.alt (.u 1 [b5]<|
 .pick [4,5,6,7]<|.u 4 [b3,b4]<|
 .jo J1 () [] [] sr5 bb4)
 <| .u 1 [b3]<|
 .pick [3,4,6,7]<|.u 4 [b5,b4]<|
 .jo J1 () [] [] sr5 bb4)
 <| fun _ _=>.f (.tup [.agg (hosA (Qbo h m).1),.agg (repA (Qbo h m).2.1),aI (Qbo h m).2.2]) [b3,b4] (.tup [.agg [.sl 2 false (h.s.l.map chnA),.sl 2 false (h.s.nexts.map cntA),aI h.s.stamp,.sl 4 false (h.rows.map trA),.sl 17 false (h.opens.map opA),aI h.now,aI h.lease],.agg [aI 0,aI ((Qad h m).1.t.stamp),aI 0,aI 0,aS ([]),aN],aI 0]) (by
  rw [show Qbo h m=_ from W1x q1];exact W2q ⟨sR,W2r ⟨sR,sR,sR,sR,sR,Sub.nil _ _,trivial⟩,sR,trivial⟩))
 <| fun q1=>have p1:=booF q1;.u 3 [b1,b2]<|
 .call (Qow h m.client (by omega))<|
 .r 3<|.new fun b6=>.u 2 [b6]<|
 .r 2<|.br 32 ((Qbn h m.client).2) (fun q2=>have p2:=booT q2;.u 7 [b6,b2]<|
 .bd 39 (((Qbn h m.client).1.epoch)≥m.epoch) (fun p3=>.u 2 [b1,b6]<|
 .call (Qe9 h (Qbn h m.client).1)<|
 .r 2<|.nbd 44 ((Qbn h m.client).1.until_<h.now) (fun p4=>.u 5 [b1,b3,b4]<|
 .f (.tup [.agg (hosA (Qbo h m).1),.agg (repA (Qbo h m).2.1),aI (Qbo h m).2.2]) [b3,b4] (.tup [.agg [.sl 2 false (h.s.l.map chnA),.sl 2 false (h.s.nexts.map cntA),aI h.s.stamp,.sl 4 false (h.rows.map trA),.sl 17 false (h.opens.map opA),aI h.now,aI h.lease],.agg [aI 0,aI 0,aI 0,aI 0,aS ([]),aN],aI 20]) (by
  rw [show Qbo h m=_ from (W1w (by rw [q1];decide)).trans (W1x ⟨q2,by omega,by omega⟩)];exact W2q ⟨sR,W2r ⟨sR,sR,sR,sR,sR,Sub.nil _ _,trivial⟩,sR,trivial⟩))
 <| fun p4=>.r 3<|.is 49 (show (!((Qbn h m.client).2))=false from by rw [q2];rfl)<|.r 5<|let J2:Jn (Nat):=⟨fun j2=>⟨[(2,.ptr 2 b1 0),(3,.ptr 3 b2 0),(4,.ptr 4 b3 0),(5,.ptr 5 b4 0),(6,aI 0),(11,.ptr 11 j2 0)],[(2,.box b1 29 [.sl 2 false (h.s.l.map chnA),.sl 2 false (h.s.nexts.map cntA),aI h.s.stamp,.sl 4 false (h.rows.map trA),.sl 17 false (h.opens.map opA),aI h.now,aI h.lease]),(3,.box b2 62 [aI m.kind,aI m.client,aI m.epoch,aI m.seq,aI m.n,aI m.stamp,aI m.c.kind,aI m.c.ino,aI m.c.to,aI m.c.at_,aI m.c.many,aS m.c.name,aS m.c.name2,aS m.c.text]),(4,.box b3 29 [aN,aN,aI 0,aN,aN,aI 0,aI 0]),(5,.box b4 45 [aI 0,aI 0,aI 0,aI 0,aS ([]),aN]),(11,.box j2 47 [aI m.client,aI m.epoch,aI m.seq,aI 0,aI ((Qas h.s).stamp),.sl 5 false ((Qas h.s).was.l.map nodA),aI ((Qas h.s).was.next),.sl 5 false ((Qas h.s).now.l.map nodA),aI ((Qas h.s).now.next),.sl 1 false ((Qas h.s).looks.map intA),aI 0,aI 0,aI 0,aI 0,aS ([]),aN,aI (h.now+h.lease)])]⟩,fun _=>True⟩
 .cut J2 (.pick [0,1,2,3,4,5,6,7,9,10,11,12,13]<|.run 13 [b2=b2,b2=b2,b2=b2,b1=b1,b1=b1,b1=b1,rng .i64 (h.now+h.lease)] ⟨rfl,rfl,rfl,rfl,rfl,rfl,Qal,trivial⟩<|
 .fork<|.alt (.call (Qes h.s okh.s.ok (by have:=okh.s.l;omega))<|
 .pick [14,15,16]<|.r 1<|.new fun b7=>.u 1 [b7]<|
 .jo J2 b7 [] [] sr6 bb5)
 <| .new fun b8=>.pick [8,14,16]<|.call (Qes h.s okh.s.ok (by have:=okh.s.l;omega))<|
 .u 2 [b8]<|
 .jo J2 b8 [] [] sr6 bb5)
 <| fun j2 _=>(fun (b9:Nat)=>let J3:Jn (Unit):=⟨fun j3=>⟨[(4,.ptr 4 b3 0),(5,.ptr 5 b4 0),(6,aI 0)],[(4,.box b3 29 [.sl 2 false ((Qa3 h m.client [Qbp h m]).s.l.map chnA),.sl 2 false ((Qa3 h m.client [Qbp h m]).s.nexts.map cntA),aI ((Qa3 h m.client [Qbp h m]).s.stamp),.sl 4 false ((Qa3 h m.client [Qbp h m]).rows.map trA),.sl 17 false ((Qa3 h m.client [Qbp h m]).opens.map opA),aI ((Qa3 h m.client [Qbp h m]).now),aI ((Qa3 h m.client [Qbp h m]).lease)]),(5,.box b4 45 [aI 0,aI ((Qas h.s).stamp),aI 0,aI 0,aS ([]),aN])]⟩,fun _=>True⟩
 .cut J3 (.pick [0,1,2,3,6,7]<|.u 6 [b1,b2,b9]<|
 .fork<|.alt (.r 1<|.fork<|.alt (.cs (args0:=[.agg [.sl 2 false (h.s.l.map chnA),.sl 2 false (h.s.nexts.map cntA),aI h.s.stamp,.sl 4 false (h.rows.map trA),.sl 17 false (h.opens.map opA),aI h.now,aI h.lease],aI m.client,.sl 17 true ([[aI m.client,aI m.epoch,aI m.seq,aI 0,aI ((Qas h.s).stamp),.sl 5 false ((Qas h.s).was.l.map nodA),aI ((Qas h.s).was.next),.sl 5 false ((Qas h.s).now.l.map nodA),aI ((Qas h.s).now.next),.sl 1 false ((Qas h.s).looks.map intA),aI 0,aI 0,aI 0,aI 0,aS ([]),aN,aI (h.now+h.lease)]])]) (Qcf h m.client [Qbp h m] (by omega) (by show 1≤1000;decide)) ⟨sR,sR,Qgc ⟨sR,sR,sR,sR,sR,sR,sR,sR,sR,sR,sR,sR,sR,sR,sR,Sub.nil _ _,sR,trivial⟩,trivial⟩<|
 .fork<|.alt (.u 1 [b9]<|
 .pick [9,10,11,12]<|.u 4 [b3,b4]<|
 .jo J3 () [] [] sr3 bb2)
 <| .u 1 [b3]<|
 .pick [8,9,11,12]<|.u 4 [b9,b4]<|
 .jo J3 () [] [] sr3 bb2)
 <| .u 1 [b9]<|
 .pick [9,5,10,11,12]<|.r 1<|.cs (args0:=[.agg [.sl 2 false (h.s.l.map chnA),.sl 2 false (h.s.nexts.map cntA),aI h.s.stamp,.sl 4 false (h.rows.map trA),.sl 17 false (h.opens.map opA),aI h.now,aI h.lease],aI m.client,.sl 17 true ([[aI m.client,aI m.epoch,aI m.seq,aI 0,aI ((Qas h.s).stamp),.sl 5 false ((Qas h.s).was.l.map nodA),aI ((Qas h.s).was.next),.sl 5 false ((Qas h.s).now.l.map nodA),aI ((Qas h.s).now.next),.sl 1 false ((Qas h.s).looks.map intA),aI 0,aI 0,aI 0,aI 0,aS ([]),aN,aI (h.now+h.lease)]])]) (Qcf h m.client [Qbp h m] (by omega) (by show 1≤1000;decide)) ⟨sR,sR,Qgc ⟨sR,sR,sR,sR,sR,sR,sR,sR,sR,sR,sR,sR,sR,sR,sR,Sub.nil _ _,sR,trivial⟩,trivial⟩<|
 .u 3 [b3,b4]<|
 .jo J3 () [] [] sr3 bb2)
 <| .u 1 [b9]<|
 .pick [9,4,5,10,11,12]<|.r 2<|.cs (args0:=[.agg [.sl 2 false (h.s.l.map chnA),.sl 2 false (h.s.nexts.map cntA),aI h.s.stamp,.sl 4 false (h.rows.map trA),.sl 17 false (h.opens.map opA),aI h.now,aI h.lease],aI m.client,.sl 17 true ([[aI m.client,aI m.epoch,aI m.seq,aI 0,aI ((Qas h.s).stamp),.sl 5 false ((Qas h.s).was.l.map nodA),aI ((Qas h.s).was.next),.sl 5 false ((Qas h.s).now.l.map nodA),aI ((Qas h.s).now.next),.sl 1 false ((Qas h.s).looks.map intA),aI 0,aI 0,aI 0,aI 0,aS ([]),aN,aI (h.now+h.lease)]])]) (Qcf h m.client [Qbp h m] (by omega) (by show 1≤1000;decide)) ⟨sR,sR,Qgc ⟨sR,sR,sR,sR,sR,sR,sR,sR,sR,sR,sR,sR,sR,sR,sR,Sub.nil _ _,sR,trivial⟩,trivial⟩<|
 .u 3 [b3,b4]<|
 .jo J3 () [] [] sr3 bb2)
 <| fun _ _=>.f (.tup [.agg (hosA (Qbo h m).1),.agg (repA (Qbo h m).2.1),aI (Qbo h m).2.2]) [b3,b4] (.tup [.agg [.sl 2 false ((Qa3 h m.client [Qbp h m]).s.l.map chnA),.sl 2 false ((Qa3 h m.client [Qbp h m]).s.nexts.map cntA),aI ((Qa3 h m.client [Qbp h m]).s.stamp),.sl 4 false ((Qa3 h m.client [Qbp h m]).rows.map trA),.sl 17 false ((Qa3 h m.client [Qbp h m]).opens.map opA),aI ((Qa3 h m.client [Qbp h m]).now),aI ((Qa3 h m.client [Qbp h m]).lease)],.agg [aI 0,aI ((Qas h.s).stamp),aI 0,aI 0,aS ([]),aN],aI 0]) (by
  rw [show Qbo h m=_ from (W1w (by rw [q1];decide)).trans ((W1w (fun c=>by obtain ⟨c1,c2,c3⟩:=c;omega)).trans (W1w (fun c=>by obtain ⟨c1,c2⟩:=c;rw [q2] at c1;cases c1)))];exact W2q ⟨sR,W2r ⟨sR,sR,sR,sR,sR,Sub.nil _ _,trivial⟩,sR,trivial⟩)) j2)
 <| fun p3=>.r 5<|.r 3<|.is 49 (show (!((Qbn h m.client).2))=false from by rw [q2];rfl)<|.r 5<|let J4:Jn (Nat):=⟨fun j4=>⟨[(2,.ptr 2 b1 0),(3,.ptr 3 b2 0),(4,.ptr 4 b3 0),(5,.ptr 5 b4 0),(6,aI 0),(11,.ptr 11 j4 0)],[(2,.box b1 29 [.sl 2 false (h.s.l.map chnA),.sl 2 false (h.s.nexts.map cntA),aI h.s.stamp,.sl 4 false (h.rows.map trA),.sl 17 false (h.opens.map opA),aI h.now,aI h.lease]),(3,.box b2 62 [aI m.kind,aI m.client,aI m.epoch,aI m.seq,aI m.n,aI m.stamp,aI m.c.kind,aI m.c.ino,aI m.c.to,aI m.c.at_,aI m.c.many,aS m.c.name,aS m.c.name2,aS m.c.text]),(4,.box b3 29 [aN,aN,aI 0,aN,aN,aI 0,aI 0]),(5,.box b4 45 [aI 0,aI 0,aI 0,aI 0,aS ([]),aN]),(11,.box j4 47 [aI m.client,aI m.epoch,aI m.seq,aI 0,aI ((Qas h.s).stamp),.sl 5 false ((Qas h.s).was.l.map nodA),aI ((Qas h.s).was.next),.sl 5 false ((Qas h.s).now.l.map nodA),aI ((Qas h.s).now.next),.sl 1 false ((Qas h.s).looks.map intA),aI 0,aI 0,aI 0,aI 0,aS ([]),aN,aI (h.now+h.lease)])]⟩,fun _=>True⟩
 .cut J4 (.pick [0,1,2,3,4,5,6,7,9,10,11,12,13]<|.run 13 [b2=b2,b2=b2,b2=b2,b1=b1,b1=b1,b1=b1,rng .i64 (h.now+h.lease)] ⟨rfl,rfl,rfl,rfl,rfl,rfl,Qal,trivial⟩<|
 .fork<|.alt (.call (Qes h.s okh.s.ok (by have:=okh.s.l;omega))<|
 .pick [14,15,16]<|.r 1<|.new fun b10=>.u 1 [b10]<|
 .jo J4 b10 [] [] sr6 bb5)
 <| .new fun b11=>.pick [8,14,16]<|.call (Qes h.s okh.s.ok (by have:=okh.s.l;omega))<|
 .u 2 [b11]<|
 .jo J4 b11 [] [] sr6 bb5)
 <| fun j4 _=>(fun (b12:Nat)=>let J5:Jn (Unit):=⟨fun j5=>⟨[(4,.ptr 4 b3 0),(5,.ptr 5 b4 0),(6,aI 0)],[(4,.box b3 29 [.sl 2 false ((Qa3 h m.client [Qbp h m]).s.l.map chnA),.sl 2 false ((Qa3 h m.client [Qbp h m]).s.nexts.map cntA),aI ((Qa3 h m.client [Qbp h m]).s.stamp),.sl 4 false ((Qa3 h m.client [Qbp h m]).rows.map trA),.sl 17 false ((Qa3 h m.client [Qbp h m]).opens.map opA),aI ((Qa3 h m.client [Qbp h m]).now),aI ((Qa3 h m.client [Qbp h m]).lease)]),(5,.box b4 45 [aI 0,aI ((Qas h.s).stamp),aI 0,aI 0,aS ([]),aN])]⟩,fun _=>True⟩
 .cut J5 (.pick [0,1,2,3,6,7]<|.u 6 [b1,b2,b12]<|
 .fork<|.alt (.r 1<|.fork<|.alt (.cs (args0:=[.agg [.sl 2 false (h.s.l.map chnA),.sl 2 false (h.s.nexts.map cntA),aI h.s.stamp,.sl 4 false (h.rows.map trA),.sl 17 false (h.opens.map opA),aI h.now,aI h.lease],aI m.client,.sl 17 true ([[aI m.client,aI m.epoch,aI m.seq,aI 0,aI ((Qas h.s).stamp),.sl 5 false ((Qas h.s).was.l.map nodA),aI ((Qas h.s).was.next),.sl 5 false ((Qas h.s).now.l.map nodA),aI ((Qas h.s).now.next),.sl 1 false ((Qas h.s).looks.map intA),aI 0,aI 0,aI 0,aI 0,aS ([]),aN,aI (h.now+h.lease)]])]) (Qcf h m.client [Qbp h m] (by omega) (by show 1≤1000;decide)) ⟨sR,sR,Qgc ⟨sR,sR,sR,sR,sR,sR,sR,sR,sR,sR,sR,sR,sR,sR,sR,Sub.nil _ _,sR,trivial⟩,trivial⟩<|
 .fork<|.alt (.u 1 [b12]<|
 .pick [9,10,11,12]<|.u 4 [b3,b4]<|
 .jo J5 () [] [] sr3 bb2)
 <| .u 1 [b3]<|
 .pick [8,9,11,12]<|.u 4 [b12,b4]<|
 .jo J5 () [] [] sr3 bb2)
 <| .u 1 [b12]<|
 .pick [9,5,10,11,12]<|.r 1<|.cs (args0:=[.agg [.sl 2 false (h.s.l.map chnA),.sl 2 false (h.s.nexts.map cntA),aI h.s.stamp,.sl 4 false (h.rows.map trA),.sl 17 false (h.opens.map opA),aI h.now,aI h.lease],aI m.client,.sl 17 true ([[aI m.client,aI m.epoch,aI m.seq,aI 0,aI ((Qas h.s).stamp),.sl 5 false ((Qas h.s).was.l.map nodA),aI ((Qas h.s).was.next),.sl 5 false ((Qas h.s).now.l.map nodA),aI ((Qas h.s).now.next),.sl 1 false ((Qas h.s).looks.map intA),aI 0,aI 0,aI 0,aI 0,aS ([]),aN,aI (h.now+h.lease)]])]) (Qcf h m.client [Qbp h m] (by omega) (by show 1≤1000;decide)) ⟨sR,sR,Qgc ⟨sR,sR,sR,sR,sR,sR,sR,sR,sR,sR,sR,sR,sR,sR,sR,Sub.nil _ _,sR,trivial⟩,trivial⟩<|
 .u 3 [b3,b4]<|
 .jo J5 () [] [] sr3 bb2)
 <| .u 1 [b12]<|
 .pick [9,4,5,10,11,12]<|.r 2<|.cs (args0:=[.agg [.sl 2 false (h.s.l.map chnA),.sl 2 false (h.s.nexts.map cntA),aI h.s.stamp,.sl 4 false (h.rows.map trA),.sl 17 false (h.opens.map opA),aI h.now,aI h.lease],aI m.client,.sl 17 true ([[aI m.client,aI m.epoch,aI m.seq,aI 0,aI ((Qas h.s).stamp),.sl 5 false ((Qas h.s).was.l.map nodA),aI ((Qas h.s).was.next),.sl 5 false ((Qas h.s).now.l.map nodA),aI ((Qas h.s).now.next),.sl 1 false ((Qas h.s).looks.map intA),aI 0,aI 0,aI 0,aI 0,aS ([]),aN,aI (h.now+h.lease)]])]) (Qcf h m.client [Qbp h m] (by omega) (by show 1≤1000;decide)) ⟨sR,sR,Qgc ⟨sR,sR,sR,sR,sR,sR,sR,sR,sR,sR,sR,sR,sR,sR,sR,Sub.nil _ _,sR,trivial⟩,trivial⟩<|
 .u 3 [b3,b4]<|
 .jo J5 () [] [] sr3 bb2)
 <| fun _ _=>.f (.tup [.agg (hosA (Qbo h m).1),.agg (repA (Qbo h m).2.1),aI (Qbo h m).2.2]) [b3,b4] (.tup [.agg [.sl 2 false ((Qa3 h m.client [Qbp h m]).s.l.map chnA),.sl 2 false ((Qa3 h m.client [Qbp h m]).s.nexts.map cntA),aI ((Qa3 h m.client [Qbp h m]).s.stamp),.sl 4 false ((Qa3 h m.client [Qbp h m]).rows.map trA),.sl 17 false ((Qa3 h m.client [Qbp h m]).opens.map opA),aI ((Qa3 h m.client [Qbp h m]).now),aI ((Qa3 h m.client [Qbp h m]).lease)],.agg [aI 0,aI ((Qas h.s).stamp),aI 0,aI 0,aS ([]),aN],aI 0]) (by
  rw [show Qbo h m=_ from (W1w (by rw [q1];decide)).trans ((W1w (fun c=>by obtain ⟨c1,c2,c3⟩:=c;omega)).trans (W1w (fun c=>by obtain ⟨c1,c2⟩:=c;rw [q2] at c1;cases c1)))];exact W2q ⟨sR,W2r ⟨sR,sR,sR,sR,sR,Sub.nil _ _,trivial⟩,sR,trivial⟩)) j4)
 <| fun q2=>have p2:=booF q2;.r 12<|.r 3<|.is 49 (show (!((Qbn h m.client).2))=true from by rw [q2];rfl)<|.u 3 [b1]<|
 .lm 52 h.opens opA<|.r 2<|.bd 54 ((h.opens.length:Int)≥64) (fun p5=>.u 5 [b1,b3,b4]<|
 .f (.tup [.agg (hosA (Qbo h m).1),.agg (repA (Qbo h m).2.1),aI (Qbo h m).2.2]) [b3,b4] (.tup [.agg [.sl 2 false (h.s.l.map chnA),.sl 2 false (h.s.nexts.map cntA),aI h.s.stamp,.sl 4 false (h.rows.map trA),.sl 17 false (h.opens.map opA),aI h.now,aI h.lease],.agg [aI 0,aI 0,aI 0,aI 0,aS ([]),aN],aI 12]) (by
  rw [show Qbo h m=_ from (W1w (by rw [q1];decide)).trans ((W1w (fun c=>by obtain ⟨c1,c2,c3⟩:=c;rw [q2] at c1;cases c1)).trans (W1x ⟨q2,by omega⟩))];exact W2q ⟨sR,W2r ⟨sR,sR,sR,sR,sR,Sub.nil _ _,trivial⟩,sR,trivial⟩))
 <| fun p5=>let J6:Jn (Nat):=⟨fun j6=>⟨[(2,.ptr 2 b1 0),(3,.ptr 3 b2 0),(4,.ptr 4 b3 0),(5,.ptr 5 b4 0),(6,aI 0),(11,.ptr 11 j6 0)],[(2,.box b1 29 [.sl 2 false (h.s.l.map chnA),.sl 2 false (h.s.nexts.map cntA),aI h.s.stamp,.sl 4 false (h.rows.map trA),.sl 17 false (h.opens.map opA),aI h.now,aI h.lease]),(3,.box b2 62 [aI m.kind,aI m.client,aI m.epoch,aI m.seq,aI m.n,aI m.stamp,aI m.c.kind,aI m.c.ino,aI m.c.to,aI m.c.at_,aI m.c.many,aS m.c.name,aS m.c.name2,aS m.c.text]),(4,.box b3 29 [aN,aN,aI 0,aN,aN,aI 0,aI 0]),(5,.box b4 45 [aI 0,aI 0,aI 0,aI 0,aS ([]),aN]),(11,.box j6 47 [aI m.client,aI m.epoch,aI m.seq,aI 0,aI ((Qas h.s).stamp),.sl 5 false ((Qas h.s).was.l.map nodA),aI ((Qas h.s).was.next),.sl 5 false ((Qas h.s).now.l.map nodA),aI ((Qas h.s).now.next),.sl 1 false ((Qas h.s).looks.map intA),aI 0,aI 0,aI 0,aI 0,aS ([]),aN,aI (h.now+h.lease)])]⟩,fun _=>True⟩
 .cut J6 (.pick [0,1,2,3,4,5,6,7,9,10,11,12,13]<|.run 13 [b2=b2,b2=b2,b2=b2,b1=b1,b1=b1,b1=b1,rng .i64 (h.now+h.lease)] ⟨rfl,rfl,rfl,rfl,rfl,rfl,Qal,trivial⟩<|
 .fork<|.alt (.call (Qes h.s okh.s.ok (by have:=okh.s.l;omega))<|
 .pick [14,15,16]<|.r 1<|.new fun b13=>.u 1 [b13]<|
 .jo J6 b13 [] [] sr6 bb5)
 <| .new fun b14=>.pick [8,14,16]<|.call (Qes h.s okh.s.ok (by have:=okh.s.l;omega))<|
 .u 2 [b14]<|
 .jo J6 b14 [] [] sr6 bb5)
 <| fun j6 _=>(fun (b15:Nat)=>let J7:Jn (Unit):=⟨fun j7=>⟨[(4,.ptr 4 b3 0),(5,.ptr 5 b4 0),(6,aI 0)],[(4,.box b3 29 [.sl 2 false ((Qa3 h m.client [Qbp h m]).s.l.map chnA),.sl 2 false ((Qa3 h m.client [Qbp h m]).s.nexts.map cntA),aI ((Qa3 h m.client [Qbp h m]).s.stamp),.sl 4 false ((Qa3 h m.client [Qbp h m]).rows.map trA),.sl 17 false ((Qa3 h m.client [Qbp h m]).opens.map opA),aI ((Qa3 h m.client [Qbp h m]).now),aI ((Qa3 h m.client [Qbp h m]).lease)]),(5,.box b4 45 [aI 0,aI ((Qas h.s).stamp),aI 0,aI 0,aS ([]),aN])]⟩,fun _=>True⟩
 .cut J7 (.pick [0,1,2,3,6,7]<|.u 6 [b1,b2,b15]<|
 .fork<|.alt (.r 1<|.fork<|.alt (.cs (args0:=[.agg [.sl 2 false (h.s.l.map chnA),.sl 2 false (h.s.nexts.map cntA),aI h.s.stamp,.sl 4 false (h.rows.map trA),.sl 17 false (h.opens.map opA),aI h.now,aI h.lease],aI m.client,.sl 17 true ([[aI m.client,aI m.epoch,aI m.seq,aI 0,aI ((Qas h.s).stamp),.sl 5 false ((Qas h.s).was.l.map nodA),aI ((Qas h.s).was.next),.sl 5 false ((Qas h.s).now.l.map nodA),aI ((Qas h.s).now.next),.sl 1 false ((Qas h.s).looks.map intA),aI 0,aI 0,aI 0,aI 0,aS ([]),aN,aI (h.now+h.lease)]])]) (Qcf h m.client [Qbp h m] (by omega) (by show 1≤1000;decide)) ⟨sR,sR,Qgc ⟨sR,sR,sR,sR,sR,sR,sR,sR,sR,sR,sR,sR,sR,sR,sR,Sub.nil _ _,sR,trivial⟩,trivial⟩<|
 .fork<|.alt (.u 1 [b15]<|
 .pick [9,10,11,12]<|.u 4 [b3,b4]<|
 .jo J7 () [] [] sr3 bb2)
 <| .u 1 [b3]<|
 .pick [8,9,11,12]<|.u 4 [b15,b4]<|
 .jo J7 () [] [] sr3 bb2)
 <| .u 1 [b15]<|
 .pick [9,5,10,11,12]<|.r 1<|.cs (args0:=[.agg [.sl 2 false (h.s.l.map chnA),.sl 2 false (h.s.nexts.map cntA),aI h.s.stamp,.sl 4 false (h.rows.map trA),.sl 17 false (h.opens.map opA),aI h.now,aI h.lease],aI m.client,.sl 17 true ([[aI m.client,aI m.epoch,aI m.seq,aI 0,aI ((Qas h.s).stamp),.sl 5 false ((Qas h.s).was.l.map nodA),aI ((Qas h.s).was.next),.sl 5 false ((Qas h.s).now.l.map nodA),aI ((Qas h.s).now.next),.sl 1 false ((Qas h.s).looks.map intA),aI 0,aI 0,aI 0,aI 0,aS ([]),aN,aI (h.now+h.lease)]])]) (Qcf h m.client [Qbp h m] (by omega) (by show 1≤1000;decide)) ⟨sR,sR,Qgc ⟨sR,sR,sR,sR,sR,sR,sR,sR,sR,sR,sR,sR,sR,sR,sR,Sub.nil _ _,sR,trivial⟩,trivial⟩<|
 .u 3 [b3,b4]<|
 .jo J7 () [] [] sr3 bb2)
 <| .u 1 [b15]<|
 .pick [9,4,5,10,11,12]<|.r 2<|.cs (args0:=[.agg [.sl 2 false (h.s.l.map chnA),.sl 2 false (h.s.nexts.map cntA),aI h.s.stamp,.sl 4 false (h.rows.map trA),.sl 17 false (h.opens.map opA),aI h.now,aI h.lease],aI m.client,.sl 17 true ([[aI m.client,aI m.epoch,aI m.seq,aI 0,aI ((Qas h.s).stamp),.sl 5 false ((Qas h.s).was.l.map nodA),aI ((Qas h.s).was.next),.sl 5 false ((Qas h.s).now.l.map nodA),aI ((Qas h.s).now.next),.sl 1 false ((Qas h.s).looks.map intA),aI 0,aI 0,aI 0,aI 0,aS ([]),aN,aI (h.now+h.lease)]])]) (Qcf h m.client [Qbp h m] (by omega) (by show 1≤1000;decide)) ⟨sR,sR,Qgc ⟨sR,sR,sR,sR,sR,sR,sR,sR,sR,sR,sR,sR,sR,sR,sR,Sub.nil _ _,sR,trivial⟩,trivial⟩<|
 .u 3 [b3,b4]<|
 .jo J7 () [] [] sr3 bb2)
 <| fun _ _=>.f (.tup [.agg (hosA (Qbo h m).1),.agg (repA (Qbo h m).2.1),aI (Qbo h m).2.2]) [b3,b4] (.tup [.agg [.sl 2 false ((Qa3 h m.client [Qbp h m]).s.l.map chnA),.sl 2 false ((Qa3 h m.client [Qbp h m]).s.nexts.map cntA),aI ((Qa3 h m.client [Qbp h m]).s.stamp),.sl 4 false ((Qa3 h m.client [Qbp h m]).rows.map trA),.sl 17 false ((Qa3 h m.client [Qbp h m]).opens.map opA),aI ((Qa3 h m.client [Qbp h m]).now),aI ((Qa3 h m.client [Qbp h m]).lease)],.agg [aI 0,aI ((Qas h.s).stamp),aI 0,aI 0,aS ([]),aN],aI 0]) (by
  rw [show Qbo h m=_ from (W1w (by rw [q1];decide)).trans ((W1w (fun c=>by obtain ⟨c1,c2,c3⟩:=c;rw [q2] at c1;cases c1)).trans (W1w (fun c=>by obtain ⟨c1,c2⟩:=c;omega)))];exact W2q ⟨sR,W2r ⟨sR,sR,sR,sR,sR,Sub.nil _ _,trivial⟩,sR,trivial⟩)) j6)
theorem Qz9 (h:Hos) (m:Msg) (okh:OkH h) (okm:OkCal m.c):Qag prog 140 [.agg [.sl 2 false (h.s.l.map chnA),.sl 2 false (h.s.nexts.map cntA),aI h.s.stamp,.sl 4 false (h.rows.map trA),.sl 17 false (h.opens.map opA),aI h.now,aI h.lease],.agg [aI m.kind,aI m.client,aI m.epoch,aI m.seq,aI m.n,aI m.stamp,aI m.c.kind,aI m.c.ino,aI m.c.to,aI m.c.at_,aI m.c.many,aS m.c.name,aS m.c.name2,aS m.c.text]] (.tup [.agg (hosA (Qcv h m).1),.agg (repA (Qcv h m).2.1),aI (Qcv h m).2.2]):=by
 have hop:=okh.opens;have hmr:=okh.many;have hn1:=okh.now;have hn2:=okh.lease;exact Qac func140 (
 .new fun b1=>.new fun b2=>.new fun b3=>.new fun b4=>.r 1<|.u 2 [b1,b2]<|
 .call (Qd4 h m (by omega))<|
 .r 3<|.new fun b5=>.u 2 [b5]<|
 .r 3<|.br 15 (!((Qad h m).2)) (fun q1=>have q1:=notT q1;have p1:=booF q1;.u 5 [b1,b3,b4]<|
 .f (.tup [.agg (hosA (Qcv h m).1),.agg (repA (Qcv h m).2.1),aI (Qcv h m).2.2]) [b3,b4] (.tup [.agg [.sl 2 false (h.s.l.map chnA),.sl 2 false (h.s.nexts.map cntA),aI h.s.stamp,.sl 4 false (h.rows.map trA),.sl 17 false (h.opens.map opA),aI h.now,aI h.lease],.agg [aI 0,aI 0,aI 0,aI 0,aS ([]),aN],aI 6]) (by
  rw [show Qcv h m=_ from W1x q1];exact W2q ⟨sR,W2r ⟨sR,sR,sR,sR,sR,Sub.nil _ _,trivial⟩,sR,trivial⟩))
 <| fun q1=>have q1:=notF q1;have p1:=booT q1;have um:=Qet q1;have uo:OkOp (Qad h m).1:=(by rw [um.1];exact okh.op _ um.2.1);have un:=uo.n;.u 3 [b1,b5,b2]<|
 .call (Qmv h (Qad h m).1 m)<|
 .r 1<|.br 20 (Qcb h (Qad h m).1 m) (fun q2=>have p2:=booT q2;.u 5 [b1,b3,b4]<|
 .f (.tup [.agg (hosA (Qcv h m).1),.agg (repA (Qcv h m).2.1),aI (Qcv h m).2.2]) [b3,b4] (.tup [.agg [.sl 2 false (h.s.l.map chnA),.sl 2 false (h.s.nexts.map cntA),aI h.s.stamp,.sl 4 false (h.rows.map trA),.sl 17 false (h.opens.map opA),aI h.now,aI h.lease],.agg [aI 0,aI 0,aI 0,aI 0,aS ([]),aN],aI 16]) (by
  rw [show Qcv h m=_ from (W1w (by rw [q1];decide)).trans (W1x q2)];exact W2q ⟨sR,W2r ⟨sR,sR,sR,sR,sR,Sub.nil _ _,trivial⟩,sR,trivial⟩))
 <| fun q2=>have p2:=booF q2;.u 6 [b2,b5]<|
 .be 27 m.n ((Qad h m).1.n) (fun p3=>let J1:Jn (Unit):=⟨fun j1=>⟨[(2,.ptr 2 b1 0),(3,.ptr 3 b2 0),(4,.ptr 4 b3 0),(5,.ptr 5 b4 0),(6,aI 0),(7,.ptr 7 b5 0)],[(2,.box b1 29 [.sl 2 false (h.s.l.map chnA),.sl 2 false (h.s.nexts.map cntA),aI h.s.stamp,.sl 4 false (h.rows.map trA),.sl 17 false (h.opens.map opA),aI h.now,aI h.lease]),(3,.box b2 62 [aI m.kind,aI m.client,aI m.epoch,aI m.seq,aI m.n,aI m.stamp,aI m.c.kind,aI m.c.ino,aI m.c.to,aI m.c.at_,aI m.c.many,aS m.c.name,aS m.c.name2,aS m.c.text]),(4,.box b3 29 [.sl 2 false (h.s.l.map chnA),.sl 2 false (h.s.nexts.map cntA),aI h.s.stamp,.sl 4 false (h.rows.map trA),.sl 17 false (h.opens.map opA),aI h.now,aI h.lease]),(5,.box b4 45 [aI ((Qad h m).1.last.e),aI ((Qad h m).1.last.a),aI ((Qad h m).1.last.b),aI ((Qad h m).1.last.n),aS ((Qad h m).1.last.text),.sl 1 false ((Qad h m).1.last.names.map txA)]),(7,.box b5 47 [aI ((Qad h m).1.client),aI ((Qad h m).1.epoch),aI ((Qad h m).1.seq),aI ((Qad h m).1.n),aI ((Qad h m).1.t.stamp),.sl 5 false ((Qad h m).1.t.was.l.map nodA),aI ((Qad h m).1.t.was.next),.sl 5 false ((Qad h m).1.t.now.l.map nodA),aI ((Qad h m).1.t.now.next),.sl 1 false ((Qad h m).1.t.looks.map intA),aI ((Qad h m).1.last.e),aI ((Qad h m).1.last.a),aI ((Qad h m).1.last.b),aI ((Qad h m).1.last.n),aS ((Qad h m).1.last.text),.sl 1 false ((Qad h m).1.last.names.map txA),aI ((Qad h m).1.until_)])]⟩,fun _=>True⟩
 .cut J1 (.pick [0,1]<|.u 2 [b1]<|
 .fork<|.alt (.u 1 [b5]<|
 .pick [3,4,5]<|.u 3 [b3,b4]<|
 .jo J1 () [] [] sr6 bb5)
 <| .u 1 [b3]<|
 .pick [2,4,5]<|.u 3 [b5,b4]<|
 .jo J1 () [] [] sr6 bb5)
 <| fun _ _=>.f (.tup [.agg (hosA (Qcv h m).1),.agg (repA (Qcv h m).2.1),aI (Qcv h m).2.2]) [b3,b4] (.tup [.agg [.sl 2 false (h.s.l.map chnA),.sl 2 false (h.s.nexts.map cntA),aI h.s.stamp,.sl 4 false (h.rows.map trA),.sl 17 false (h.opens.map opA),aI h.now,aI h.lease],.agg [aI ((Qad h m).1.last.e),aI ((Qad h m).1.last.a),aI ((Qad h m).1.last.b),aI ((Qad h m).1.last.n),aS ((Qad h m).1.last.text),.sl 1 false ((Qad h m).1.last.names.map txA)],aI 0]) (by
  rw [show Qcv h m=_ from (W1w (by rw [q1];decide)).trans ((W1w (by rw [q2];decide)).trans (W1x p3))];exact sR))
 <| fun p3=>.u 4 [b2,b5]<|
 .binV .add 3 (addW (a:=(Qad h m).1.n))<|
 .r 2<|.bn 36 m.n (wr1 (Qad h m).1.n) (fun p4=>.u 5 [b1,b3,b4]<|
 .f (.tup [.agg (hosA (Qcv h m).1),.agg (repA (Qcv h m).2.1),aI (Qcv h m).2.2]) [b3,b4] (.tup [.agg [.sl 2 false (h.s.l.map chnA),.sl 2 false (h.s.nexts.map cntA),aI h.s.stamp,.sl 4 false (h.rows.map trA),.sl 17 false (h.opens.map opA),aI h.now,aI h.lease],.agg [aI 0,aI 0,aI 0,aI 0,aS ([]),aN],aI 1]) (by
  rw [show Qcv h m=_ from (W1w (by rw [q1];decide)).trans ((W1w (by rw [q2];decide)).trans ((W1w p3).trans (W1x p4)))];exact W2q ⟨sR,W2r ⟨sR,sR,sR,sR,sR,Sub.nil _ _,trivial⟩,sR,trivial⟩))
 <| fun p4=>.u 4 [b2,b5]<|
 .u 4 [b5,b2]<|
 .call (Za5 (Qad h m).1.t m.c uo.t.now okm uo.now uo.next (by have:=uo.looks;omega))<|
 .u 7 [b5,b5]<|
 .run 7 [b1=b1,b1=b1,rng .i64 (h.now+h.lease),b5=b5] ⟨rfl,rfl,Qal,rfl,trivial⟩<|
 let J2:Jn (Unit):=⟨fun j2=>⟨[(4,.ptr 4 b3 0),(5,.ptr 5 b4 0),(6,aI 0)],[(4,.box b3 29 [.sl 2 false ((Qa3 h m.client [Qdn h m]).s.l.map chnA),.sl 2 false ((Qa3 h m.client [Qdn h m]).s.nexts.map cntA),aI ((Qa3 h m.client [Qdn h m]).s.stamp),.sl 4 false ((Qa3 h m.client [Qdn h m]).rows.map trA),.sl 17 false ((Qa3 h m.client [Qdn h m]).opens.map opA),aI ((Qa3 h m.client [Qdn h m]).now),aI ((Qa3 h m.client [Qdn h m]).lease)]),(5,.box b4 45 [aI ((doF (Qad h m).1.t.now m.c).2.e),aI ((doF (Qad h m).1.t.now m.c).2.a),aI ((doF (Qad h m).1.t.now m.c).2.b),aI ((doF (Qad h m).1.t.now m.c).2.n),aS ((doF (Qad h m).1.t.now m.c).2.text),.sl 1 false ((doF (Qad h m).1.t.now m.c).2.names.map txA)])]⟩,fun _=>True⟩
 .cut J2 (.pick [0,1,2,3,6]<|.u 5 [b1,b2,b5]<|
 .fork<|.alt (.r 1<|.fork<|.alt (.cs (args0:=[.agg [.sl 2 false (h.s.l.map chnA),.sl 2 false (h.s.nexts.map cntA),aI h.s.stamp,.sl 4 false (h.rows.map trA),.sl 17 false (h.opens.map opA),aI h.now,aI h.lease],aI m.client,.sl 17 true ([[aI ((Qad h m).1.client),aI ((Qad h m).1.epoch),aI ((Qad h m).1.seq),aI m.n,aI ((Qdw (Qad h m).1.t m.c).stamp),.sl 5 false ((Qdw (Qad h m).1.t m.c).was.l.map nodA),aI ((Qdw (Qad h m).1.t m.c).was.next),.sl 5 false ((Qdw (Qad h m).1.t m.c).now.l.map nodA),aI ((Qdw (Qad h m).1.t m.c).now.next),.sl 1 false ((Qdw (Qad h m).1.t m.c).looks.map intA),aI ((doF (Qad h m).1.t.now m.c).2.e),aI ((doF (Qad h m).1.t.now m.c).2.a),aI ((doF (Qad h m).1.t.now m.c).2.b),aI ((doF (Qad h m).1.t.now m.c).2.n),aS ((doF (Qad h m).1.t.now m.c).2.text),.sl 1 false ((doF (Qad h m).1.t.now m.c).2.names.map txA),aI (h.now+h.lease)]])]) (Qcf h m.client [Qdn h m] (by omega) (by show 1≤1000;decide)) ⟨sR,sR,Qgc ⟨sR,sR,sR,sR,sR,sR,sR,sR,sR,sR,sR,sR,sR,sR,sR,sR,sR,trivial⟩,trivial⟩<|
 .fork<|.alt (.u 1 [b5]<|
 .pick [8,9,10]<|.u 3 [b3,b4]<|
 .jo J2 () [] [] sr3 bb2)
 <| .u 1 [b3]<|
 .pick [7,9,10]<|.u 3 [b5,b4]<|
 .jo J2 () [] [] sr3 bb2)
 <| .u 1 [b5]<|
 .pick [5,8,9,10]<|.cs (args0:=[.agg [.sl 2 false (h.s.l.map chnA),.sl 2 false (h.s.nexts.map cntA),aI h.s.stamp,.sl 4 false (h.rows.map trA),.sl 17 false (h.opens.map opA),aI h.now,aI h.lease],aI m.client,.sl 17 true ([[aI ((Qad h m).1.client),aI ((Qad h m).1.epoch),aI ((Qad h m).1.seq),aI m.n,aI ((Qdw (Qad h m).1.t m.c).stamp),.sl 5 false ((Qdw (Qad h m).1.t m.c).was.l.map nodA),aI ((Qdw (Qad h m).1.t m.c).was.next),.sl 5 false ((Qdw (Qad h m).1.t m.c).now.l.map nodA),aI ((Qdw (Qad h m).1.t m.c).now.next),.sl 1 false ((Qdw (Qad h m).1.t m.c).looks.map intA),aI ((doF (Qad h m).1.t.now m.c).2.e),aI ((doF (Qad h m).1.t.now m.c).2.a),aI ((doF (Qad h m).1.t.now m.c).2.b),aI ((doF (Qad h m).1.t.now m.c).2.n),aS ((doF (Qad h m).1.t.now m.c).2.text),.sl 1 false ((doF (Qad h m).1.t.now m.c).2.names.map txA),aI (h.now+h.lease)]])]) (Qcf h m.client [Qdn h m] (by omega) (by show 1≤1000;decide)) ⟨sR,sR,Qgc ⟨sR,sR,sR,sR,sR,sR,sR,sR,sR,sR,sR,sR,sR,sR,sR,sR,sR,trivial⟩,trivial⟩<|
 .u 3 [b3,b4]<|
 .jo J2 () [] [] sr3 bb2)
 <| .u 1 [b5]<|
 .pick [4,5,8,9,10]<|.r 1<|.cs (args0:=[.agg [.sl 2 false (h.s.l.map chnA),.sl 2 false (h.s.nexts.map cntA),aI h.s.stamp,.sl 4 false (h.rows.map trA),.sl 17 false (h.opens.map opA),aI h.now,aI h.lease],aI m.client,.sl 17 true ([[aI ((Qad h m).1.client),aI ((Qad h m).1.epoch),aI ((Qad h m).1.seq),aI m.n,aI ((Qdw (Qad h m).1.t m.c).stamp),.sl 5 false ((Qdw (Qad h m).1.t m.c).was.l.map nodA),aI ((Qdw (Qad h m).1.t m.c).was.next),.sl 5 false ((Qdw (Qad h m).1.t m.c).now.l.map nodA),aI ((Qdw (Qad h m).1.t m.c).now.next),.sl 1 false ((Qdw (Qad h m).1.t m.c).looks.map intA),aI ((doF (Qad h m).1.t.now m.c).2.e),aI ((doF (Qad h m).1.t.now m.c).2.a),aI ((doF (Qad h m).1.t.now m.c).2.b),aI ((doF (Qad h m).1.t.now m.c).2.n),aS ((doF (Qad h m).1.t.now m.c).2.text),.sl 1 false ((doF (Qad h m).1.t.now m.c).2.names.map txA),aI (h.now+h.lease)]])]) (Qcf h m.client [Qdn h m] (by omega) (by show 1≤1000;decide)) ⟨sR,sR,Qgc ⟨sR,sR,sR,sR,sR,sR,sR,sR,sR,sR,sR,sR,sR,sR,sR,sR,sR,trivial⟩,trivial⟩<|
 .u 3 [b3,b4]<|
 .jo J2 () [] [] sr3 bb2)
 <| fun _ _=>.f (.tup [.agg (hosA (Qcv h m).1),.agg (repA (Qcv h m).2.1),aI (Qcv h m).2.2]) [b3,b4] (.tup [.agg [.sl 2 false ((Qa3 h m.client [Qdn h m]).s.l.map chnA),.sl 2 false ((Qa3 h m.client [Qdn h m]).s.nexts.map cntA),aI ((Qa3 h m.client [Qdn h m]).s.stamp),.sl 4 false ((Qa3 h m.client [Qdn h m]).rows.map trA),.sl 17 false ((Qa3 h m.client [Qdn h m]).opens.map opA),aI ((Qa3 h m.client [Qdn h m]).now),aI ((Qa3 h m.client [Qdn h m]).lease)],.agg [aI ((doF (Qad h m).1.t.now m.c).2.e),aI ((doF (Qad h m).1.t.now m.c).2.a),aI ((doF (Qad h m).1.t.now m.c).2.b),aI ((doF (Qad h m).1.t.now m.c).2.n),aS ((doF (Qad h m).1.t.now m.c).2.text),.sl 1 false ((doF (Qad h m).1.t.now m.c).2.names.map txA)],aI 0]) (by
  rw [show Qcv h m=_ from (W1w (by rw [q1];decide)).trans ((W1w (by rw [q2];decide)).trans ((W1w p3).trans (W1w (fun c=>c p4))))];exact W2q sr3))
end Go.Proofs.YtkhodpknpligpaaGreat
