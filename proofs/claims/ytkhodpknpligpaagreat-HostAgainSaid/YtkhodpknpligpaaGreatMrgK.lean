import Derived.Test.YtkhodpknpligpaaGreatAl
import Derived.Test.YtkhodpknpligpaaGreatMrgI
import Derived.Test.YtkhodpknpligpaaGreatMrgJ
set_option maxRecDepth 100000
set_option maxHeartbeats 8000000
set_option linter.unusedVariables false
set_option linter.unusedSimpArgs false
namespace Go.Proofs.YtkhodpknpligpaaGreat
open Go Go.RowKit Copyhold Go.Proofs.Tryz
theorem Zgj:Elem prog 26 90 (.agg #[.int .i64 0,.int .i64 0,.int .i64 0,.slice none 0 0]) 4 48:=⟨Tryz.underlying26,by kernel_rfl,by kernel_rfl,by decide⟩
theorem Zdr (n:Nat) (hn:n≤1000000) (w:World) :
  Calls prog 204 #[.slice none 0 0,.int .i64 (n:Int)] w (Qpe w 90 4 0 []):=by
 by_cases h0:0<n
 ·obtain ⟨G,w',hrun,hG1,hG2,hown,hb⟩:=Qge Zgj Tryz.underlying3 n h0 (by omega) (by omega) w;have HO:=Lib.hid (And.intro hown hb);have hi0:(0:Int)<(n:Int):=by omega
  clear hown hb
  go_enter func204,Tryz.ntmps204
  go_wp2_with (at_builtin;refine Qb7 rfl _ _ _ _ rfl _ _ _ _ rfl rfl (hrun _) ?_)
  go_ret
  exact ⟨_,rfl,HO.out.1,HO.out.2⟩
 ·obtain rfl:n=0:=by omega
  go_enter func204,Tryz.ntmps204
  go_wp2_with fail
  go_ret
  exact ⟨_,rfl,World.ownsRow_nil _ _ _ _,Below.refl _ _⟩
def Qfh (p:List (List AV)):List AV:=[.sl 4 false p]
theorem Qci (ps:List (List (List AV))) (hl:ps.length≤100000) (ht:ps.flatten.length≤100000):Qag prog 162 [.sl 1 false (ps.map Qfh)] (.sl 4 false ps.flatten):=by
 exact Qac func162 (
 .r 1<|.r 1<|.r 2<|.lm 10 ps Qfh<|.r 1<|let L1:Lp (Nat):=⟨fun a1=>⟨[(0,.sl 1 false (ps.map Qfh)),(9,.sl 1 false (ps.map Qfh)),(10,aI (ps.length:Int)),(3,aI ((ps.take a1).flatten.length:Int)),(11,aI (a1:Int))],[]⟩,fun a1=>ps.length-a1,fun a1=>a1≤ps.length⟩
 .lp L1 0 (show 0≤ps.length from W0j _) [(3,aI 0),(11,aI 0)] [] ⟨sR,sR,sR,sO,sO,trivial⟩ trivial fun a1 ha1=>
 (fun (k:Nat) (hH1:k≤ps.length)=>.r 1<|.bd 12 ((k:Int)<(ps.length:Int)) (fun p1=>.idxM ps Qfh k (m:=(k:Int)) rfl (by omega) fun x1 hx1=>
 have tx1:=Qbd ps (k+1);have ux1:=W1y List.length (Qa9 hx1);have vx1:=(@W0e _ (ps.take k).flatten x1);.r 2<|.run 5 [rng .i64 (((ps.take k).flatten.length:Int)+((x1).length:Int))] ⟨Qal,trivial⟩<|
 .r 2<|.bd 20 ((((ps.take k).flatten.length:Int)+((x1).length:Int))<0) (fun p2=>.no (by omega))
 <| fun p2=>.run 2 [rng .i64 ((k:Int)+1)] ⟨Qal,trivial⟩<|
 .bk L1 k (k+1) (show (k+1)≤ps.length from (by show _≤_;omega)) (show ps.length-(k+1)<ps.length-k from (by omega)) [(3,aI (((ps.take k).flatten.length:Int)+((x1).length:Int))),(11,aI ((k:Int)+1))] [] ⟨sR,sR,sR,W2n (W1y aI (by rw [Qa9 hx1,W0e];omega)),sO,trivial⟩ trivial)
 <| fun p1=>.r 1<|.cw (args0:=[aN,aI ((ps.take k).flatten.length:Int)]) (Qgr (fun w=>Zdr ((ps.take k).flatten.length) (by have:=Qbd ps k;omega) w)) sr2 fun V1=>
 .r 1<|.r 2<|.lm 26 ps Qfh<|.r 1<|let L2:Lp (Nat × Value):=⟨fun a2=>⟨[(25,.sl 1 false (ps.map Qfh)),(26,aI (ps.length:Int)),(27,aI (a2.1:Int)),(6,.rw 24 a2.2 ((ps.take a2.1).flatten.length))],[(24,.row a2.2 90 4 ((ps.take a2.1).flatten))]⟩,fun a2=>ps.length-a2.1,fun a2=>a2.1≤ps.length⟩
 .lp L2 (0,V1) (show 0≤ps.length from W0j _) [(27,aI 0),(6,.rw 24 V1 0)] [(24,.row V1 90 4 ([]))] ⟨sR,sR,sO,W2n (W1y (AV.rw 24 V1) (by simp)),trivial⟩ ⟨⟨_,rfl,W2o (by simp)⟩,trivial⟩ fun a2 ha2=>
 (fun (j:Nat) (V:Value) (hH2:j≤ps.length)=>.r 1<|.bd 28 ((j:Int)<(ps.length:Int)) (fun p3=>.idxM ps Qfh j (m:=(j:Int)) rfl (by omega) fun x2 hx2=>
 have tx2:=Qbd ps (j+1);have ux2:=W1y List.length (Qa9 hx2);have vx2:=(@W0e _ (ps.take j).flatten x2);.r 2<|.r 2<|.app 48 V ((ps.take j).flatten) x2 (by omega) (by omega) fun V2=>
 .r 1<|.run 2 [rng .i64 ((j:Int)+1)] ⟨Qal,trivial⟩<|
 .bk L2 (j,V) ((j+1),V2) (show (j+1)≤ps.length from (by show _≤_;omega)) (show ps.length-(j+1)<ps.length-j from (by omega)) [(27,aI ((j:Int)+1)),(6,.rw 24 V2 (((ps.take j).flatten).length+x2.length))] [(24,.row V2 90 4 (((ps.take j).flatten)++x2))] ⟨sR,sR,sO,W2n (W1y (AV.rw 24 V2) (by rw [Qa9 hx2,W0e])),trivial⟩ ⟨⟨_,rfl,W2o (by rw [Qa9 hx2])⟩,trivial⟩)
 <| fun p3=>.r 2<|.frz 24 [2] [] [V=V,(ps.take j).flatten.length=((ps.take j).flatten).length] ⟨rfl,(by first | rfl | (simp;done) | (simp;omega)),trivial⟩<|
 .f (.sl 4 false ps.flatten) [] (.sl 4 false ((ps.take j).flatten)) (by exact W2n (by rw [Qap (by omega)]))) a2.1 a2.2 ha2) a1 ha1)
theorem Qj0 {t t1 t2 t3:Bool} (A B C:List (List AV)):Sub (.sl 1 t [[.sl 4 t1 A],[.sl 4 t2 B],[.sl 4 t3 C]]) (.sl 1 false ([A,B,C].map Qfh)):=
 (Sub.sl2 (xs:=[[.sl 4 t1 A],[.sl 4 t2 B],[.sl 4 t3 C]]) (ys:=[A,B,C].map Qfh) rfl (fun i q p hq hp=>by
  match i,hq,hp with
  | 0,hq,hp=>simp [Qfh] at hq hp;subst hq hp;exact ⟨W2p _ _ _,trivial⟩
  | 1,hq,hp=>simp [Qfh] at hq hp;subst hq hp;exact ⟨W2p _ _ _,trivial⟩
  | 2,hq,hp=>simp [Qfh] at hq hp;subst hq hp;exact ⟨W2p _ _ _,trivial⟩
  | i+3,hq,_=>simp at hq)).trans (W2p _ _ _)
theorem Zgp:Elem prog 88 119 (.agg #[.int .i64 0,.bool false]) 2 16:=⟨Tryz.underlying88,by kernel_rfl,by kernel_rfl,by decide⟩
theorem Zds (n:Nat) (hn:n≤1000000) (w:World) :
  Calls prog 244 #[.slice none 0 0,.int .i64 (n:Int)] w (Qpe w 119 2 0 []):=by
 by_cases h0:0<n
 ·obtain ⟨G,w',hrun,hG1,hG2,hown,hb⟩:=Qge Zgp Tryz.underlying3 n h0 (by omega) (by omega) w;have HO:=Lib.hid (And.intro hown hb);have hi0:(0:Int)<(n:Int):=by omega
  clear hown hb
  go_enter func244,Tryz.ntmps244
  go_wp2_with (at_builtin;refine Qb7 rfl _ _ _ _ rfl _ _ _ _ rfl rfl (hrun _) ?_)
  go_ret
  exact ⟨_,rfl,HO.out.1,HO.out.2⟩
 ·obtain rfl:n=0:=by omega
  go_enter func244,Tryz.ntmps244
  go_wp2_with fail
  go_ret
  exact ⟨_,rfl,World.ownsRow_nil _ _ _ _,Below.refl _ _⟩
def Qfi (p:List (List AV)):List AV:=[.sl 2 false p]
theorem Qng (ps:List (List (List AV))) (hl:ps.length≤100000) (ht:ps.flatten.length≤100000):Qag prog 210 [.sl 1 false (ps.map Qfi)] (.sl 2 false ps.flatten):=by
 exact Qac func210 (
 .r 1<|.r 1<|.r 2<|.lm 10 ps Qfi<|.r 1<|let L1:Lp (Nat):=⟨fun a1=>⟨[(0,.sl 1 false (ps.map Qfi)),(9,.sl 1 false (ps.map Qfi)),(10,aI (ps.length:Int)),(3,aI ((ps.take a1).flatten.length:Int)),(11,aI (a1:Int))],[]⟩,fun a1=>ps.length-a1,fun a1=>a1≤ps.length⟩
 .lp L1 0 (show 0≤ps.length from W0j _) [(3,aI 0),(11,aI 0)] [] ⟨sR,sR,sR,sO,sO,trivial⟩ trivial fun a1 ha1=>
 (fun (k:Nat) (hH1:k≤ps.length)=>.r 1<|.bd 12 ((k:Int)<(ps.length:Int)) (fun p1=>.idxM ps Qfi k (m:=(k:Int)) rfl (by omega) fun x1 hx1=>
 have tx1:=Qbd ps (k+1);have ux1:=W1y List.length (Qa9 hx1);have vx1:=(@W0e _ (ps.take k).flatten x1);.r 2<|.run 5 [rng .i64 (((ps.take k).flatten.length:Int)+((x1).length:Int))] ⟨Qal,trivial⟩<|
 .r 2<|.bd 20 ((((ps.take k).flatten.length:Int)+((x1).length:Int))<0) (fun p2=>.no (by omega))
 <| fun p2=>.run 2 [rng .i64 ((k:Int)+1)] ⟨Qal,trivial⟩<|
 .bk L1 k (k+1) (show (k+1)≤ps.length from (by show _≤_;omega)) (show ps.length-(k+1)<ps.length-k from (by omega)) [(3,aI (((ps.take k).flatten.length:Int)+((x1).length:Int))),(11,aI ((k:Int)+1))] [] ⟨sR,sR,sR,W2n (W1y aI (by rw [Qa9 hx1,W0e];omega)),sO,trivial⟩ trivial)
 <| fun p1=>.r 1<|.cw (args0:=[aN,aI ((ps.take k).flatten.length:Int)]) (Qgr (fun w=>Zds ((ps.take k).flatten.length) (by have:=Qbd ps k;omega) w)) sr2 fun V1=>
 .r 1<|.r 2<|.lm 26 ps Qfi<|.r 1<|let L2:Lp (Nat × Value):=⟨fun a2=>⟨[(25,.sl 1 false (ps.map Qfi)),(26,aI (ps.length:Int)),(27,aI (a2.1:Int)),(6,.rw 24 a2.2 ((ps.take a2.1).flatten.length))],[(24,.row a2.2 119 2 ((ps.take a2.1).flatten))]⟩,fun a2=>ps.length-a2.1,fun a2=>a2.1≤ps.length⟩
 .lp L2 (0,V1) (show 0≤ps.length from W0j _) [(27,aI 0),(6,.rw 24 V1 0)] [(24,.row V1 119 2 ([]))] ⟨sR,sR,sO,W2n (W1y (AV.rw 24 V1) (by simp)),trivial⟩ ⟨⟨_,rfl,W2o (by simp)⟩,trivial⟩ fun a2 ha2=>
 (fun (j:Nat) (V:Value) (hH2:j≤ps.length)=>.r 1<|.bd 28 ((j:Int)<(ps.length:Int)) (fun p3=>.idxM ps Qfi j (m:=(j:Int)) rfl (by omega) fun x2 hx2=>
 have tx2:=Qbd ps (j+1);have ux2:=W1y List.length (Qa9 hx2);have vx2:=(@W0e _ (ps.take j).flatten x2);.r 2<|.r 2<|.app 16 V ((ps.take j).flatten) x2 (by omega) (by omega) fun V2=>
 .r 1<|.run 2 [rng .i64 ((j:Int)+1)] ⟨Qal,trivial⟩<|
 .bk L2 (j,V) ((j+1),V2) (show (j+1)≤ps.length from (by show _≤_;omega)) (show ps.length-(j+1)<ps.length-j from (by omega)) [(27,aI ((j:Int)+1)),(6,.rw 24 V2 (((ps.take j).flatten).length+x2.length))] [(24,.row V2 119 2 (((ps.take j).flatten)++x2))] ⟨sR,sR,sO,W2n (W1y (AV.rw 24 V2) (by rw [Qa9 hx2,W0e])),trivial⟩ ⟨⟨_,rfl,W2o (by rw [Qa9 hx2])⟩,trivial⟩)
 <| fun p3=>.r 2<|.frz 24 [2] [] [V=V,(ps.take j).flatten.length=((ps.take j).flatten).length] ⟨rfl,(by first | rfl | (simp;done) | (simp;omega)),trivial⟩<|
 .f (.sl 2 false ps.flatten) [] (.sl 2 false ((ps.take j).flatten)) (by exact W2n (by rw [Qap (by omega)]))) a2.1 a2.2 ha2) a1 ha1)
theorem Zlr {t t1 t2 t3:Bool} (A B C:List (List AV)):Sub (.sl 1 t [[.sl 2 t1 A],[.sl 2 t2 B],[.sl 2 t3 C]]) (.sl 1 false ([A,B,C].map Qfi)):=
 (Sub.sl2 (xs:=[[.sl 2 t1 A],[.sl 2 t2 B],[.sl 2 t3 C]]) (ys:=[A,B,C].map Qfi) rfl (fun i q p hq hp=>by
  match i,hq,hp with
  | 0,hq,hp=>simp [Qfi] at hq hp;subst hq hp;exact ⟨W2p _ _ _,trivial⟩
  | 1,hq,hp=>simp [Qfi] at hq hp;subst hq hp;exact ⟨W2p _ _ _,trivial⟩
  | 2,hq,hp=>simp [Qfi] at hq hp;subst hq hp;exact ⟨W2p _ _ _,trivial⟩
  | i+3,hq,_=>simp at hq)).trans (W2p _ _ _)
theorem Zmk (l:Dcs) (sq:Int) (y:Bool):insD l sq y=l.take (plQ l sq)++([(sq,y)]++l.drop (plQ l sq)):=rfl
theorem Qyb {l:Dcs} {M:Int} {k:Nat} {x:Int × Bool} (h:l[k]?=some x):Qed (l.take (k+1)) M=if x.1>M then Qed (l.take k) M++[x] else Qed (l.take k) M:=by
 unfold Qed;rw [Qaq h,W1j];by_cases hx:x.1>M
 ·rw [W1x hx];simp [hx]
 ·rw [W1w hx];simp [hx]
theorem Qs3 {rs:List TRow} {n ep:Int} {f:TRow→TRow} (h:thR rs n=false):Qb5 rs n ep f=rs.take (tplR rs n)++f ⟨n,ep,0,[]⟩ :: rs.drop (tplR rs n):=W1x h
theorem Qht {rs:List TRow} {n ep:Int} {f:TRow→TRow} {r:TRow} (h:thR rs n=true) (hr:rs[tplR rs n]?=some r):Qb5 rs n ep f=rs.take (tplR rs n)++f (if r.epoch=ep then r else ⟨n,ep,0,[]⟩) :: rs.drop (tplR rs n+1):=by
 unfold Qb5;rw [W1w (show ¬ (Qax (rs.map (·.client)) n).2=false by rw [show (Qax (rs.map (·.client)) n).2=true from h];decide),show rs[(Qax (rs.map (·.client)) n).1]?=some r from hr];rfl
theorem Qnf (r:TRow) (sq:Int) (yes:Bool) (hl:r.l.length≤90000):Qag prog 209 [.agg [aI r.client,aI r.epoch,aI r.done,.sl 2 false (r.l.map tdA)],.dptr [aI sq],.dptr [aB yes]] (.agg (trA (putW sq yes r))):=by
 have hpq:=Qr2 r.l sq;exact Qac func209 (
 .new fun b1=>.new fun b2=>.u 3 [b1]<|
 .call (Qoc r.l sq (by omega))<|
 .r 5<|.ord [0,1,2,3,4,5,6,8,9,10,11,7,12,13,14,15]<|.u 3 [b1]<|
 .slc 2 false (r.l.map tdA) none (some (plQ r.l sq:Int)) none 0 (plQ r.l sq) false (.inl ⟨rfl,rfl⟩) (.inr rfl) (.inl ⟨rfl,fun h=>by cases h⟩) (by have:=Qr2 r.l sq;first | omega | (rw [W0a];omega)) (by have:=Qr2 r.l sq;first | omega | (rw [W0a];omega))<|
 .u 6 [b1]<|
 .slc 2 false (r.l.map tdA) (some (plQ r.l sq:Int)) none none (plQ r.l sq) ((r.l.map tdA).length) false (.inr rfl) (.inl ⟨rfl,rfl⟩) (.inl ⟨rfl,fun h=>by cases h⟩) (by have:=Qr2 r.l sq;first | omega | (rw [W0a];omega)) (by have:=Qr2 r.l sq;first | omega | (rw [W0a];omega))<|
 .r 2<|.cs (args0:=[.sl 1 true ([[.sl 2 false (((r.l.map tdA).take (plQ r.l sq)).drop 0)],[.sl 2 true ([[aI sq,aB yes]])],[.sl 2 false (((r.l.map tdA).take ((r.l.map tdA).length)).drop (plQ r.l sq))]])]) (Qng [((r.l.map tdA).take (plQ r.l sq)).drop 0,[[aI sq,aB yes]],((r.l.map tdA).take ((r.l.map tdA).length)).drop (plQ r.l sq)] (by simp) (by simp only [W1f,List.flatten_nil,W0e,W0g,W0p,W0a,W0b,W0f];omega)) ⟨Zlr _ _ _,trivial⟩<|
 .u 2 [b1]<|
 .u 2 [b1,b2]<|
 .f (.agg (trA (putW sq yes r))) [b2] (.agg [aI r.client,aI r.epoch,aI r.done,.sl 2 false ([((r.l.map tdA).take (plQ r.l sq)).drop 0,[[aI sq,aB yes]],((r.l.map tdA).take ((r.l.map tdA).length)).drop (plQ r.l sq)].flatten)]) (by exact W2r ⟨sR,sR,sR,W2n (W1y (AV.sl 2 false) (by show _=(insD r.l sq yes).map tdA;rw [Zmk];simp [tdA,W16,W2e,Qap])),trivial⟩))
theorem Qm7 (r:TRow) (dn:Int) (hl:r.l.length≤90000):Qag prog 137 [.agg [aI r.client,aI r.epoch,aI r.done,.sl 2 false (r.l.map tdA)],.dptr [aI dn]] (.agg (trA (cutW dn r))):=by
 exact Qac func137 (
 .new fun b1=>.new fun b2=>.u 3 [b1]<|
 .op (mxR) (r.done,dn,some 10) (fun (_:Unit) σ=>σ.put (some 10) (aI (if dn>r.done then dn else r.done))) (Qt1) fun _=>
 .u 2 [b1]<|
 .r 1<|.u 3 [b1]<|
 .lm 14 r.l tdA<|.r 1<|.rowNil 4 4 119 2<|let L1:Lp (Nat × Value):=⟨fun a1=>⟨[(2,.ptr 2 b1 0),(3,.ptr 3 b2 0),(13,.sl 2 false (r.l.map tdA)),(14,aI (r.l.length:Int)),(15,aI (a1.1:Int)),(4,.rw 4 a1.2 ((Qed (r.l.take a1.1) (if dn>r.done then dn else r.done)).length))],[(2,.box b1 90 [aI r.client,aI r.epoch,aI (if dn>r.done then dn else r.done),.sl 2 false (r.l.map tdA)]),(3,.box b2 90 [aI 0,aI 0,aI 0,aN]),(4,.row a1.2 119 2 ((Qed (r.l.take a1.1) (if dn>r.done then dn else r.done)).map tdA))]⟩,fun a1=>r.l.length-a1.1,fun a1=>a1.1≤r.l.length⟩
 .lp L1 (0,.slice none 0 0) (show 0≤r.l.length from W0j _) [(15,aI 0),(4,.rw 4 (.slice none 0 0) 0)] [(4,.row (.slice none 0 0) 119 2 ([]))] ⟨sR,sR,sR,sR,sO,sR,trivial⟩ ⟨sB,sB,⟨_,rfl,SubB.refl _⟩,trivial⟩ fun a1 ha1=>
 (fun (k:Nat) (V:Value) (hH1:k≤r.l.length)=>have hab:(Qed (r.l.take k) (if dn>r.done then dn else r.done)).length≤k:=(by unfold Qed;exact W09 (W2g _ _) (by rw [W0g];omega));.r 1<|.bd 16 ((k:Int)<(r.l.length:Int)) (fun p1=>.idxM r.l tdA k (m:=(k:Int)) rfl (by omega) fun x1 hx1=>
 .r 1<|.new fun b3=>.u 1 [b3]<|
 .u 5 [b3,b1]<|
 .bd 23 (x1.1>(if dn>r.done then dn else r.done)) (fun p2=>.u 3 [b3]<|
 .app 16 V ((Qed (r.l.take k) (if dn>r.done then dn else r.done)).map tdA) ([[aI x1.1,aB x1.2]]) (by simp only [W0a,W0b,W0f];omega) (by simp only [W0a,W0b,W0f];omega) fun V1=>
 .r 1<|.run 2 [rng .i64 ((k:Int)+1)] ⟨Qal,trivial⟩<|
 .bk L1 (k,V) ((k+1),V1) (show (k+1)≤r.l.length from (by show _≤_;omega)) (show r.l.length-(k+1)<r.l.length-k from (by omega)) [(15,aI ((k:Int)+1)),(4,.rw 4 V1 (((Qed (r.l.take k) (if dn>r.done then dn else r.done)).map tdA).length+([[aI x1.1,aB x1.2]]:List (List AV)).length))] [(4,.row V1 119 2 (((Qed (r.l.take k) (if dn>r.done then dn else r.done)).map tdA)++([[aI x1.1,aB x1.2]])))] ⟨sR,sR,sR,sR,sO,W2n (W1y (AV.rw 4 V1) (by rw [Qyb hx1,W1x p2]<;>simp)),trivial⟩ ⟨sB,sB,⟨_,rfl,W2o (by rw [Qyb hx1,W1x p2]<;>simp [tdA])⟩,trivial⟩)
 <| fun p2=>.run 2 [rng .i64 ((k:Int)+1)] ⟨Qal,trivial⟩<|
 .bk L1 (k,V) ((k+1),V) (show (k+1)≤r.l.length from (by show _≤_;omega)) (show r.l.length-(k+1)<r.l.length-k from (by omega)) [(15,aI ((k:Int)+1)),(4,.rw 4 V ((Qed (r.l.take k) (if dn>r.done then dn else r.done)).length))] [(4,.row V 119 2 ((Qed (r.l.take k) (if dn>r.done then dn else r.done)).map tdA))] ⟨sR,sR,sR,sR,sO,W2n (W1y (AV.rw 4 V) (by rw [Qyb hx1,W1w p2]<;>simp)),trivial⟩ ⟨sB,sB,⟨_,rfl,W2o (by rw [Qyb hx1,W1w p2]<;>simp [tdA])⟩,trivial⟩)
 <| fun p1=>.u 3 [b1]<|
 .u 2 [b1,b2]<|
 .frz 4 [3] [3] [V=V,(Qed (r.l.take k) (if dn>r.done then dn else r.done)).length=((Qed (r.l.take k) (if dn>r.done then dn else r.done)).map tdA).length] ⟨rfl,(by first | rfl | (simp;done) | (simp;omega)),trivial⟩<|
 .f (.agg (trA (cutW dn r))) [b2] (.agg [aI r.client,aI r.epoch,aI (if dn>r.done then dn else r.done),.sl 2 false ((Qed (r.l.take k) (if dn>r.done then dn else r.done)).map tdA)]) (by
  have hm:max r.done dn=(if dn>r.done then dn else r.done):=by split<;>omega
  exact W2r ⟨sR,sR,W2n (W1y aI hm.symm),W2n (W1y (AV.sl 2 false) (by show _=(Qed r.l (max r.done dn)).map tdA;rw [hm,Qap (by omega)])),trivial⟩)) a1.1 a1.2 ha1)
def noR (n ep:Int):TRow:=⟨n,ep,0,[]⟩
theorem Qm6 (rs:List TRow) (n ep sq:Int):Qn1 rs n ep sq=((!thR rs n&&decide (64≤rs.length))||decide (256≤(ownR rs n ep sq).l.length)):=by
 unfold Qn1 ownR thR;cases (ownF rs n ep sq).1 with
 | none=>simp
 | some r=>rfl
theorem Zm4 {rs:List TRow} {n ep sq:Int} {y:Bool} (h:¬ (askF rs n ep sq).2=6):Qa0 rs n ep sq y=(rs,askF rs n ep sq):=W1x h
theorem Qqr {rs:List TRow} {n ep sq:Int} {y:Bool} (h:(askF rs n ep sq).2=6) (hf:Qn1 rs n ep sq=true):Qa0 rs n ep sq y=(rs,false,12):=(W1w (fun e=>e h)).trans (W1x hf)
theorem Zku {rs:List TRow} {n ep sq:Int} {y:Bool} (h:(askF rs n ep sq).2=6) (hf:¬ Qn1 rs n ep sq=true):Qa0 rs n ep sq y=(Qb5 rs n ep (putW sq y),y,0):=(W1w (fun e=>e h)).trans (W1w hf)
theorem Zmr {rs:List TRow} {n ep dn:Int} (h:(ownF rs n ep dn).1=none):Qbg rs n ep dn=(rs,(ownF rs n ep dn).2):=W1x h
theorem for_do {rs:List TRow} {n ep dn:Int} {r:TRow} (h:ownF rs n ep dn=(some r,0)):Qbg rs n ep dn=(Qb5 rs n ep (cutW dn),0):=W1w (by rw [h];intro e;cases e)
theorem Qs0 (rs:List TRow) (n ep:Int) (sq:Int) (yes:Bool) (okr:OkRw rs) (hlr:rs.length≤90000) (hr9:∀ r∈rs,r.l.length≤90000):Qag prog 136 [.sl 4 false (rs.map trA),aI n,aI ep,.clo 209 [.dptr [aI sq],.dptr [aB yes]]] (.sl 4 false ((Qb5 rs n ep (putW sq yes)).map trA)):=by
 have hpr0:=Qcp rs n;exact Qac func136 (
 .r 1<|.r 3<|.new fun b1=>.u 1 [b1]<|
 .r 2<|.call (Qhf rs n (by have:=okr.1;omega))<|
 .r 5<|.r 2<|.r 1<|.br 23 (thR rs n) (fun q1=>have p1:=booT q1;.run 3 [rng .i64 ((tplR rs n:Int)+1)] ⟨Qal,trivial⟩<|
 .r 2<|.idxM rs trA (tplR rs n) (m:=(tplR rs n:Int)) rfl (Qcd (by assumption)) fun x1 hx1=>
 .r 4<|.br 32 (x1.epoch==ep) (fun q2=>have p2:=beqT q2;.r 2<|.idx (tplR rs n) (m:=(tplR rs n:Int)) (xs:=rs.map trA) (e:=trA x1) rfl (map_some hx1)<|
 .u 2 [b1]<|
 .ord [0,1,2,3,4,7,8,9,5,6,10,11,12]<|.r 2<|.slc 4 false (rs.map trA) none (some (tplR rs n:Int)) none 0 (tplR rs n) false (.inl ⟨rfl,rfl⟩) (.inr rfl) (.inl ⟨rfl,fun h=>by cases h⟩) (by have hpr:=Qcp rs n;(try have hpt:=Qcd (by assumption:thR rs n=true));first | omega | (rw [W0a];omega)) (by have hpr:=Qcp rs n;(try have hpt:=Qcd (by assumption:thR rs n=true));first | omega | (rw [W0a];omega))<|
 .u 4 [b1]<|
 .slc 4 false (rs.map trA) (some ((tplR rs n:Int)+1)) none none (tplR rs n+1) ((rs.map trA).length) false (.inr (W1y some (by omega))) (.inl ⟨rfl,rfl⟩) (.inl ⟨rfl,fun h=>by cases h⟩) (by have hpr:=Qcp rs n;(try have hpt:=Qcd (by assumption:thR rs n=true));first | omega | (rw [W0a];omega)) (by have hpr:=Qcp rs n;(try have hpt:=Qcd (by assumption:thR rs n=true));first | omega | (rw [W0a];omega))<|
 .call (Qnf x1 sq yes (hr9 x1 (W0h hx1)))<|
 .r 2<|.cs (args0:=[.sl 1 true ([[.sl 4 false (((rs.map trA).take (tplR rs n)).drop 0)],[.sl 4 true ([[aI ((putW sq yes x1).client),aI ((putW sq yes x1).epoch),aI ((putW sq yes x1).done),.sl 2 false ((putW sq yes x1).l.map tdA)]])],[.sl 4 false (((rs.map trA).take ((rs.map trA).length)).drop (tplR rs n+1))]])]) (Qci [((rs.map trA).take (tplR rs n)).drop 0,[[aI ((putW sq yes x1).client),aI ((putW sq yes x1).epoch),aI ((putW sq yes x1).done),.sl 2 false ((putW sq yes x1).l.map tdA)]],((rs.map trA).take ((rs.map trA).length)).drop (tplR rs n+1)] (by simp) (by simp only [W1f,List.flatten_nil,W0e,W0g,W0p,W0a,W0b,W0f];omega)) ⟨Qj0 _ _ _,trivial⟩<|
 .r 1<|.f (.sl 4 false ((Qb5 rs n ep (putW sq yes)).map trA)) [] (.sl 4 false ([((rs.map trA).take (tplR rs n)).drop 0,[[aI ((putW sq yes x1).client),aI ((putW sq yes x1).epoch),aI ((putW sq yes x1).done),.sl 2 false ((putW sq yes x1).l.map tdA)]],((rs.map trA).take ((rs.map trA).length)).drop (tplR rs n+1)].flatten)) (by
  rw [Qht q1 hx1,W1x p2];exact W2n (W1y (AV.sl 4 false) (by simp [trA,noR,W16,W2e,Qap]))))
 <| fun q2=>have p2:=beqF q2;.ord [0,1,2,3,4,7,8,9,5,6,10,11,12]<|.r 2<|.slc 4 false (rs.map trA) none (some (tplR rs n:Int)) none 0 (tplR rs n) false (.inl ⟨rfl,rfl⟩) (.inr rfl) (.inl ⟨rfl,fun h=>by cases h⟩) (by have hpr:=Qcp rs n;(try have hpt:=Qcd (by assumption:thR rs n=true));first | omega | (rw [W0a];omega)) (by have hpr:=Qcp rs n;(try have hpt:=Qcd (by assumption:thR rs n=true));first | omega | (rw [W0a];omega))<|
 .u 4 [b1]<|
 .slc 4 false (rs.map trA) (some ((tplR rs n:Int)+1)) none none (tplR rs n+1) ((rs.map trA).length) false (.inr (W1y some (by omega))) (.inl ⟨rfl,rfl⟩) (.inl ⟨rfl,fun h=>by cases h⟩) (by have hpr:=Qcp rs n;(try have hpt:=Qcd (by assumption:thR rs n=true));first | omega | (rw [W0a];omega)) (by have hpr:=Qcp rs n;(try have hpt:=Qcd (by assumption:thR rs n=true));first | omega | (rw [W0a];omega))<|
 .cs (args0:=[.agg [aI n,aI ep,aI 0,aN],.dptr [aI sq],.dptr [aB yes]]) (Qnf (noR n ep) sq yes (W0j _)) ⟨W2r ⟨sR,sR,sR,Sub.nil _ _,trivial⟩,sR,sR,trivial⟩<|
 .r 2<|.cs (args0:=[.sl 1 true ([[.sl 4 false (((rs.map trA).take (tplR rs n)).drop 0)],[.sl 4 true ([[aI ((putW sq yes (noR n ep)).client),aI ((putW sq yes (noR n ep)).epoch),aI ((putW sq yes (noR n ep)).done),.sl 2 false ((putW sq yes (noR n ep)).l.map tdA)]])],[.sl 4 false (((rs.map trA).take ((rs.map trA).length)).drop (tplR rs n+1))]])]) (Qci [((rs.map trA).take (tplR rs n)).drop 0,[[aI ((putW sq yes (noR n ep)).client),aI ((putW sq yes (noR n ep)).epoch),aI ((putW sq yes (noR n ep)).done),.sl 2 false ((putW sq yes (noR n ep)).l.map tdA)]],((rs.map trA).take ((rs.map trA).length)).drop (tplR rs n+1)] (by simp) (by simp only [W1f,List.flatten_nil,W0e,W0g,W0p,W0a,W0b,W0f];omega)) ⟨Qj0 _ _ _,trivial⟩<|
 .r 1<|.f (.sl 4 false ((Qb5 rs n ep (putW sq yes)).map trA)) [] (.sl 4 false ([((rs.map trA).take (tplR rs n)).drop 0,[[aI ((putW sq yes (noR n ep)).client),aI ((putW sq yes (noR n ep)).epoch),aI ((putW sq yes (noR n ep)).done),.sl 2 false ((putW sq yes (noR n ep)).l.map tdA)]],((rs.map trA).take ((rs.map trA).length)).drop (tplR rs n+1)].flatten)) (by
  rw [Qht q1 hx1,W1w p2];exact W2n (W1y (AV.sl 4 false) (by simp [trA,noR,W16,W2e,Qap]))))
 <| fun q1=>have p1:=booF q1;.ord [0,1,2,3,4,7,8,9,5,6,10,11,12]<|.r 2<|.slc 4 false (rs.map trA) none (some (tplR rs n:Int)) none 0 (tplR rs n) false (.inl ⟨rfl,rfl⟩) (.inr rfl) (.inl ⟨rfl,fun h=>by cases h⟩) (by have hpr:=Qcp rs n;(try have hpt:=Qcd (by assumption:thR rs n=true));first | omega | (rw [W0a];omega)) (by have hpr:=Qcp rs n;(try have hpt:=Qcd (by assumption:thR rs n=true));first | omega | (rw [W0a];omega))<|
 .u 4 [b1]<|
 .slc 4 false (rs.map trA) (some (tplR rs n:Int)) none none (tplR rs n) ((rs.map trA).length) false (.inr rfl) (.inl ⟨rfl,rfl⟩) (.inl ⟨rfl,fun h=>by cases h⟩) (by have hpr:=Qcp rs n;(try have hpt:=Qcd (by assumption:thR rs n=true));first | omega | (rw [W0a];omega)) (by have hpr:=Qcp rs n;(try have hpt:=Qcd (by assumption:thR rs n=true));first | omega | (rw [W0a];omega))<|
 .cs (args0:=[.agg [aI n,aI ep,aI 0,aN],.dptr [aI sq],.dptr [aB yes]]) (Qnf (noR n ep) sq yes (W0j _)) ⟨W2r ⟨sR,sR,sR,Sub.nil _ _,trivial⟩,sR,sR,trivial⟩<|
 .r 2<|.cs (args0:=[.sl 1 true ([[.sl 4 false (((rs.map trA).take (tplR rs n)).drop 0)],[.sl 4 true ([[aI ((putW sq yes (noR n ep)).client),aI ((putW sq yes (noR n ep)).epoch),aI ((putW sq yes (noR n ep)).done),.sl 2 false ((putW sq yes (noR n ep)).l.map tdA)]])],[.sl 4 false (((rs.map trA).take ((rs.map trA).length)).drop (tplR rs n))]])]) (Qci [((rs.map trA).take (tplR rs n)).drop 0,[[aI ((putW sq yes (noR n ep)).client),aI ((putW sq yes (noR n ep)).epoch),aI ((putW sq yes (noR n ep)).done),.sl 2 false ((putW sq yes (noR n ep)).l.map tdA)]],((rs.map trA).take ((rs.map trA).length)).drop (tplR rs n)] (by simp) (by simp only [W1f,List.flatten_nil,W0e,W0g,W0p,W0a,W0b,W0f];omega)) ⟨Qj0 _ _ _,trivial⟩<|
 .r 1<|.f (.sl 4 false ((Qb5 rs n ep (putW sq yes)).map trA)) [] (.sl 4 false ([((rs.map trA).take (tplR rs n)).drop 0,[[aI ((putW sq yes (noR n ep)).client),aI ((putW sq yes (noR n ep)).epoch),aI ((putW sq yes (noR n ep)).done),.sl 2 false ((putW sq yes (noR n ep)).l.map tdA)]],((rs.map trA).take ((rs.map trA).length)).drop (tplR rs n)].flatten)) (by
  rw [Qs3 q1];exact W2n (W1y (AV.sl 4 false) (by simp [trA,noR,W16,W2e,Qap]))))
theorem Zfh (rs:List TRow) (n ep:Int) (dn:Int) (okr:OkRw rs) (hlr:rs.length≤90000) (hr9:∀ r∈rs,r.l.length≤90000):Qag prog 136 [.sl 4 false (rs.map trA),aI n,aI ep,.clo 137 [.dptr [aI dn]]] (.sl 4 false ((Qb5 rs n ep (cutW dn)).map trA)):=by
 have hpr0:=Qcp rs n;exact Qac func136 (
 .r 1<|.r 3<|.new fun b1=>.u 1 [b1]<|
 .r 2<|.call (Qhf rs n (by have:=okr.1;omega))<|
 .r 5<|.r 2<|.r 1<|.br 23 (thR rs n) (fun q1=>have p1:=booT q1;.run 3 [rng .i64 ((tplR rs n:Int)+1)] ⟨Qal,trivial⟩<|
 .r 2<|.idxM rs trA (tplR rs n) (m:=(tplR rs n:Int)) rfl (Qcd (by assumption)) fun x1 hx1=>
 .r 4<|.br 32 (x1.epoch==ep) (fun q2=>have p2:=beqT q2;.r 2<|.idx (tplR rs n) (m:=(tplR rs n:Int)) (xs:=rs.map trA) (e:=trA x1) rfl (map_some hx1)<|
 .u 2 [b1]<|
 .ord [0,1,2,3,4,7,8,9,5,6,10,11,12]<|.r 2<|.slc 4 false (rs.map trA) none (some (tplR rs n:Int)) none 0 (tplR rs n) false (.inl ⟨rfl,rfl⟩) (.inr rfl) (.inl ⟨rfl,fun h=>by cases h⟩) (by have hpr:=Qcp rs n;(try have hpt:=Qcd (by assumption:thR rs n=true));first | omega | (rw [W0a];omega)) (by have hpr:=Qcp rs n;(try have hpt:=Qcd (by assumption:thR rs n=true));first | omega | (rw [W0a];omega))<|
 .u 4 [b1]<|
 .slc 4 false (rs.map trA) (some ((tplR rs n:Int)+1)) none none (tplR rs n+1) ((rs.map trA).length) false (.inr (W1y some (by omega))) (.inl ⟨rfl,rfl⟩) (.inl ⟨rfl,fun h=>by cases h⟩) (by have hpr:=Qcp rs n;(try have hpt:=Qcd (by assumption:thR rs n=true));first | omega | (rw [W0a];omega)) (by have hpr:=Qcp rs n;(try have hpt:=Qcd (by assumption:thR rs n=true));first | omega | (rw [W0a];omega))<|
 .call (Qm7 x1 dn (hr9 x1 (W0h hx1)))<|
 .r 2<|.cs (args0:=[.sl 1 true ([[.sl 4 false (((rs.map trA).take (tplR rs n)).drop 0)],[.sl 4 true ([[aI ((cutW dn x1).client),aI ((cutW dn x1).epoch),aI ((cutW dn x1).done),.sl 2 false ((cutW dn x1).l.map tdA)]])],[.sl 4 false (((rs.map trA).take ((rs.map trA).length)).drop (tplR rs n+1))]])]) (Qci [((rs.map trA).take (tplR rs n)).drop 0,[[aI ((cutW dn x1).client),aI ((cutW dn x1).epoch),aI ((cutW dn x1).done),.sl 2 false ((cutW dn x1).l.map tdA)]],((rs.map trA).take ((rs.map trA).length)).drop (tplR rs n+1)] (by simp) (by simp only [W1f,List.flatten_nil,W0e,W0g,W0p,W0a,W0b,W0f];omega)) ⟨Qj0 _ _ _,trivial⟩<|
 .r 1<|.f (.sl 4 false ((Qb5 rs n ep (cutW dn)).map trA)) [] (.sl 4 false ([((rs.map trA).take (tplR rs n)).drop 0,[[aI ((cutW dn x1).client),aI ((cutW dn x1).epoch),aI ((cutW dn x1).done),.sl 2 false ((cutW dn x1).l.map tdA)]],((rs.map trA).take ((rs.map trA).length)).drop (tplR rs n+1)].flatten)) (by
  rw [Qht q1 hx1,W1x p2];exact W2n (W1y (AV.sl 4 false) (by simp [trA,noR,W16,W2e,Qap]))))
 <| fun q2=>have p2:=beqF q2;.ord [0,1,2,3,4,7,8,9,5,6,10,11,12]<|.r 2<|.slc 4 false (rs.map trA) none (some (tplR rs n:Int)) none 0 (tplR rs n) false (.inl ⟨rfl,rfl⟩) (.inr rfl) (.inl ⟨rfl,fun h=>by cases h⟩) (by have hpr:=Qcp rs n;(try have hpt:=Qcd (by assumption:thR rs n=true));first | omega | (rw [W0a];omega)) (by have hpr:=Qcp rs n;(try have hpt:=Qcd (by assumption:thR rs n=true));first | omega | (rw [W0a];omega))<|
 .u 4 [b1]<|
 .slc 4 false (rs.map trA) (some ((tplR rs n:Int)+1)) none none (tplR rs n+1) ((rs.map trA).length) false (.inr (W1y some (by omega))) (.inl ⟨rfl,rfl⟩) (.inl ⟨rfl,fun h=>by cases h⟩) (by have hpr:=Qcp rs n;(try have hpt:=Qcd (by assumption:thR rs n=true));first | omega | (rw [W0a];omega)) (by have hpr:=Qcp rs n;(try have hpt:=Qcd (by assumption:thR rs n=true));first | omega | (rw [W0a];omega))<|
 .cs (args0:=[.agg [aI n,aI ep,aI 0,aN],.dptr [aI dn]]) (Qm7 (noR n ep) dn (W0j _)) ⟨W2r ⟨sR,sR,sR,Sub.nil _ _,trivial⟩,sR,trivial⟩<|
 .r 2<|.cs (args0:=[.sl 1 true ([[.sl 4 false (((rs.map trA).take (tplR rs n)).drop 0)],[.sl 4 true ([[aI ((cutW dn (noR n ep)).client),aI ((cutW dn (noR n ep)).epoch),aI ((cutW dn (noR n ep)).done),.sl 2 false ((cutW dn (noR n ep)).l.map tdA)]])],[.sl 4 false (((rs.map trA).take ((rs.map trA).length)).drop (tplR rs n+1))]])]) (Qci [((rs.map trA).take (tplR rs n)).drop 0,[[aI ((cutW dn (noR n ep)).client),aI ((cutW dn (noR n ep)).epoch),aI ((cutW dn (noR n ep)).done),.sl 2 false ((cutW dn (noR n ep)).l.map tdA)]],((rs.map trA).take ((rs.map trA).length)).drop (tplR rs n+1)] (by simp) (by simp only [W1f,List.flatten_nil,W0e,W0g,W0p,W0a,W0b,W0f];omega)) ⟨Qj0 _ _ _,trivial⟩<|
 .r 1<|.f (.sl 4 false ((Qb5 rs n ep (cutW dn)).map trA)) [] (.sl 4 false ([((rs.map trA).take (tplR rs n)).drop 0,[[aI ((cutW dn (noR n ep)).client),aI ((cutW dn (noR n ep)).epoch),aI ((cutW dn (noR n ep)).done),.sl 2 false ((cutW dn (noR n ep)).l.map tdA)]],((rs.map trA).take ((rs.map trA).length)).drop (tplR rs n+1)].flatten)) (by
  rw [Qht q1 hx1,W1w p2];exact W2n (W1y (AV.sl 4 false) (by simp [trA,noR,W16,W2e,Qap]))))
 <| fun q1=>have p1:=booF q1;.ord [0,1,2,3,4,7,8,9,5,6,10,11,12]<|.r 2<|.slc 4 false (rs.map trA) none (some (tplR rs n:Int)) none 0 (tplR rs n) false (.inl ⟨rfl,rfl⟩) (.inr rfl) (.inl ⟨rfl,fun h=>by cases h⟩) (by have hpr:=Qcp rs n;(try have hpt:=Qcd (by assumption:thR rs n=true));first | omega | (rw [W0a];omega)) (by have hpr:=Qcp rs n;(try have hpt:=Qcd (by assumption:thR rs n=true));first | omega | (rw [W0a];omega))<|
 .u 4 [b1]<|
 .slc 4 false (rs.map trA) (some (tplR rs n:Int)) none none (tplR rs n) ((rs.map trA).length) false (.inr rfl) (.inl ⟨rfl,rfl⟩) (.inl ⟨rfl,fun h=>by cases h⟩) (by have hpr:=Qcp rs n;(try have hpt:=Qcd (by assumption:thR rs n=true));first | omega | (rw [W0a];omega)) (by have hpr:=Qcp rs n;(try have hpt:=Qcd (by assumption:thR rs n=true));first | omega | (rw [W0a];omega))<|
 .cs (args0:=[.agg [aI n,aI ep,aI 0,aN],.dptr [aI dn]]) (Qm7 (noR n ep) dn (W0j _)) ⟨W2r ⟨sR,sR,sR,Sub.nil _ _,trivial⟩,sR,trivial⟩<|
 .r 2<|.cs (args0:=[.sl 1 true ([[.sl 4 false (((rs.map trA).take (tplR rs n)).drop 0)],[.sl 4 true ([[aI ((cutW dn (noR n ep)).client),aI ((cutW dn (noR n ep)).epoch),aI ((cutW dn (noR n ep)).done),.sl 2 false ((cutW dn (noR n ep)).l.map tdA)]])],[.sl 4 false (((rs.map trA).take ((rs.map trA).length)).drop (tplR rs n))]])]) (Qci [((rs.map trA).take (tplR rs n)).drop 0,[[aI ((cutW dn (noR n ep)).client),aI ((cutW dn (noR n ep)).epoch),aI ((cutW dn (noR n ep)).done),.sl 2 false ((cutW dn (noR n ep)).l.map tdA)]],((rs.map trA).take ((rs.map trA).length)).drop (tplR rs n)] (by simp) (by simp only [W1f,List.flatten_nil,W0e,W0g,W0p,W0a,W0b,W0f];omega)) ⟨Qj0 _ _ _,trivial⟩<|
 .r 1<|.f (.sl 4 false ((Qb5 rs n ep (cutW dn)).map trA)) [] (.sl 4 false ([((rs.map trA).take (tplR rs n)).drop 0,[[aI ((cutW dn (noR n ep)).client),aI ((cutW dn (noR n ep)).epoch),aI ((cutW dn (noR n ep)).done),.sl 2 false ((cutW dn (noR n ep)).l.map tdA)]],((rs.map trA).take ((rs.map trA).length)).drop (tplR rs n)].flatten)) (by
  rw [Qs3 q1];exact W2n (W1y (AV.sl 4 false) (by simp [trA,noR,W16,W2e,Qap]))))
theorem Qvf (rs:List TRow) (n ep sq:Int) (yes:Bool) (okr:OkRw rs) (hlr:rs.length≤90000) (hr9:∀ r∈rs,r.l.length≤90000):Qag prog 168 [.sl 4 false (rs.map trA),aI n,aI ep,aI sq,aB yes] (.tup [.sl 4 false ((Qa0 rs n ep sq yes).1.map trA),aB (Qa0 rs n ep sq yes).2.1,aI (Qa0 rs n ep sq yes).2.2]):=by
 exact Qac func168 (
 .new fun b1=>.new fun b2=>.r 3<|.u 4 [b1]<|
 .call (Qqz rs n ep sq okr)<|
 .r 5<|.r 2<|.bn 28 ((askF rs n ep sq).2) 6 (fun p1=>.r 6<|.f (.tup [.sl 4 false ((Qa0 rs n ep sq yes).1.map trA),aB (Qa0 rs n ep sq yes).2.1,aI (Qa0 rs n ep sq yes).2.2]) [] (.tup [.sl 4 false (rs.map trA),aB ((askF rs n ep sq).1),aI ((askF rs n ep sq).2)]) (by
  rw [Zm4 p1];exact sR))
 <| fun p1=>.r 2<|.call (Qhf rs n (by have:=okr.1;omega))<|
 .r 5<|.u 4 [b1]<|
 .call (Qpw rs n ep sq okr)<|
 .r 3<|.new fun b3=>.u 2 [b3]<|
 .r 3<|.nbb 48 (thR rs n) (fun p2=>.r 2<|.lm 50 rs trA<|.r 3<|.bd 53 ((rs.length:Int)≥64) (fun p3=>.r 5<|.r 4<|.f (.tup [.sl 4 false ((Qa0 rs n ep sq yes).1.map trA),aB (Qa0 rs n ep sq yes).2.1,aI (Qa0 rs n ep sq yes).2.2]) [] (.tup [.sl 4 false (rs.map trA),aB false,aI 12]) (by
  rw [Qqr p1 (by rw [Qm6];simp_all<;>omega)];exact W2q sr3))
 <| fun p3=>.u 3 [b3]<|
 .lm 56 ((ownR rs n ep sq).l) tdA<|.r 2<|.bd 58 ((((ownR rs n ep sq).l).length:Int)≥256) (fun p4=>.r 4<|.f (.tup [.sl 4 false ((Qa0 rs n ep sq yes).1.map trA),aB (Qa0 rs n ep sq yes).2.1,aI (Qa0 rs n ep sq yes).2.2]) [] (.tup [.sl 4 false (rs.map trA),aB false,aI 12]) (by
  rw [Qqr p1 (by rw [Qm6];simp_all<;>omega)];exact W2q sr3))
 <| fun p4=>.frz 8 [0,1,2,8,9,10,11,12,28,48,53,58] [9] [b1=b1] rt1<|
 .frz 9 [0,1,2,8,9,10,11,12,28,48,53,58] [] [b2=b2] rt1<|
 .ord [0,1,2,3,5,4,6,7,8]<|.r 5<|.call (Qs0 rs n ep sq yes okr hlr hr9)<|
 .r 3<|.f (.tup [.sl 4 false ((Qa0 rs n ep sq yes).1.map trA),aB (Qa0 rs n ep sq yes).2.1,aI (Qa0 rs n ep sq yes).2.2]) [] (.tup [.sl 4 false ((Qb5 rs n ep (putW sq yes)).map trA),aB yes,aI 0]) (by
  rw [Zku p1 (by rw [Qm6];simp_all<;>omega)];exact W2q sr3))
 <| fun p2=>.u 8 [b3]<|
 .lm 56 ((ownR rs n ep sq).l) tdA<|.r 2<|.bd 58 ((((ownR rs n ep sq).l).length:Int)≥256) (fun p5=>.r 4<|.f (.tup [.sl 4 false ((Qa0 rs n ep sq yes).1.map trA),aB (Qa0 rs n ep sq yes).2.1,aI (Qa0 rs n ep sq yes).2.2]) [] (.tup [.sl 4 false (rs.map trA),aB false,aI 12]) (by
  rw [Qqr p1 (by rw [Qm6];simp_all<;>omega)];exact W2q sr3))
 <| fun p5=>.frz 8 [0,1,2,8,9,10,11,12,28,48,52,53,58] [9] [b1=b1] rt1<|
 .frz 9 [0,1,2,8,9,10,11,12,28,48,52,53,58] [] [b2=b2] rt1<|
 .ord [0,1,2,3,5,4,6,7,8]<|.r 5<|.call (Qs0 rs n ep sq yes okr hlr hr9)<|
 .r 3<|.f (.tup [.sl 4 false ((Qa0 rs n ep sq yes).1.map trA),aB (Qa0 rs n ep sq yes).2.1,aI (Qa0 rs n ep sq yes).2.2]) [] (.tup [.sl 4 false ((Qb5 rs n ep (putW sq yes)).map trA),aB yes,aI 0]) (by
  rw [Zku p1 (by rw [Qm6];simp_all<;>omega)];exact W2q sr3))
theorem Qux (rs:List TRow) (n ep dn:Int) (okr:OkRw rs) (hlr:rs.length≤90000) (hr9:∀ r∈rs,r.l.length≤90000):Qag prog 107 [.sl 4 false (rs.map trA),aI n,aI ep,aI dn] (.tup [.sl 4 false ((Qbg rs n ep dn).1.map trA),aI (Qbg rs n ep dn).2]):=by
 exact Qac func107 (
 .new fun b1=>.r 2<|.u 4 [b1]<|
 .call (Qpw rs n ep dn okr)<|
 .r 3<|.new fun b2=>.u 2 [b2]<|
 .r 2<|.bn 21 ((ownF rs n ep dn).2) 0 (fun p1=>.r 4<|.f (.tup [.sl 4 false ((Qbg rs n ep dn).1.map trA),aI (Qbg rs n ep dn).2]) [] (.tup [.sl 4 false (rs.map trA),aI ((ownF rs n ep dn).2)]) (by
  rw [Zmr ((Qr3 rs okr n ep dn).2.2 p1)];exact sR))
 <| fun p1=>.ex ((Qr3 rs okr n ep dn).2.1 p1) fun r0 hr0=>
 .frz 7 [0,1,2,7,8,9,21] [] [b1=b1] rt1<|
 .r 4<|.call (Zfh rs n ep dn okr hlr hr9)<|
 .r 2<|.f (.tup [.sl 4 false ((Qbg rs n ep dn).1.map trA),aI (Qbg rs n ep dn).2]) [] (.tup [.sl 4 false ((Qb5 rs n ep (cutW dn)).map trA),aI 0]) (by
  rw [for_do hr0.2];exact W2q sr2))
def SrtC (rs:List TRow):Prop:=rs.Pairwise (fun a b=>a.client<b.client)
def SrtD (l:List (Int × Bool)):Prop:=l.Pairwise (fun a b=>a.1<b.1)
def Zai (r:TRow):Prop:=0≤r.client∧1≤r.epoch∧0≤r.done∧r.l.length≤256∧SrtD r.l∧∀ d∈r.l,r.done<d.1
def Good (rs:List TRow):Prop:=rs.length≤64∧SrtC rs∧∀ r∈rs,Zai r
def Qey (rs:List TRow) (k:Nat):Nat:=rs.length+((rs.take k).map (·.l.length)).sum
theorem Zhx {rs:List TRow} {k:Nat} {x:TRow} (h:rs[k]?=some x):Qey rs (k+1)=Qey rs k+x.l.length:=by
 unfold Qey;rw [Qaq h];simp;omega
theorem Zcz (rs:List TRow) (k:Nat):Qey rs k≤Qey rs rs.length:=by
 unfold Qey;rw [W12];have:=Qdv (fun r:TRow=>r.l.length) rs k;rw [W16];rw [← W16];omega
theorem Qre {α:Type} {f:α→Nat} {x:α}:∀ {l:List α},x∈l→f x≤(l.map f).sum
 | a :: r,h=>by
  rw [W1t,W1s];rcases W0y.1 h with rfl | h
  ·omega
  ·have:=Qre (f:=f) h;omega
theorem Qzg {rs:List TRow} {r:TRow} (h:r∈rs):r.l.length≤Qey rs rs.length:=by
 unfold Qey;rw [W12];have:=Qre (f:=fun r:TRow=>r.l.length) h;omega
theorem Zb5 {α:Type} {R:α→α→Prop} {l:List α} {k:Nat} {x:α} (h:(l.take k).Pairwise R) (hx:l[k]?=some x) (hr:∀ y∈l.take k,R y x):(l.take (k+1)).Pairwise R:=by
 rw [Qaq hx];exact List.pairwise_append.2 ⟨h,List.pairwise_singleton _ _,fun a ha b hb=>by rw [W0z.1 hb];exact hr a ha⟩
def Qk2 {α:Type} (f:α→Int) (l:List α) (k:Nat) (z:Int):Int:=match l[k-1]? with | some x=>if k=0 then z else f x | none=>z
theorem Qj5 {α:Type} (f:α→Int) (l:List α) (z:Int):Qk2 f l 0 z=z:=by unfold Qk2;split<;>simp
theorem Zh1 {α:Type} {f:α→Int} {l:List α} {k:Nat} {x:α} {z:Int} (h:l[k]?=some x):Qk2 f l (k+1) z=f x:=by
 unfold Qk2;rw [show k+1-1=k from rfl,h];simp
def Qmc {α:Type} (f:α→Int) (z:Int) (l:List α) (k:Nat):Prop:=(l.take k).Pairwise (fun a b=>f a<f b)∧∀ x∈l.take k,z<f x∧f x≤Qk2 f l k z
theorem Qjy {α:Type} (f:α→Int) (z:Int) (l:List α):Qmc f z l 0:=⟨by simp,fun x hx=>by simp at hx⟩
theorem Qma {α:Type} {f:α→Int} {z:Int} {l:List α} {k:Nat} (h:Qmc f z l k):z≤Qk2 f l k z:=by
 unfold Qk2
 split
 ·rename_i x hx
  split
  ·exact W1q _
  ·rename_i h0;have:=h.2 x (W0h (i:=k-1) (by rw [W1b,W1x (by omega)];exact hx));omega
 ·exact W1q _
theorem Qel {α:Type} {f:α→Int} {z:Int} {l:List α} {k:Nat} {x:α} (h:Qmc f z l k) (hx:l[k]?=some x) (hl:Qk2 f l k z<f x):Qmc f z l (k+1):=by
 have hz:=Qma h;refine ⟨Zb5 h.1 hx fun y hy=>by have:=(h.2 y hy).2;omega,fun y hy=>?_⟩;rw [Zh1 hx];rw [Qaq hx] at hy;rcases W04.1 hy with hy | hy
 ·have:=h.2 y hy;omega
 ·rw [W0z.1 hy];omega
theorem Qix {α:Type} {f:α→Int} {z:Int} {l:List α} {k:Nat} {x:α} (hx:l[k]?=some x) (hl:¬ Qk2 f l k z<f x):¬ (l.Pairwise (fun a b=>f a<f b)∧∀ x∈l,z<f x):=fun ⟨h1,h2⟩=>by
 have hk:=Qan hx;unfold Qk2 at hl;cases e:l[k-1]? with
 | none=>rw [e] at hl;exact hl (h2 x (W0h hx))
 | some y=>
  rw [e] at hl;by_cases h0:k=0
  ·simp [h0] at hl;have:=h2 x (W0h hx);omega
  ·simp [h0] at hl;have hy:=Qan e;have:=W1c.1 h1 (k-1) k hy hk (by omega);rw [show l[k-1]=y from W0c ((W0d hy).symm.trans e),show l[k]=x from W0c ((W0d hk).symm.trans hx)] at this;omega
theorem Qmb {α:Type} {f:α→Int} {z:Int} {l:List α} {k:Nat} (h:Qmc f z l k) (hk:l.length≤k):l.Pairwise (fun a b=>f a<f b)∧∀ x∈l,z<f x:=by
 obtain ⟨h1,h2⟩:=h;rw [Qap hk] at h1 h2;exact ⟨h1,fun x hx=>(h2 x hx).1⟩
theorem Qqd (r:TRow):Zai r↔0≤r.client∧(1≤r.epoch∧0≤r.done∧r.l.length≤256∧(r.l.Pairwise (fun a b=>a.1<b.1)∧∀ d∈r.l,r.done<d.1)):=by
 unfold Zai SrtD;exact ⟨fun ⟨a,b,c,d,e,f⟩=>⟨a,b,c,d,e,f⟩,fun ⟨a,b,c,d,e,f⟩=>⟨a,b,c,d,e,f⟩⟩
def Zmn (r:TRow):Prop:=1≤r.epoch∧0≤r.done∧r.l.length≤256∧(r.l.Pairwise (fun a b=>a.1<b.1)∧∀ d∈r.l,r.done<d.1)
theorem Qdd (rs:List TRow):Good rs↔rs.length≤64∧(rs.Pairwise (fun a b=>a.client<b.client)∧∀ r∈rs,-1<r.client)∧∀ r∈rs,Zmn r:=by
 unfold Good SrtC;constructor
 ·rintro ⟨h1,h2,h3⟩;exact ⟨h1,⟨h2,fun r hr=>by have:=((Qqd r).1 (h3 r hr)).1;omega⟩,fun r hr=>((Qqd r).1 (h3 r hr)).2⟩
 ·rintro ⟨h1,⟨h2,h3⟩,h4⟩;exact ⟨h1,h2,fun r hr=>(Qqd r).2 ⟨by have:=h3 r hr;omega,h4 r hr⟩⟩
end Go.Proofs.YtkhodpknpligpaaGreat
