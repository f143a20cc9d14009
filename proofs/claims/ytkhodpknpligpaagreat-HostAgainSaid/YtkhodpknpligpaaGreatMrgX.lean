import Derived.Test.YtkhodpknpligpaaGreatAl
import Derived.Test.YtkhodpknpligpaaGreatMrgH
import Derived.Test.YtkhodpknpligpaaGreatMrgW
set_option maxRecDepth 100000
set_option maxHeartbeats 8000000
set_option linter.unusedVariables false
set_option linter.unusedSimpArgs false
namespace Go.Proofs.YtkhodpknpligpaaGreat
open Go Go.RowKit Copyhold Go.Proofs.Tryz
theorem Zdk {α:Type} (xs ys:List (List α)) (i:Nat) (z:List α) (hi:i≤xs.length):(((xs.take i++List.replicate (xs.length+ys.length-i) z).take i++ys++(xs.take i++List.replicate (xs.length+ys.length-i) z).drop (i+ys.length)).take (i+ys.length)++(xs.take xs.length).drop i++((xs.take i++List.replicate (xs.length+ys.length-i) z).take i++ys++(xs.take i++List.replicate (xs.length+ys.length-i) z).drop (i+ys.length)).drop (i+ys.length+((xs.take xs.length).drop i).length))=xs.take i++ys++xs.drop i:=by
 have h1:(xs.take i).length=i:=by rw [W0g];omega
 have e1:(xs.take i++List.replicate (xs.length+ys.length-i) z).take i=xs.take i:=List.take_left' h1;rw [e1,W12];have h2:(xs.take i++ys).length=i+ys.length:=by rw [W0e,h1]
 rw [List.take_left' h2];have h3:((xs.take i++ys++(xs.take i++List.replicate (xs.length+ys.length-i) z).drop (i+ys.length))).length=xs.length+ys.length:=by
  rw [W0e,h2,W0p,W0e,h1,W00];omega
 have h4:(xs.take i++ys++(xs.take i++List.replicate (xs.length+ys.length-i) z).drop (i+ys.length)).drop (i+ys.length+(xs.drop i).length)=[]:=List.drop_eq_nil_of_le (by rw [h3,W0p];omega);rw [h4,List.append_nil]
theorem Zdl (xs ys:List (List AV)) (i:Nat) (tv:Bool) (hi:i≤xs.length) (h1:1≤ys.length) (hn:xs.length≤100000) (hm:ys.length≤100000) (hx:∀ l∈xs,l.length=7) (hy:∀ l∈ys,l.length=7):Qag prog 250 [.sl 7 true xs,aI (i:Int),.sl 7 false ys] (.sl 7 false (xs.take i++ys++xs.drop i)):=by
 exact Qac func250 (
 .r 1<|.r 2<|.slc 7 true xs (some (i:Int)) none none i xs.length true (.inr rfl) (.inl ⟨rfl,rfl⟩) (.inl ⟨rfl,fun _=>⟨rfl,rfl⟩⟩) (by omega) (by omega)<|
 .r 3<|.r 2<|.is 16 (show (((ys).length:Int)==0)=false from (beq_eq_false_iff_ne.2 (by omega)))<|.r 3<|.r 3<|.be 22 (i:Int) ((xs).length:Int) (fun p1=>.r 2<|.appNew 80 7 (x0:=.sl 7 true xs) xs ys (sR) (by omega) (by intro l hl;rcases W04.1 hl with h | h;exact hx l h;exact hy l h) (by omega) (by omega) fun V1=>
 .r 1<|.frz 25 [6] [] [V1=V1,(xs++ys).length=(xs++ys).length] ⟨rfl,(by first | rfl | (simp;done) | (simp;omega)),trivial⟩<|
 .f (.sl 7 false (xs.take i++ys++xs.drop i)) [] (.sl 7 false (xs++ys)) (by exact W2n (by rw [show i=xs.length from by omega];simp)))
 <| fun p1=>.run 4 [rng .i64 (((xs).length:Int)+((ys).length:Int))] ⟨Qal,trivial⟩<|
 .op (capO prog) (7,xs,some 30) (fun (_:Unit) σ=>σ.put (some 30) (aI (xs.length:Int))) (Qpp) fun _=>
 .r 1<|.is 31 (show (decide ((((xs).length:Int)+((ys).length:Int))>(xs.length:Int)))=true from (decide_eq_true (by omega)))<|.r 2<|.op (slcO prog) (.sl 7 true xs,none,some (i:Int),none,some 34) (fun (_:Unit) σ=>σ.put (some 34) (.pre 7 xs i)) (Qpm i (by omega) (by omega)) fun _=>
 .run 5 [rng .i64 (((xs).length:Int)+((ys).length:Int)),rng .i64 ((((xs).length:Int)+((ys).length:Int))-(i:Int))] ⟨Qal,Qal,trivial⟩<|
 .op (zrR prog 100) (7,xs,i,(((xs).length:Int)+((ys).length:Int))-(i:Int),80,87,[aI 0,aB false,aI 0,aI 0,aI 0,aS ([]),aN],40) (fun (V:Value) σ=>(σ.put (some 40) (.rw 100 V (i+(xs.length+ys.length-i)))).setB 100 (.row V 87 7 (xs.take i++List.replicate (xs.length+ys.length-i) [aI 0,aB false,aI 0,aI 0,aI 0,aS ([]),aN]))) (Qt0 (xs.length+ys.length-i) 80 (by kernel_rfl) (by omega) (by omega) (by omega) (by omega) (by omega) (by omega)) fun V2=>
 .r 1<|.st (rowR 100) (V2,87,7,xs.take i++List.replicate (xs.length+ys.length-i) [aI 0,aB false,aI 0,aI 0,aI 0,aS ([]),aN]) (fun _ σ=>σ) (Qb0 100 (by simp only [W0e,W0g,W0p,W00];omega)) fun a1r=>
 .r 2<|.op (rsO prog) (100,V2,i+(xs.length+ys.length-i),7,(i:Int),some 43) (fun (_:Unit) σ=>σ.put (some 43) (.rs 100 V2 7 i)) (Qjx i a1r.2.1 (by omega) (by simp only [W0e,W0g,W0p,W00];omega) a1r.2.2) fun _=>
 .r 1<|.op (cpR prog) (100,V2,7,i,V2,87,7,xs.take i++List.replicate (xs.length+ys.length-i) [aI 0,aB false,aI 0,aI 0,aI 0,aS ([]),aN],7,ys,7,some 45) (fun (_:Unit) σ=>(σ.put (some 45) (aI (ys.length:Int))).setB 100 (.row V2 87 7 ((xs.take i++List.replicate (xs.length+ys.length-i) [aI 0,aB false,aI 0,aI 0,aI 0,aS ([]),aN]).take i++ys++(xs.take i++List.replicate (xs.length+ys.length-i) [aI 0,aB false,aI 0,aI 0,aI 0,aS ([]),aN]).drop (i+ys.length)))) (Qhe (by simp only [W0e,W0g,W0p,W00];omega)) fun _=>
 .st (rowR 100) (V2,87,7,(xs.take i++List.replicate (xs.length+ys.length-i) [aI 0,aB false,aI 0,aI 0,aI 0,aS ([]),aN]).take i++ys++(xs.take i++List.replicate (xs.length+ys.length-i) [aI 0,aB false,aI 0,aI 0,aI 0,aS ([]),aN]).drop (i+ys.length)) (fun _ σ=>σ) (Qb0 100 (by simp only [W0e,W0g,W0p,W00];omega)) fun a2r=>
 .ord [0,1,2,3,4,5,6,7,8]<|.run 4 [rng .i64 ((i:Int)+((ys).length:Int))] ⟨Qal,trivial⟩<|
 .op (rsO prog) (100,V2,i+(xs.length+ys.length-i),7,(i:Int)+((ys).length:Int),some 50) (fun (_:Unit) σ=>σ.put (some 50) (.rs 100 V2 7 (i+ys.length))) (Qjx (i+ys.length) a2r.2.1 (by omega) (by simp only [W0e,W0g,W0p,W00];omega) a2r.2.2) fun _=>
 .r 2<|.slc 7 true xs (some (i:Int)) none none i xs.length true (.inr rfl) (.inl ⟨rfl,rfl⟩) (.inl ⟨rfl,fun _=>⟨rfl,rfl⟩⟩) (by omega) (by omega)<|
 .op (cpR prog) (100,V2,7,(i+ys.length),V2,87,7,(xs.take i++List.replicate (xs.length+ys.length-i) [aI 0,aB false,aI 0,aI 0,aI 0,aS ([]),aN]).take i++ys++(xs.take i++List.replicate (xs.length+ys.length-i) [aI 0,aB false,aI 0,aI 0,aI 0,aS ([]),aN]).drop (i+ys.length),7,(xs.take xs.length).drop i,7,some 54) (fun (_:Unit) σ=>(σ.put (some 54) (aI (((xs.take xs.length).drop i).length:Int))).setB 100 (.row V2 87 7 (((xs.take i++List.replicate (xs.length+ys.length-i) [aI 0,aB false,aI 0,aI 0,aI 0,aS ([]),aN]).take i++ys++(xs.take i++List.replicate (xs.length+ys.length-i) [aI 0,aB false,aI 0,aI 0,aI 0,aS ([]),aN]).drop (i+ys.length)).take (i+ys.length)++((xs.take xs.length).drop i)++((xs.take i++List.replicate (xs.length+ys.length-i) [aI 0,aB false,aI 0,aI 0,aI 0,aS ([]),aN]).take i++ys++(xs.take i++List.replicate (xs.length+ys.length-i) [aI 0,aB false,aI 0,aI 0,aI 0,aS ([]),aN]).drop (i+ys.length)).drop ((i+ys.length)+((xs.take xs.length).drop i).length)))) (Qhe (by simp only [W0e,W0g,W0p,W00];omega)) fun _=>
 .r 2<|.frz 100 [6] [] [V2=V2,i+(xs.length+ys.length-i)=(((xs.take i++List.replicate (xs.length+ys.length-i) [aI 0,aB false,aI 0,aI 0,aI 0,aS ([]),aN]).take i++ys++(xs.take i++List.replicate (xs.length+ys.length-i) [aI 0,aB false,aI 0,aI 0,aI 0,aS ([]),aN]).drop (i+ys.length)).take (i+ys.length)++((xs.take xs.length).drop i)++((xs.take i++List.replicate (xs.length+ys.length-i) [aI 0,aB false,aI 0,aI 0,aI 0,aS ([]),aN]).take i++ys++(xs.take i++List.replicate (xs.length+ys.length-i) [aI 0,aB false,aI 0,aI 0,aI 0,aS ([]),aN]).drop (i+ys.length)).drop ((i+ys.length)+((xs.take xs.length).drop i).length)).length] ⟨rfl,(by first | rfl | (simp;done) | (simp;omega)),trivial⟩<|
 .f (.sl 7 false (xs.take i++ys++xs.drop i)) [] (.sl 7 false (((xs.take i++List.replicate (xs.length+ys.length-i) [aI 0,aB false,aI 0,aI 0,aI 0,aS ([]),aN]).take i++ys++(xs.take i++List.replicate (xs.length+ys.length-i) [aI 0,aB false,aI 0,aI 0,aI 0,aS ([]),aN]).drop (i+ys.length)).take (i+ys.length)++((xs.take xs.length).drop i)++((xs.take i++List.replicate (xs.length+ys.length-i) [aI 0,aB false,aI 0,aI 0,aI 0,aS ([]),aN]).take i++ys++(xs.take i++List.replicate (xs.length+ys.length-i) [aI 0,aB false,aI 0,aI 0,aI 0,aS ([]),aN]).drop (i+ys.length)).drop ((i+ys.length)+((xs.take xs.length).drop i).length))) (by exact W2n (W1y (AV.sl 7 false) (Zdk xs ys i _ (by omega)))))
theorem Zdm (xs ys:List (List AV)) (i:Nat) (tv:Bool) (hi:i≤xs.length) (h1:1≤ys.length) (hn:xs.length≤100000) (hm:ys.length≤100000) (hx:∀ l∈xs,l.length=2) (hy:∀ l∈ys,l.length=2):Qag prog 251 [.sl 2 true xs,aI (i:Int),.sl 2 false ys] (.sl 2 false (xs.take i++ys++xs.drop i)):=by
 exact Qac func251 (
 .r 1<|.r 2<|.slc 2 true xs (some (i:Int)) none none i xs.length true (.inr rfl) (.inl ⟨rfl,rfl⟩) (.inl ⟨rfl,fun _=>⟨rfl,rfl⟩⟩) (by omega) (by omega)<|
 .r 3<|.r 2<|.is 16 (show (((ys).length:Int)==0)=false from (beq_eq_false_iff_ne.2 (by omega)))<|.r 3<|.r 3<|.be 22 (i:Int) ((xs).length:Int) (fun p1=>.r 2<|.appNew 16 2 (x0:=.sl 2 true xs) xs ys (sR) (by omega) (by intro l hl;rcases W04.1 hl with h | h;exact hx l h;exact hy l h) (by omega) (by omega) fun V1=>
 .r 1<|.frz 25 [6] [] [V1=V1,(xs++ys).length=(xs++ys).length] ⟨rfl,(by first | rfl | (simp;done) | (simp;omega)),trivial⟩<|
 .f (.sl 2 false (xs.take i++ys++xs.drop i)) [] (.sl 2 false (xs++ys)) (by exact W2n (by rw [show i=xs.length from by omega];simp)))
 <| fun p1=>.run 4 [rng .i64 (((xs).length:Int)+((ys).length:Int))] ⟨Qal,trivial⟩<|
 .op (capO prog) (2,xs,some 30) (fun (_:Unit) σ=>σ.put (some 30) (aI (xs.length:Int))) (Qpp) fun _=>
 .r 1<|.is 31 (show (decide ((((xs).length:Int)+((ys).length:Int))>(xs.length:Int)))=true from (decide_eq_true (by omega)))<|.r 2<|.op (slcO prog) (.sl 2 true xs,none,some (i:Int),none,some 34) (fun (_:Unit) σ=>σ.put (some 34) (.pre 2 xs i)) (Qpm i (by omega) (by omega)) fun _=>
 .run 5 [rng .i64 (((xs).length:Int)+((ys).length:Int)),rng .i64 ((((xs).length:Int)+((ys).length:Int))-(i:Int))] ⟨Qal,Qal,trivial⟩<|
 .op (zrR prog 100) (2,xs,i,(((xs).length:Int)+((ys).length:Int))-(i:Int),23,108,[aI 0,aI 0],40) (fun (V:Value) σ=>(σ.put (some 40) (.rw 100 V (i+(xs.length+ys.length-i)))).setB 100 (.row V 108 2 (xs.take i++List.replicate (xs.length+ys.length-i) [aI 0,aI 0]))) (Qt0 (xs.length+ys.length-i) 16 (by kernel_rfl) (by omega) (by omega) (by omega) (by omega) (by omega) (by omega)) fun V2=>
 .r 1<|.st (rowR 100) (V2,108,2,xs.take i++List.replicate (xs.length+ys.length-i) [aI 0,aI 0]) (fun _ σ=>σ) (Qb0 100 (by simp only [W0e,W0g,W0p,W00];omega)) fun a1r=>
 .r 2<|.op (rsO prog) (100,V2,i+(xs.length+ys.length-i),2,(i:Int),some 43) (fun (_:Unit) σ=>σ.put (some 43) (.rs 100 V2 2 i)) (Qjx i a1r.2.1 (by omega) (by simp only [W0e,W0g,W0p,W00];omega) a1r.2.2) fun _=>
 .r 1<|.op (cpR prog) (100,V2,2,i,V2,108,2,xs.take i++List.replicate (xs.length+ys.length-i) [aI 0,aI 0],2,ys,2,some 45) (fun (_:Unit) σ=>(σ.put (some 45) (aI (ys.length:Int))).setB 100 (.row V2 108 2 ((xs.take i++List.replicate (xs.length+ys.length-i) [aI 0,aI 0]).take i++ys++(xs.take i++List.replicate (xs.length+ys.length-i) [aI 0,aI 0]).drop (i+ys.length)))) (Qhe (by simp only [W0e,W0g,W0p,W00];omega)) fun _=>
 .st (rowR 100) (V2,108,2,(xs.take i++List.replicate (xs.length+ys.length-i) [aI 0,aI 0]).take i++ys++(xs.take i++List.replicate (xs.length+ys.length-i) [aI 0,aI 0]).drop (i+ys.length)) (fun _ σ=>σ) (Qb0 100 (by simp only [W0e,W0g,W0p,W00];omega)) fun a2r=>
 .ord [0,1,2,3,4,5,6,7,8]<|.run 4 [rng .i64 ((i:Int)+((ys).length:Int))] ⟨Qal,trivial⟩<|
 .op (rsO prog) (100,V2,i+(xs.length+ys.length-i),2,(i:Int)+((ys).length:Int),some 50) (fun (_:Unit) σ=>σ.put (some 50) (.rs 100 V2 2 (i+ys.length))) (Qjx (i+ys.length) a2r.2.1 (by omega) (by simp only [W0e,W0g,W0p,W00];omega) a2r.2.2) fun _=>
 .r 2<|.slc 2 true xs (some (i:Int)) none none i xs.length true (.inr rfl) (.inl ⟨rfl,rfl⟩) (.inl ⟨rfl,fun _=>⟨rfl,rfl⟩⟩) (by omega) (by omega)<|
 .op (cpR prog) (100,V2,2,(i+ys.length),V2,108,2,(xs.take i++List.replicate (xs.length+ys.length-i) [aI 0,aI 0]).take i++ys++(xs.take i++List.replicate (xs.length+ys.length-i) [aI 0,aI 0]).drop (i+ys.length),2,(xs.take xs.length).drop i,2,some 54) (fun (_:Unit) σ=>(σ.put (some 54) (aI (((xs.take xs.length).drop i).length:Int))).setB 100 (.row V2 108 2 (((xs.take i++List.replicate (xs.length+ys.length-i) [aI 0,aI 0]).take i++ys++(xs.take i++List.replicate (xs.length+ys.length-i) [aI 0,aI 0]).drop (i+ys.length)).take (i+ys.length)++((xs.take xs.length).drop i)++((xs.take i++List.replicate (xs.length+ys.length-i) [aI 0,aI 0]).take i++ys++(xs.take i++List.replicate (xs.length+ys.length-i) [aI 0,aI 0]).drop (i+ys.length)).drop ((i+ys.length)+((xs.take xs.length).drop i).length)))) (Qhe (by simp only [W0e,W0g,W0p,W00];omega)) fun _=>
 .r 2<|.frz 100 [6] [] [V2=V2,i+(xs.length+ys.length-i)=(((xs.take i++List.replicate (xs.length+ys.length-i) [aI 0,aI 0]).take i++ys++(xs.take i++List.replicate (xs.length+ys.length-i) [aI 0,aI 0]).drop (i+ys.length)).take (i+ys.length)++((xs.take xs.length).drop i)++((xs.take i++List.replicate (xs.length+ys.length-i) [aI 0,aI 0]).take i++ys++(xs.take i++List.replicate (xs.length+ys.length-i) [aI 0,aI 0]).drop (i+ys.length)).drop ((i+ys.length)+((xs.take xs.length).drop i).length)).length] ⟨rfl,(by first | rfl | (simp;done) | (simp;omega)),trivial⟩<|
 .f (.sl 2 false (xs.take i++ys++xs.drop i)) [] (.sl 2 false (((xs.take i++List.replicate (xs.length+ys.length-i) [aI 0,aI 0]).take i++ys++(xs.take i++List.replicate (xs.length+ys.length-i) [aI 0,aI 0]).drop (i+ys.length)).take (i+ys.length)++((xs.take xs.length).drop i)++((xs.take i++List.replicate (xs.length+ys.length-i) [aI 0,aI 0]).take i++ys++(xs.take i++List.replicate (xs.length+ys.length-i) [aI 0,aI 0]).drop (i+ys.length)).drop ((i+ys.length)+((xs.take xs.length).drop i).length))) (by exact W2n (W1y (AV.sl 2 false) (Zdk xs ys i _ (by omega)))))
theorem Zh7 (xs ys:List (List AV)) (i:Nat) (tv:Bool) (hi:i≤xs.length) (h1:1≤ys.length) (hn:xs.length≤100000) (hm:ys.length≤100000) (hx:∀ l∈xs,l.length=2) (hy:∀ l∈ys,l.length=2):Qd3 prog 249 [.sl 2 true xs,aI (i:Int),.sl 2 false ys] 82 2 (xs.take i++ys++xs.drop i):=by
 exact Qek func249 (
 .r 1<|.r 2<|.slc 2 true xs (some (i:Int)) none none i xs.length true (.inr rfl) (.inl ⟨rfl,rfl⟩) (.inl ⟨rfl,fun _=>⟨rfl,rfl⟩⟩) (by omega) (by omega)<|
 .r 3<|.r 2<|.is 16 (show (((ys).length:Int)==0)=false from (beq_eq_false_iff_ne.2 (by omega)))<|.r 3<|.r 3<|.be 22 (i:Int) ((xs).length:Int) (fun p1=>.r 2<|.appNew 32 2 (x0:=.sl 2 true xs) xs ys (sR) (by omega) (by intro l hl;rcases W04.1 hl with h | h;exact hx l h;exact hy l h) (by omega) (by omega) fun V1=>
 .r 1<|.finRow (x:=xs++ys) (r:=xs.take i++ys++xs.drop i) [] trivial 25 82 2 ((xs++ys).length) V1 (by rw [show i=xs.length from by omega];simp))
 <| fun p1=>.run 4 [rng .i64 (((xs).length:Int)+((ys).length:Int))] ⟨Qal,trivial⟩<|
 .op (capO prog) (2,xs,some 30) (fun (_:Unit) σ=>σ.put (some 30) (aI (xs.length:Int))) (Qpp) fun _=>
 .r 1<|.is 31 (show (decide ((((xs).length:Int)+((ys).length:Int))>(xs.length:Int)))=true from (decide_eq_true (by omega)))<|.r 2<|.op (slcO prog) (.sl 2 true xs,none,some (i:Int),none,some 34) (fun (_:Unit) σ=>σ.put (some 34) (.pre 2 xs i)) (Qpm i (by omega) (by omega)) fun _=>
 .run 5 [rng .i64 (((xs).length:Int)+((ys).length:Int)),rng .i64 ((((xs).length:Int)+((ys).length:Int))-(i:Int))] ⟨Qal,Qal,trivial⟩<|
 .op (zrR prog 100) (2,xs,i,(((xs).length:Int)+((ys).length:Int))-(i:Int),22,82,[aI 0,aN],40) (fun (V:Value) σ=>(σ.put (some 40) (.rw 100 V (i+(xs.length+ys.length-i)))).setB 100 (.row V 82 2 (xs.take i++List.replicate (xs.length+ys.length-i) [aI 0,aN]))) (Qt0 (xs.length+ys.length-i) 32 (by kernel_rfl) (by omega) (by omega) (by omega) (by omega) (by omega) (by omega)) fun V2=>
 .r 1<|.st (rowR 100) (V2,82,2,xs.take i++List.replicate (xs.length+ys.length-i) [aI 0,aN]) (fun _ σ=>σ) (Qb0 100 (by simp only [W0e,W0g,W0p,W00];omega)) fun a1r=>
 .r 2<|.op (rsO prog) (100,V2,i+(xs.length+ys.length-i),2,(i:Int),some 43) (fun (_:Unit) σ=>σ.put (some 43) (.rs 100 V2 2 i)) (Qjx i a1r.2.1 (by omega) (by simp only [W0e,W0g,W0p,W00];omega) a1r.2.2) fun _=>
 .r 1<|.op (cpR prog) (100,V2,2,i,V2,82,2,xs.take i++List.replicate (xs.length+ys.length-i) [aI 0,aN],2,ys,2,some 45) (fun (_:Unit) σ=>(σ.put (some 45) (aI (ys.length:Int))).setB 100 (.row V2 82 2 ((xs.take i++List.replicate (xs.length+ys.length-i) [aI 0,aN]).take i++ys++(xs.take i++List.replicate (xs.length+ys.length-i) [aI 0,aN]).drop (i+ys.length)))) (Qhe (by simp only [W0e,W0g,W0p,W00];omega)) fun _=>
 .st (rowR 100) (V2,82,2,(xs.take i++List.replicate (xs.length+ys.length-i) [aI 0,aN]).take i++ys++(xs.take i++List.replicate (xs.length+ys.length-i) [aI 0,aN]).drop (i+ys.length)) (fun _ σ=>σ) (Qb0 100 (by simp only [W0e,W0g,W0p,W00];omega)) fun a2r=>
 .ord [0,1,2,3,4,5,6,7,8]<|.run 4 [rng .i64 ((i:Int)+((ys).length:Int))] ⟨Qal,trivial⟩<|
 .op (rsO prog) (100,V2,i+(xs.length+ys.length-i),2,(i:Int)+((ys).length:Int),some 50) (fun (_:Unit) σ=>σ.put (some 50) (.rs 100 V2 2 (i+ys.length))) (Qjx (i+ys.length) a2r.2.1 (by omega) (by simp only [W0e,W0g,W0p,W00];omega) a2r.2.2) fun _=>
 .r 2<|.slc 2 true xs (some (i:Int)) none none i xs.length true (.inr rfl) (.inl ⟨rfl,rfl⟩) (.inl ⟨rfl,fun _=>⟨rfl,rfl⟩⟩) (by omega) (by omega)<|
 .op (cpR prog) (100,V2,2,(i+ys.length),V2,82,2,(xs.take i++List.replicate (xs.length+ys.length-i) [aI 0,aN]).take i++ys++(xs.take i++List.replicate (xs.length+ys.length-i) [aI 0,aN]).drop (i+ys.length),2,(xs.take xs.length).drop i,2,some 54) (fun (_:Unit) σ=>(σ.put (some 54) (aI (((xs.take xs.length).drop i).length:Int))).setB 100 (.row V2 82 2 (((xs.take i++List.replicate (xs.length+ys.length-i) [aI 0,aN]).take i++ys++(xs.take i++List.replicate (xs.length+ys.length-i) [aI 0,aN]).drop (i+ys.length)).take (i+ys.length)++((xs.take xs.length).drop i)++((xs.take i++List.replicate (xs.length+ys.length-i) [aI 0,aN]).take i++ys++(xs.take i++List.replicate (xs.length+ys.length-i) [aI 0,aN]).drop (i+ys.length)).drop ((i+ys.length)+((xs.take xs.length).drop i).length)))) (Qhe (by simp only [W0e,W0g,W0p,W00];omega)) fun _=>
 .r 2<|.finRow (x:=((xs.take i++List.replicate (xs.length+ys.length-i) [aI 0,aN]).take i++ys++(xs.take i++List.replicate (xs.length+ys.length-i) [aI 0,aN]).drop (i+ys.length)).take (i+ys.length)++((xs.take xs.length).drop i)++((xs.take i++List.replicate (xs.length+ys.length-i) [aI 0,aN]).take i++ys++(xs.take i++List.replicate (xs.length+ys.length-i) [aI 0,aN]).drop (i+ys.length)).drop ((i+ys.length)+((xs.take xs.length).drop i).length)) (r:=xs.take i++ys++xs.drop i) [] trivial 100 82 2 (i+(xs.length+ys.length-i)) V2 (by exact Zdk xs ys i _ (by omega)))
theorem Qyc (l:List Ver) (i:Nat) (c:Ver) (hi:i≤l.length) (hn:l.length≤100000):Qag prog 215 [.sl 7 false (l.map verA),aI (i:Int),.agg (verA c)] (.sl 7 false ((l.take i++c :: l.drop i).map verA)):=by
 exact Qac func215 (
 .new fun b1=>.r 1<|.ord [0,1,2,3,4,5,6,7,8,9,10]<|.r 3<|.lm 9 l verA<|.r 2<|.lm 11 l verA<|.slc 7 false (l.map verA) none (some (l.length:Int)) (some (l.length:Int)) 0 l.length true (.inl ⟨rfl,rfl⟩) (.inr rfl) (.inr ⟨rfl,rfl⟩) (by first | omega | (simp;done) | (simp;omega)) (by first | omega | (simp;done) | (simp;omega))<|
 .u 3 [b1]<|
 .cs (args0:=[.sl 7 true (((l.map verA).take l.length).drop 0),aI (i:Int),.sl 7 true ([(verA c)])]) (Zdl (l.map verA) ([(verA c)]) i false (by rw [W0a];omega) (by simp) (by rw [W0a];omega) (by simp) (fun l h=>by obtain ⟨z,_,rfl⟩:=W1i.1 h;rfl) (fun l h=>by obtain rfl:=W0z.1 h;rfl)) ⟨W2n (by rw [List.drop_zero,W1a (by simp)]),sR,W2p _ _ _,trivial⟩<|
 .r 1<|.f (.sl 7 false ((l.take i++c :: l.drop i).map verA)) [] (.sl 7 false ((l.map verA).take i++[(verA c)]++(l.map verA).drop i)) (by exact W2n (by simp [verA,W16,W2e])))
theorem Qyd (l:List Cnt) (i:Nat) (c:Cnt) (hi:i≤l.length) (hn:l.length≤100000):Qag prog 217 [.sl 2 false (l.map cntA),aI (i:Int),.agg [aI c.stamp,aI c.next]] (.sl 2 false ((l.take i++c :: l.drop i).map cntA)):=by
 exact Qac func217 (
 .new fun b1=>.r 1<|.ord [0,1,2,3,4,5,6,7,8,9,10]<|.r 3<|.lm 9 l cntA<|.r 2<|.lm 11 l cntA<|.slc 2 false (l.map cntA) none (some (l.length:Int)) (some (l.length:Int)) 0 l.length true (.inl ⟨rfl,rfl⟩) (.inr rfl) (.inr ⟨rfl,rfl⟩) (by first | omega | (simp;done) | (simp;omega)) (by first | omega | (simp;done) | (simp;omega))<|
 .u 3 [b1]<|
 .cs (args0:=[.sl 2 true (((l.map cntA).take l.length).drop 0),aI (i:Int),.sl 2 true ([[aI c.stamp,aI c.next]])]) (Zdm (l.map cntA) ([[aI c.stamp,aI c.next]]) i false (by rw [W0a];omega) (by simp) (by rw [W0a];omega) (by simp) (fun l h=>by obtain ⟨z,_,rfl⟩:=W1i.1 h;rfl) (fun l h=>by obtain rfl:=W0z.1 h;rfl)) ⟨W2n (by rw [List.drop_zero,W1a (by simp)]),sR,W2p _ _ _,trivial⟩<|
 .r 1<|.f (.sl 2 false ((l.take i++c :: l.drop i).map cntA)) [] (.sl 2 false ((l.map cntA).take i++[[aI c.stamp,aI c.next]]++(l.map cntA).drop i)) (by exact W2n (by simp [cntA,W16,W2e])))
theorem Zan (l:List Chn) (i:Nat) (c:Chn) (hi:i≤l.length) (hn:l.length≤100000):Qd3 prog 214 [.sl 2 false (l.map chnA),aI (i:Int),.agg [aI c.ino,.sl 7 false (c.l.map verA)]] 82 2 ((l.take i++c :: l.drop i).map chnA):=by
 exact Qek func214 (
 .new fun b1=>.r 1<|.ord [0,1,2,3,4,5,6,7,8,9,10]<|.r 3<|.lm 9 l chnA<|.r 2<|.lm 11 l chnA<|.slc 2 false (l.map chnA) none (some (l.length:Int)) (some (l.length:Int)) 0 l.length true (.inl ⟨rfl,rfl⟩) (.inr rfl) (.inr ⟨rfl,rfl⟩) (by first | omega | (simp;done) | (simp;omega)) (by first | omega | (simp;done) | (simp;omega))<|
 .u 3 [b1]<|
 .op (crR prog 16) (249,[.sl 2 true (((l.map chnA).take l.length).drop 0),aI (i:Int),.sl 2 true ([[aI c.ino,.sl 7 false (c.l.map verA)]])],16) (fun (V:Value) σ=>(σ.put (some 16) (.rw 16 V ((l.map chnA).take i++[[aI c.ino,.sl 7 false (c.l.map verA)]]++(l.map chnA).drop i).length)).setB 16 (.row V 82 2 ((l.map chnA).take i++[[aI c.ino,.sl 7 false (c.l.map verA)]]++(l.map chnA).drop i))) (Qgh (args':=[.sl 2 true (l.map chnA),aI (i:Int),.sl 2 false ([[aI c.ino,.sl 7 false (c.l.map verA)]])]) ⟨W2n (by rw [List.drop_zero,W1a (by simp)]),sR,W2p _ _ _,trivial⟩ (Zh7 (l.map chnA) ([[aI c.ino,.sl 7 false (c.l.map verA)]]) i false (by rw [W0a];omega) (by simp) (by rw [W0a];omega) (by simp) (fun l h=>by obtain ⟨z,_,rfl⟩:=W1i.1 h;rfl) (fun l h=>by obtain rfl:=W0z.1 h;rfl))) fun V1=>
 .r 1<|.finRow (x:=(l.map chnA).take i++[[aI c.ino,.sl 7 false (c.l.map verA)]]++(l.map chnA).drop i) (r:=(l.take i++c :: l.drop i).map chnA) [] trivial 16 82 2 (((l.map chnA).take i++[[aI c.ino,.sl 7 false (c.l.map verA)]]++(l.map chnA).drop i).length) V1 (by simp [chnA,W16,W2e]))
def Qam (l:List Chn) (n:Int):Nat:=(l.takeWhile fun c=>decide (c.ino<n)).length
def Qcn (l:List Chn) (n:Int):Bool:=match l[Qam l n]? with | some c=>c.ino==n | none=>false
theorem Qrz {n:Int}:∀ {l:List Chn},AllQ (fun _ c=>c.ino<n) l→Qam l n=l.length
 | [],_=>rfl
 | x :: r,h=>by
  have h1:x.ino<n:=h 0 x rfl;have h2:=Qrz (l:=r) fun i e he=>h (i+1) e (by simpa using he);unfold Qam at h2 ⊢;simp [h1,h2]
theorem Qpu {n:Int}:∀ {l:List Chn} {k:Nat} {x:Chn},Qaz (fun _ c=>c.ino<n) l k→l[k]?=some x→¬ x.ino<n→Qam l n=k
 | y :: r,0,x,_,hx,hp=>by
  simp at hx;subst hx;unfold Qam;simp [hp]
 | y :: r,k+1,x,h,hx,hp=>by
  have h1:y.ino<n:=h 0 y (by omega) rfl;have h2:=Qpu (l:=r) (k:=k) (fun j e hj he=>h (j+1) e (by omega) (by simpa using he)) (by simpa using hx) hp;unfold Qam at h2 ⊢;simp [h1,h2]
theorem Qv9 {n:Int} {l:List Chn} {k:Nat} {x:Chn} (h:Qam l n=k) (hx:l[k]?=some x):Qcn l n=(x.ino==n):=by
 unfold Qcn;rw [h,hx]
theorem Za0 {n:Int} {l:List Chn} (h:Qam l n=l.length):Qcn l n=false:=by
 unfold Qcn;rw [h,W1h (W0m _)]
def Qai (c:Chg) (st:Int):Ver:=if c.gone then ⟨st,true,nod0⟩ else ⟨st,false,⟨c.ino,c.n.kind,c.n.links,c.n.text,c.n.l⟩⟩
theorem Qub (l:List Chn) (n:Int) (hl:l.length≤100000):Qag prog 213 [.sl 2 false (l.map chnA),aI n] (.tup [aI (Qam l n:Int),aB (Qcn l n)]):=by
 exact Qac func213 (
 .r 2<|.r 2<|.lm 11 l chnA<|.r 2<|.r 2<|.lm 13 l chnA<|.r 1<|let L1:Lp (Nat):=⟨fun a1=>⟨[(1,aI n),(12,.sl 2 false (l.map chnA)),(13,aI (l.length:Int)),(14,aI (a1:Int)),(6,aI (l.length:Int)),(7,aB false)],[]⟩,fun a1=>l.length-a1,fun a1=>a1≤l.length∧Qaz (fun _ c=>c.ino<n) l a1⟩
 .lp L1 0 ⟨W0j _,Qaz.zero _ _⟩ [(14,aI 0)] [] ⟨sR,sR,sR,sO,sR,sR,trivial⟩ trivial fun a1 ha1=>
 (fun (k:Nat) (hH1:k≤l.length∧Qaz (fun _ c=>c.ino<n) l k)=>.r 1<|.bd 15 ((k:Int)<(l.length:Int)) (fun p1=>.r 1<|.idxM l chnA k (m:=(k:Int)) rfl (by omega) fun x1 hx1=>
 .r 1<|.new fun b1=>.u 2 [b1]<|
 .u 5 [b1]<|
 .bd 19 (x1.ino<n) (fun p2=>.run 2 [rng .i64 ((k:Int)+1)] ⟨Qal,trivial⟩<|
 .bk L1 k (k+1) ⟨by omega,hH1.2.step hx1 (by omega)⟩ (show l.length-(k+1)<l.length-k from (by omega)) [(14,aI ((k:Int)+1))] [] ⟨sR,sR,sR,sO,sR,sR,trivial⟩ trivial)
 <| fun p2=>.u 5 [b1]<|
 .br 24 (x1.ino==n) (fun q3=>have p3:=beqT q3;.r 1<|.r 2<|.r 4<|.f (.tup [aI (Qam l n:Int),aB (Qcn l n)]) [] (.tup [aI (k:Int),aB true]) (by
  have e:=Qpu hH1.2 hx1 (by omega);rw [Qv9 e hx1,e,show (x1.ino==n)=true from q3];exact sR))
 <| fun q3=>have p3:=beqF q3;.r 2<|.r 4<|.f (.tup [aI (Qam l n:Int),aB (Qcn l n)]) [] (.tup [aI (k:Int),aB false]) (by
  have e:=Qpu hH1.2 hx1 (by omega);rw [Qv9 e hx1,e,show (x1.ino==n)=false from q3];exact sR))
 <| fun p1=>.r 4<|.f (.tup [aI (Qam l n:Int),aB (Qcn l n)]) [] (.tup [aI (l.length:Int),aB false]) (by
  have e:=Qrz (hH1.2.full (by omega));rw [Za0 e,e];exact sR)) a1 ha1)
theorem Qe0 (c:Chg) (st:Int):Qag prog 216 [.agg (chgA c),aI st] (.agg (verA (Qai c st))):=by
 exact Qac func216 (
 .new fun b1=>.new fun b2=>.u 2 [b1]<|
 .br 7 (c.gone) (fun q1=>have p1:=booT q1;.u 3 [b2]<|
 .f (.agg (verA (Qai c st))) [b2] (.agg [aI st,aB true,aI 0,aI 0,aI 0,aS ([]),aN]) (by
  rw [show Qai c st=⟨st,true,nod0⟩ from W1x q1];exact W2r ⟨sR,sR,sR,sR,sR,sR,Sub.nil _ _,trivial⟩))
 <| fun q1=>have p1:=booF q1;.u 4 [b1]<|
 .new fun b3=>.u 1 [b3]<|
 .u 5 [b1,b3]<|
 .u 2 [b3,b2]<|
 .f (.agg (verA (Qai c st))) [b2] (.agg [aI st,aB false,aI c.ino,aI c.n.kind,aI c.n.links,aS c.n.text,.sl 2 false (c.n.l.map entA)]) (by
  rw [show Qai c st=_ from W1w (by rw [q1];simp)];exact sR))
theorem Qqs {α:Type} {f:α→Int} {l:List α} {st b:Int} (h:∀ x∈l,f x≤st) (hb:st≤b):cutV f b l=l.length:=by
 refine Qfo _ _ _ _ (W0m _) (fun j x hj hx=>by have:=Qan hx;omega) ?_;cases l with
 | nil=>exact .inl rfl
 | cons v r=>
  right;have hlt:(v :: r).length-1<(v :: r).length:=by simp
  refine ⟨(v :: r)[(v :: r).length-1],W0d hlt,?_⟩;have:=h _ (W1m hlt);omega
theorem Qzm {s:Sto} (hp:Qcc s) {c:Chn} (hc:c∈s.l):Qkr s.stamp c=false:=by
 obtain ⟨k,hk⟩:=W0w hc;have hch:=(hp.2.2.2.at hk).1;refine W2c.2 fun v hv=>?_;obtain ⟨j,hj⟩:=W0w hv;have:=(hch.2.1.2.at hj).2.1;simp;omega
theorem Qwt {s:Sto} (hp:Qcc s):∀ c∈s.nexts,c.stamp≤s.stamp:=fun c hc=>by
 obtain ⟨j,hj⟩:=W0w hc;exact (hp.2.1.2.at hj).2.1
theorem Qo5 (xs:List (List AV)) (hl:xs.length≤100000) (hx:∀ l∈xs,l.length=2):Qd3 prog 212 [.sl 2 false xs] 82 2 (xs):=by
 exact Qek func212 (
 .r 1<|.r 1<|.isNil xs fun b1 hnb1=>
 .br 4 (b1) (fun q1=>have p1:=booT q1;.r 1<|.rowNil 199 2 82 2<|.finRow (x:=[]) (r:=xs) [] trivial 199 82 2 (0) (.slice none 0 0) (by exact (hnb1 (by assumption)).symm))
 <| fun q1=>have p1:=booF q1;.lit0 fun V1=>.r 1<|.app 32 V1 ([]:List (List AV)) xs (by simp<;>omega) (by simp<;>omega) fun V2=>
 .r 1<|.finRow (x:=([]:List (List AV))++xs) (r:=xs) [] trivial 5 82 2 (([]:List (List AV)).length+xs.length) V2 (by simp))
theorem Qg9 {l:List Chn} {n:Int} (h:Qcn l n=true):∃ c,l[Qam l n]?=some c∧c.ino=n:=by
 unfold Qcn at h
 split at h
 ·rename_i c hc;exact ⟨c,hc,by simpa using h⟩
 ·cases h
theorem Qa1 {l:List Chn} {n:Int} (h:Qcn l n=true):Qam l n<l.length:=by
 obtain ⟨c,hc,_⟩:=Qg9 h;exact Qan hc
theorem Qi0 (l:List Chn) (n:Int):Qam l n≤l.length:=by
 have h:=W1y List.length (List.takeWhile_append_dropWhile (p:=fun c:Chn=>decide (c.ino<n)) (l:=l));rw [W0e] at h;unfold Qam;omega
def Qbt (r:List Ver) (st:Int):List Ver:=match r[r.length-1]? with
 | some v=>if v.stamp=st then r.take (r.length-1) else r
 | none=>r
theorem Zjl (st:Int):Qbt [] st=[]:=rfl
theorem Qx4 {r:List Ver} {st:Int} {v:Ver} (h:r[r.length-1]?=some v) (e:v.stamp=st):Qbt r st=r.take (r.length-1):=by unfold Qbt;rw [h];exact W1x e
theorem Zfo {r:List Ver} {st:Int} {v:Ver} (h:r[r.length-1]?=some v) (e:¬ v.stamp=st):Qbt r st=r:=by unfold Qbt;rw [h];exact W1w e
theorem Qno (r:List Ver) (st:Int):(Qbt r st).length≤r.length:=by
 unfold Qbt
 split
 ·split
  ·rw [W0g];omega
  ·exact W0m _
 ·exact W0m _
def putC (l:List Chn) (st n:Int) (v:Ver):List Chn:=
 if Qcn l n then (match l[Qam l n]? with | some c=>l.set (Qam l n) ⟨c.ino,Qbt c.l st++[v]⟩ | none=>l)
 else l.take (Qam l n)++⟨n,[v]⟩ :: l.drop (Qam l n)
theorem Qhl {l:List Chn} {st n:Int} {v:Ver} {c:Chn} (h:Qcn l n=true) (hc:l[Qam l n]?=some c):putC l st n v=l.set (Qam l n) ⟨c.ino,Qbt c.l st++[v]⟩:=by
 unfold putC;rw [W1x h,hc]
theorem Qlh {l:List Chn} {st n:Int} {v:Ver} (h:Qcn l n=false):putC l st n v=l.take (Qam l n)++⟨n,[v]⟩ :: l.drop (Qam l n):=by
 unfold putC;rw [W1w (by rw [h];simp)]
theorem Zhe (l:List Chn) (st n:Int) (v:Ver):(putC l st n v).length≤l.length+1:=by
 unfold putC
 split
 ·split
  ·simp
  ·omega
 ·have:=Qi0 l n;simp;omega
def Qao (l:List Chn) (st:Int) (cs:List Chg) (k:Nat):List Chn:=(cs.take k).foldl (fun l c=>putC l st c.ino (Qai c st)) l
theorem Qcu {l:List Chn} {st:Int} {cs:List Chg} {k:Nat} {c:Chg} (h:cs[k]?=some c):Qao l st cs (k+1)=putC (Qao l st cs k) st c.ino (Qai c st):=by
 unfold Qao;rw [Qaq h,W1o];rfl
theorem Qjd (l:List Chn) (st:Int) (cs:List Chg):∀ k,(Qao l st cs k).length≤l.length+k
 | 0=>by simp [Qao]
 | k+1=>by
  have ih:=Qjd l st cs k;cases hc:cs[k]? with
  | none=>
   have e:Qao l st cs (k+1)=Qao l st cs k:=by
    have hk:=List.getElem?_eq_none_iff.1 hc;unfold Qao;rw [W1a (by omega),W1a hk]
   rw [e];omega
  | some c=>
   rw [Qcu hc];have:=Zhe (Qao l st cs k) st c.ino (Qai c st);omega
end Go.Proofs.YtkhodpknpligpaaGreat
