import Derived.Test.YtahlldgocpabjaaGreatAl
import Derived.Test.YtahlldgocpabjaaGreatMrgG
import Derived.Test.YtahlldgocpabjaaGreatMrgAB
set_option maxRecDepth 100000
set_option maxHeartbeats 8000000
set_option linter.unusedVariables false
set_option linter.unusedSimpArgs false
namespace Go.Proofs.YtahlldgocpabjaaGreat
open Go Go.RowKit Copyhold Go.Proofs.Tryz
theorem Zgh {α:Type} (xs ys:List (List α)) (i:Nat) (z:List α) (hi:i≤xs.length):(((xs.take i++List.replicate (xs.length+ys.length-i) z).take i++ys++(xs.take i++List.replicate (xs.length+ys.length-i) z).drop (i+ys.length)).take (i+ys.length)++(xs.take xs.length).drop i++((xs.take i++List.replicate (xs.length+ys.length-i) z).take i++ys++(xs.take i++List.replicate (xs.length+ys.length-i) z).drop (i+ys.length)).drop (i+ys.length+((xs.take xs.length).drop i).length))=xs.take i++ys++xs.drop i:=by
 have h1:(xs.take i).length=i:=by rw [W0g];omega
 have e1:(xs.take i++List.replicate (xs.length+ys.length-i) z).take i=xs.take i:=List.take_left' h1;rw [e1,W13];have h2:(xs.take i++ys).length=i+ys.length:=by rw [W0e,h1]
 rw [List.take_left' h2];have h3:((xs.take i++ys++(xs.take i++List.replicate (xs.length+ys.length-i) z).drop (i+ys.length))).length=xs.length+ys.length:=by
  rw [W0e,h2,W0p,W0e,h1,W00];omega
 have h4:(xs.take i++ys++(xs.take i++List.replicate (xs.length+ys.length-i) z).drop (i+ys.length)).drop (i+ys.length+(xs.drop i).length)=[]:=List.drop_eq_nil_of_le (by rw [h3,W0p];omega);rw [h4,List.append_nil]
theorem Zgi (xs ys:List (List AV)) (i:Nat) (tv:Bool) (hi:i≤xs.length) (h1:1≤ys.length) (hn:xs.length≤100000) (hm:ys.length≤100000) (hx:∀ l∈xs,l.length=7) (hy:∀ l∈ys,l.length=7):Qai prog 161 [.sl 7 true xs,aI (i:Int),.sl 7 false ys] (.sl 7 false (xs.take i++ys++xs.drop i)):=by
 exact Qae func161 (
 .r 1<|.r 2<|.slc 7 true xs (some (i:Int)) none none i xs.length true (.inr rfl) (.inl ⟨rfl,rfl⟩) (.inl ⟨rfl,fun _=>⟨rfl,rfl⟩⟩) (by omega) (by omega)<|
 .r 3<|.r 2<|.is 16 (show (((ys).length:Int)==0)=false from (beq_eq_false_iff_ne.2 (by omega)))<|.r 3<|.r 3<|.be 22 (i:Int) ((xs).length:Int) (fun p1=>.r 2<|.appNew 80 7 (x0:=.sl 7 true xs) xs ys (sR) (by omega) (by intro l hl;rcases W05.1 hl with h | h;exact hx l h;exact hy l h) (by omega) (by omega) fun V1=>
 .r 1<|.frz 25 [6] [] [V1=V1,(xs++ys).length=(xs++ys).length] ⟨rfl,(by first | rfl | (simp;done) | (simp;omega)),trivial⟩<|
 .f (.sl 7 false (xs.take i++ys++xs.drop i)) [] (.sl 7 false (xs++ys)) (by exact W2p (by rw [show i=xs.length from by omega];simp)))
 <| fun p1=>.run 4 [rng .i64 (((xs).length:Int)+((ys).length:Int))] ⟨Qah,trivial⟩<|
 .op (capO prog) (7,xs,some 30) (fun (_:Unit) σ=>σ.put (some 30) (aI (xs.length:Int))) (Qq6) fun _=>
 .r 1<|.is 31 (show (decide ((((xs).length:Int)+((ys).length:Int))>(xs.length:Int)))=true from (decide_eq_true (by omega)))<|.r 2<|.op (slcO prog) (.sl 7 true xs,none,some (i:Int),none,some 34) (fun (_:Unit) σ=>σ.put (some 34) (.pre 7 xs i)) (Qq4 i (by omega) (by omega)) fun _=>
 .run 5 [rng .i64 (((xs).length:Int)+((ys).length:Int)),rng .i64 ((((xs).length:Int)+((ys).length:Int))-(i:Int))] ⟨Qah,Qah,trivial⟩<|
 .op (zrR prog 100) (7,xs,i,(((xs).length:Int)+((ys).length:Int))-(i:Int),96,100,[aI 0,aB false,aI 0,aI 0,aI 0,aS ([]),aN],40) (fun (V:Value) σ=>(σ.put (some 40) (.rw 100 V (i+(xs.length+ys.length-i)))).setB 100 (.row V 100 7 (xs.take i++List.replicate (xs.length+ys.length-i) [aI 0,aB false,aI 0,aI 0,aI 0,aS ([]),aN]))) (Qwe (xs.length+ys.length-i) 80 (by kernel_rfl) (by omega) (by omega) (by omega) (by omega) (by omega) (by omega)) fun V2=>
 .r 1<|.st (rowR 100) (V2,100,7,xs.take i++List.replicate (xs.length+ys.length-i) [aI 0,aB false,aI 0,aI 0,aI 0,aS ([]),aN]) (fun _ σ=>σ) (Qcd 100 (by simp only [W0e,W0g,W0p,W00];omega)) fun a1r=>
 .r 2<|.op (rsO prog) (100,V2,i+(xs.length+ys.length-i),7,(i:Int),some 43) (fun (_:Unit) σ=>σ.put (some 43) (.rs 100 V2 7 i)) (Qlp i a1r.2.1 (by omega) (by simp only [W0e,W0g,W0p,W00];omega) a1r.2.2) fun _=>
 .r 1<|.op (cpR prog) (100,V2,7,i,V2,100,7,xs.take i++List.replicate (xs.length+ys.length-i) [aI 0,aB false,aI 0,aI 0,aI 0,aS ([]),aN],7,ys,7,some 45) (fun (_:Unit) σ=>(σ.put (some 45) (aI (ys.length:Int))).setB 100 (.row V2 100 7 ((xs.take i++List.replicate (xs.length+ys.length-i) [aI 0,aB false,aI 0,aI 0,aI 0,aS ([]),aN]).take i++ys++(xs.take i++List.replicate (xs.length+ys.length-i) [aI 0,aB false,aI 0,aI 0,aI 0,aS ([]),aN]).drop (i+ys.length)))) (Qiy (by simp only [W0e,W0g,W0p,W00];omega)) fun _=>
 .st (rowR 100) (V2,100,7,(xs.take i++List.replicate (xs.length+ys.length-i) [aI 0,aB false,aI 0,aI 0,aI 0,aS ([]),aN]).take i++ys++(xs.take i++List.replicate (xs.length+ys.length-i) [aI 0,aB false,aI 0,aI 0,aI 0,aS ([]),aN]).drop (i+ys.length)) (fun _ σ=>σ) (Qcd 100 (by simp only [W0e,W0g,W0p,W00];omega)) fun a2r=>
 .ord [0,1,2,3,4,5,6,7,8]<|.run 4 [rng .i64 ((i:Int)+((ys).length:Int))] ⟨Qah,trivial⟩<|
 .op (rsO prog) (100,V2,i+(xs.length+ys.length-i),7,(i:Int)+((ys).length:Int),some 50) (fun (_:Unit) σ=>σ.put (some 50) (.rs 100 V2 7 (i+ys.length))) (Qlp (i+ys.length) a2r.2.1 (by omega) (by simp only [W0e,W0g,W0p,W00];omega) a2r.2.2) fun _=>
 .r 2<|.slc 7 true xs (some (i:Int)) none none i xs.length true (.inr rfl) (.inl ⟨rfl,rfl⟩) (.inl ⟨rfl,fun _=>⟨rfl,rfl⟩⟩) (by omega) (by omega)<|
 .op (cpR prog) (100,V2,7,(i+ys.length),V2,100,7,(xs.take i++List.replicate (xs.length+ys.length-i) [aI 0,aB false,aI 0,aI 0,aI 0,aS ([]),aN]).take i++ys++(xs.take i++List.replicate (xs.length+ys.length-i) [aI 0,aB false,aI 0,aI 0,aI 0,aS ([]),aN]).drop (i+ys.length),7,(xs.take xs.length).drop i,7,some 54) (fun (_:Unit) σ=>(σ.put (some 54) (aI (((xs.take xs.length).drop i).length:Int))).setB 100 (.row V2 100 7 (((xs.take i++List.replicate (xs.length+ys.length-i) [aI 0,aB false,aI 0,aI 0,aI 0,aS ([]),aN]).take i++ys++(xs.take i++List.replicate (xs.length+ys.length-i) [aI 0,aB false,aI 0,aI 0,aI 0,aS ([]),aN]).drop (i+ys.length)).take (i+ys.length)++((xs.take xs.length).drop i)++((xs.take i++List.replicate (xs.length+ys.length-i) [aI 0,aB false,aI 0,aI 0,aI 0,aS ([]),aN]).take i++ys++(xs.take i++List.replicate (xs.length+ys.length-i) [aI 0,aB false,aI 0,aI 0,aI 0,aS ([]),aN]).drop (i+ys.length)).drop ((i+ys.length)+((xs.take xs.length).drop i).length)))) (Qiy (by simp only [W0e,W0g,W0p,W00];omega)) fun _=>
 .r 2<|.frz 100 [6] [] [V2=V2,i+(xs.length+ys.length-i)=(((xs.take i++List.replicate (xs.length+ys.length-i) [aI 0,aB false,aI 0,aI 0,aI 0,aS ([]),aN]).take i++ys++(xs.take i++List.replicate (xs.length+ys.length-i) [aI 0,aB false,aI 0,aI 0,aI 0,aS ([]),aN]).drop (i+ys.length)).take (i+ys.length)++((xs.take xs.length).drop i)++((xs.take i++List.replicate (xs.length+ys.length-i) [aI 0,aB false,aI 0,aI 0,aI 0,aS ([]),aN]).take i++ys++(xs.take i++List.replicate (xs.length+ys.length-i) [aI 0,aB false,aI 0,aI 0,aI 0,aS ([]),aN]).drop (i+ys.length)).drop ((i+ys.length)+((xs.take xs.length).drop i).length)).length] ⟨rfl,(by first | rfl | (simp;done) | (simp;omega)),trivial⟩<|
 .f (.sl 7 false (xs.take i++ys++xs.drop i)) [] (.sl 7 false (((xs.take i++List.replicate (xs.length+ys.length-i) [aI 0,aB false,aI 0,aI 0,aI 0,aS ([]),aN]).take i++ys++(xs.take i++List.replicate (xs.length+ys.length-i) [aI 0,aB false,aI 0,aI 0,aI 0,aS ([]),aN]).drop (i+ys.length)).take (i+ys.length)++((xs.take xs.length).drop i)++((xs.take i++List.replicate (xs.length+ys.length-i) [aI 0,aB false,aI 0,aI 0,aI 0,aS ([]),aN]).take i++ys++(xs.take i++List.replicate (xs.length+ys.length-i) [aI 0,aB false,aI 0,aI 0,aI 0,aS ([]),aN]).drop (i+ys.length)).drop ((i+ys.length)+((xs.take xs.length).drop i).length))) (by exact W2p (W1z (AV.sl 7 false) (Zgh xs ys i _ (by omega)))))
theorem Zgj (xs ys:List (List AV)) (i:Nat) (tv:Bool) (hi:i≤xs.length) (h1:1≤ys.length) (hn:xs.length≤100000) (hm:ys.length≤100000) (hx:∀ l∈xs,l.length=2) (hy:∀ l∈ys,l.length=2):Qai prog 162 [.sl 2 true xs,aI (i:Int),.sl 2 false ys] (.sl 2 false (xs.take i++ys++xs.drop i)):=by
 exact Qae func162 (
 .r 1<|.r 2<|.slc 2 true xs (some (i:Int)) none none i xs.length true (.inr rfl) (.inl ⟨rfl,rfl⟩) (.inl ⟨rfl,fun _=>⟨rfl,rfl⟩⟩) (by omega) (by omega)<|
 .r 3<|.r 2<|.is 16 (show (((ys).length:Int)==0)=false from (beq_eq_false_iff_ne.2 (by omega)))<|.r 3<|.r 3<|.be 22 (i:Int) ((xs).length:Int) (fun p1=>.r 2<|.appNew 16 2 (x0:=.sl 2 true xs) xs ys (sR) (by omega) (by intro l hl;rcases W05.1 hl with h | h;exact hx l h;exact hy l h) (by omega) (by omega) fun V1=>
 .r 1<|.frz 25 [6] [] [V1=V1,(xs++ys).length=(xs++ys).length] ⟨rfl,(by first | rfl | (simp;done) | (simp;omega)),trivial⟩<|
 .f (.sl 2 false (xs.take i++ys++xs.drop i)) [] (.sl 2 false (xs++ys)) (by exact W2p (by rw [show i=xs.length from by omega];simp)))
 <| fun p1=>.run 4 [rng .i64 (((xs).length:Int)+((ys).length:Int))] ⟨Qah,trivial⟩<|
 .op (capO prog) (2,xs,some 30) (fun (_:Unit) σ=>σ.put (some 30) (aI (xs.length:Int))) (Qq6) fun _=>
 .r 1<|.is 31 (show (decide ((((xs).length:Int)+((ys).length:Int))>(xs.length:Int)))=true from (decide_eq_true (by omega)))<|.r 2<|.op (slcO prog) (.sl 2 true xs,none,some (i:Int),none,some 34) (fun (_:Unit) σ=>σ.put (some 34) (.pre 2 xs i)) (Qq4 i (by omega) (by omega)) fun _=>
 .run 5 [rng .i64 (((xs).length:Int)+((ys).length:Int)),rng .i64 ((((xs).length:Int)+((ys).length:Int))-(i:Int))] ⟨Qah,Qah,trivial⟩<|
 .op (zrR prog 100) (2,xs,i,(((xs).length:Int)+((ys).length:Int))-(i:Int),23,95,[aI 0,aI 0],40) (fun (V:Value) σ=>(σ.put (some 40) (.rw 100 V (i+(xs.length+ys.length-i)))).setB 100 (.row V 95 2 (xs.take i++List.replicate (xs.length+ys.length-i) [aI 0,aI 0]))) (Qwe (xs.length+ys.length-i) 16 (by kernel_rfl) (by omega) (by omega) (by omega) (by omega) (by omega) (by omega)) fun V2=>
 .r 1<|.st (rowR 100) (V2,95,2,xs.take i++List.replicate (xs.length+ys.length-i) [aI 0,aI 0]) (fun _ σ=>σ) (Qcd 100 (by simp only [W0e,W0g,W0p,W00];omega)) fun a1r=>
 .r 2<|.op (rsO prog) (100,V2,i+(xs.length+ys.length-i),2,(i:Int),some 43) (fun (_:Unit) σ=>σ.put (some 43) (.rs 100 V2 2 i)) (Qlp i a1r.2.1 (by omega) (by simp only [W0e,W0g,W0p,W00];omega) a1r.2.2) fun _=>
 .r 1<|.op (cpR prog) (100,V2,2,i,V2,95,2,xs.take i++List.replicate (xs.length+ys.length-i) [aI 0,aI 0],2,ys,2,some 45) (fun (_:Unit) σ=>(σ.put (some 45) (aI (ys.length:Int))).setB 100 (.row V2 95 2 ((xs.take i++List.replicate (xs.length+ys.length-i) [aI 0,aI 0]).take i++ys++(xs.take i++List.replicate (xs.length+ys.length-i) [aI 0,aI 0]).drop (i+ys.length)))) (Qiy (by simp only [W0e,W0g,W0p,W00];omega)) fun _=>
 .st (rowR 100) (V2,95,2,(xs.take i++List.replicate (xs.length+ys.length-i) [aI 0,aI 0]).take i++ys++(xs.take i++List.replicate (xs.length+ys.length-i) [aI 0,aI 0]).drop (i+ys.length)) (fun _ σ=>σ) (Qcd 100 (by simp only [W0e,W0g,W0p,W00];omega)) fun a2r=>
 .ord [0,1,2,3,4,5,6,7,8]<|.run 4 [rng .i64 ((i:Int)+((ys).length:Int))] ⟨Qah,trivial⟩<|
 .op (rsO prog) (100,V2,i+(xs.length+ys.length-i),2,(i:Int)+((ys).length:Int),some 50) (fun (_:Unit) σ=>σ.put (some 50) (.rs 100 V2 2 (i+ys.length))) (Qlp (i+ys.length) a2r.2.1 (by omega) (by simp only [W0e,W0g,W0p,W00];omega) a2r.2.2) fun _=>
 .r 2<|.slc 2 true xs (some (i:Int)) none none i xs.length true (.inr rfl) (.inl ⟨rfl,rfl⟩) (.inl ⟨rfl,fun _=>⟨rfl,rfl⟩⟩) (by omega) (by omega)<|
 .op (cpR prog) (100,V2,2,(i+ys.length),V2,95,2,(xs.take i++List.replicate (xs.length+ys.length-i) [aI 0,aI 0]).take i++ys++(xs.take i++List.replicate (xs.length+ys.length-i) [aI 0,aI 0]).drop (i+ys.length),2,(xs.take xs.length).drop i,2,some 54) (fun (_:Unit) σ=>(σ.put (some 54) (aI (((xs.take xs.length).drop i).length:Int))).setB 100 (.row V2 95 2 (((xs.take i++List.replicate (xs.length+ys.length-i) [aI 0,aI 0]).take i++ys++(xs.take i++List.replicate (xs.length+ys.length-i) [aI 0,aI 0]).drop (i+ys.length)).take (i+ys.length)++((xs.take xs.length).drop i)++((xs.take i++List.replicate (xs.length+ys.length-i) [aI 0,aI 0]).take i++ys++(xs.take i++List.replicate (xs.length+ys.length-i) [aI 0,aI 0]).drop (i+ys.length)).drop ((i+ys.length)+((xs.take xs.length).drop i).length)))) (Qiy (by simp only [W0e,W0g,W0p,W00];omega)) fun _=>
 .r 2<|.frz 100 [6] [] [V2=V2,i+(xs.length+ys.length-i)=(((xs.take i++List.replicate (xs.length+ys.length-i) [aI 0,aI 0]).take i++ys++(xs.take i++List.replicate (xs.length+ys.length-i) [aI 0,aI 0]).drop (i+ys.length)).take (i+ys.length)++((xs.take xs.length).drop i)++((xs.take i++List.replicate (xs.length+ys.length-i) [aI 0,aI 0]).take i++ys++(xs.take i++List.replicate (xs.length+ys.length-i) [aI 0,aI 0]).drop (i+ys.length)).drop ((i+ys.length)+((xs.take xs.length).drop i).length)).length] ⟨rfl,(by first | rfl | (simp;done) | (simp;omega)),trivial⟩<|
 .f (.sl 2 false (xs.take i++ys++xs.drop i)) [] (.sl 2 false (((xs.take i++List.replicate (xs.length+ys.length-i) [aI 0,aI 0]).take i++ys++(xs.take i++List.replicate (xs.length+ys.length-i) [aI 0,aI 0]).drop (i+ys.length)).take (i+ys.length)++((xs.take xs.length).drop i)++((xs.take i++List.replicate (xs.length+ys.length-i) [aI 0,aI 0]).take i++ys++(xs.take i++List.replicate (xs.length+ys.length-i) [aI 0,aI 0]).drop (i+ys.length)).drop ((i+ys.length)+((xs.take xs.length).drop i).length))) (by exact W2p (W1z (AV.sl 2 false) (Zgh xs ys i _ (by omega)))))
theorem Zj8 (xs ys:List (List AV)) (i:Nat) (tv:Bool) (hi:i≤xs.length) (h1:1≤ys.length) (hn:xs.length≤100000) (hm:ys.length≤100000) (hx:∀ l∈xs,l.length=2) (hy:∀ l∈ys,l.length=2):Qex prog 160 [.sl 2 true xs,aI (i:Int),.sl 2 false ys] 98 2 (xs.take i++ys++xs.drop i):=by
 exact Qfb func160 (
 .r 1<|.r 2<|.slc 2 true xs (some (i:Int)) none none i xs.length true (.inr rfl) (.inl ⟨rfl,rfl⟩) (.inl ⟨rfl,fun _=>⟨rfl,rfl⟩⟩) (by omega) (by omega)<|
 .r 3<|.r 2<|.is 16 (show (((ys).length:Int)==0)=false from (beq_eq_false_iff_ne.2 (by omega)))<|.r 3<|.r 3<|.be 22 (i:Int) ((xs).length:Int) (fun p1=>.r 2<|.appNew 32 2 (x0:=.sl 2 true xs) xs ys (sR) (by omega) (by intro l hl;rcases W05.1 hl with h | h;exact hx l h;exact hy l h) (by omega) (by omega) fun V1=>
 .r 1<|.finRow (x:=xs++ys) (r:=xs.take i++ys++xs.drop i) [] trivial 25 98 2 ((xs++ys).length) V1 (by rw [show i=xs.length from by omega];simp))
 <| fun p1=>.run 4 [rng .i64 (((xs).length:Int)+((ys).length:Int))] ⟨Qah,trivial⟩<|
 .op (capO prog) (2,xs,some 30) (fun (_:Unit) σ=>σ.put (some 30) (aI (xs.length:Int))) (Qq6) fun _=>
 .r 1<|.is 31 (show (decide ((((xs).length:Int)+((ys).length:Int))>(xs.length:Int)))=true from (decide_eq_true (by omega)))<|.r 2<|.op (slcO prog) (.sl 2 true xs,none,some (i:Int),none,some 34) (fun (_:Unit) σ=>σ.put (some 34) (.pre 2 xs i)) (Qq4 i (by omega) (by omega)) fun _=>
 .run 5 [rng .i64 (((xs).length:Int)+((ys).length:Int)),rng .i64 ((((xs).length:Int)+((ys).length:Int))-(i:Int))] ⟨Qah,Qah,trivial⟩<|
 .op (zrR prog 100) (2,xs,i,(((xs).length:Int)+((ys).length:Int))-(i:Int),22,98,[aI 0,aN],40) (fun (V:Value) σ=>(σ.put (some 40) (.rw 100 V (i+(xs.length+ys.length-i)))).setB 100 (.row V 98 2 (xs.take i++List.replicate (xs.length+ys.length-i) [aI 0,aN]))) (Qwe (xs.length+ys.length-i) 32 (by kernel_rfl) (by omega) (by omega) (by omega) (by omega) (by omega) (by omega)) fun V2=>
 .r 1<|.st (rowR 100) (V2,98,2,xs.take i++List.replicate (xs.length+ys.length-i) [aI 0,aN]) (fun _ σ=>σ) (Qcd 100 (by simp only [W0e,W0g,W0p,W00];omega)) fun a1r=>
 .r 2<|.op (rsO prog) (100,V2,i+(xs.length+ys.length-i),2,(i:Int),some 43) (fun (_:Unit) σ=>σ.put (some 43) (.rs 100 V2 2 i)) (Qlp i a1r.2.1 (by omega) (by simp only [W0e,W0g,W0p,W00];omega) a1r.2.2) fun _=>
 .r 1<|.op (cpR prog) (100,V2,2,i,V2,98,2,xs.take i++List.replicate (xs.length+ys.length-i) [aI 0,aN],2,ys,2,some 45) (fun (_:Unit) σ=>(σ.put (some 45) (aI (ys.length:Int))).setB 100 (.row V2 98 2 ((xs.take i++List.replicate (xs.length+ys.length-i) [aI 0,aN]).take i++ys++(xs.take i++List.replicate (xs.length+ys.length-i) [aI 0,aN]).drop (i+ys.length)))) (Qiy (by simp only [W0e,W0g,W0p,W00];omega)) fun _=>
 .st (rowR 100) (V2,98,2,(xs.take i++List.replicate (xs.length+ys.length-i) [aI 0,aN]).take i++ys++(xs.take i++List.replicate (xs.length+ys.length-i) [aI 0,aN]).drop (i+ys.length)) (fun _ σ=>σ) (Qcd 100 (by simp only [W0e,W0g,W0p,W00];omega)) fun a2r=>
 .ord [0,1,2,3,4,5,6,7,8]<|.run 4 [rng .i64 ((i:Int)+((ys).length:Int))] ⟨Qah,trivial⟩<|
 .op (rsO prog) (100,V2,i+(xs.length+ys.length-i),2,(i:Int)+((ys).length:Int),some 50) (fun (_:Unit) σ=>σ.put (some 50) (.rs 100 V2 2 (i+ys.length))) (Qlp (i+ys.length) a2r.2.1 (by omega) (by simp only [W0e,W0g,W0p,W00];omega) a2r.2.2) fun _=>
 .r 2<|.slc 2 true xs (some (i:Int)) none none i xs.length true (.inr rfl) (.inl ⟨rfl,rfl⟩) (.inl ⟨rfl,fun _=>⟨rfl,rfl⟩⟩) (by omega) (by omega)<|
 .op (cpR prog) (100,V2,2,(i+ys.length),V2,98,2,(xs.take i++List.replicate (xs.length+ys.length-i) [aI 0,aN]).take i++ys++(xs.take i++List.replicate (xs.length+ys.length-i) [aI 0,aN]).drop (i+ys.length),2,(xs.take xs.length).drop i,2,some 54) (fun (_:Unit) σ=>(σ.put (some 54) (aI (((xs.take xs.length).drop i).length:Int))).setB 100 (.row V2 98 2 (((xs.take i++List.replicate (xs.length+ys.length-i) [aI 0,aN]).take i++ys++(xs.take i++List.replicate (xs.length+ys.length-i) [aI 0,aN]).drop (i+ys.length)).take (i+ys.length)++((xs.take xs.length).drop i)++((xs.take i++List.replicate (xs.length+ys.length-i) [aI 0,aN]).take i++ys++(xs.take i++List.replicate (xs.length+ys.length-i) [aI 0,aN]).drop (i+ys.length)).drop ((i+ys.length)+((xs.take xs.length).drop i).length)))) (Qiy (by simp only [W0e,W0g,W0p,W00];omega)) fun _=>
 .r 2<|.finRow (x:=((xs.take i++List.replicate (xs.length+ys.length-i) [aI 0,aN]).take i++ys++(xs.take i++List.replicate (xs.length+ys.length-i) [aI 0,aN]).drop (i+ys.length)).take (i+ys.length)++((xs.take xs.length).drop i)++((xs.take i++List.replicate (xs.length+ys.length-i) [aI 0,aN]).take i++ys++(xs.take i++List.replicate (xs.length+ys.length-i) [aI 0,aN]).drop (i+ys.length)).drop ((i+ys.length)+((xs.take xs.length).drop i).length)) (r:=xs.take i++ys++xs.drop i) [] trivial 100 98 2 (i+(xs.length+ys.length-i)) V2 (by exact Zgh xs ys i _ (by omega)))
theorem Zar (l:List Ver) (i:Nat) (c:Ver) (hi:i≤l.length) (hn:l.length≤100000):Qai prog 105 [.sl 7 false (l.map verA),aI (i:Int),.agg (verA c)] (.sl 7 false ((l.take i++c :: l.drop i).map verA)):=by
 exact Qae func105 (
 .new fun b1=>.r 1<|.ord [0,1,2,3,4,5,6,7,8,9,10]<|.r 3<|.lm 9 l verA<|.r 2<|.lm 11 l verA<|.slc 7 false (l.map verA) none (some (l.length:Int)) (some (l.length:Int)) 0 l.length true (.inl ⟨rfl,rfl⟩) (.inr rfl) (.inr ⟨rfl,rfl⟩) (by first | omega | (simp;done) | (simp;omega)) (by first | omega | (simp;done) | (simp;omega))<|
 .u 3 [b1]<|
 .cs (args0:=[.sl 7 true (((l.map verA).take l.length).drop 0),aI (i:Int),.sl 7 true ([(verA c)])]) (Zgi (l.map verA) ([(verA c)]) i false (by rw [W0a];omega) (by simp) (by rw [W0a];omega) (by simp) (fun l h=>by obtain ⟨z,_,rfl⟩:=W1j.1 h;rfl) (fun l h=>by obtain rfl:=W0z.1 h;rfl)) ⟨W2p (by rw [List.drop_zero,W1b (by simp)]),sR,W2r _ _ _,trivial⟩<|
 .r 1<|.f (.sl 7 false ((l.take i++c :: l.drop i).map verA)) [] (.sl 7 false ((l.map verA).take i++[(verA c)]++(l.map verA).drop i)) (by exact W2p (by simp [verA,W17,W2f])))
theorem Zas (l:List Cnt) (i:Nat) (c:Cnt) (hi:i≤l.length) (hn:l.length≤100000):Qai prog 107 [.sl 2 false (l.map cntA),aI (i:Int),.agg [aI c.stamp,aI c.next]] (.sl 2 false ((l.take i++c :: l.drop i).map cntA)):=by
 exact Qae func107 (
 .new fun b1=>.r 1<|.ord [0,1,2,3,4,5,6,7,8,9,10]<|.r 3<|.lm 9 l cntA<|.r 2<|.lm 11 l cntA<|.slc 2 false (l.map cntA) none (some (l.length:Int)) (some (l.length:Int)) 0 l.length true (.inl ⟨rfl,rfl⟩) (.inr rfl) (.inr ⟨rfl,rfl⟩) (by first | omega | (simp;done) | (simp;omega)) (by first | omega | (simp;done) | (simp;omega))<|
 .u 3 [b1]<|
 .cs (args0:=[.sl 2 true (((l.map cntA).take l.length).drop 0),aI (i:Int),.sl 2 true ([[aI c.stamp,aI c.next]])]) (Zgj (l.map cntA) ([[aI c.stamp,aI c.next]]) i false (by rw [W0a];omega) (by simp) (by rw [W0a];omega) (by simp) (fun l h=>by obtain ⟨z,_,rfl⟩:=W1j.1 h;rfl) (fun l h=>by obtain rfl:=W0z.1 h;rfl)) ⟨W2p (by rw [List.drop_zero,W1b (by simp)]),sR,W2r _ _ _,trivial⟩<|
 .r 1<|.f (.sl 2 false ((l.take i++c :: l.drop i).map cntA)) [] (.sl 2 false ((l.map cntA).take i++[[aI c.stamp,aI c.next]]++(l.map cntA).drop i)) (by exact W2p (by simp [cntA,W17,W2f])))
theorem Zc6 (l:List Chn) (i:Nat) (c:Chn) (hi:i≤l.length) (hn:l.length≤100000):Qex prog 104 [.sl 2 false (l.map chnA),aI (i:Int),.agg [aI c.ino,.sl 7 false (c.l.map verA)]] 98 2 ((l.take i++c :: l.drop i).map chnA):=by
 exact Qfb func104 (
 .new fun b1=>.r 1<|.ord [0,1,2,3,4,5,6,7,8,9,10]<|.r 3<|.lm 9 l chnA<|.r 2<|.lm 11 l chnA<|.slc 2 false (l.map chnA) none (some (l.length:Int)) (some (l.length:Int)) 0 l.length true (.inl ⟨rfl,rfl⟩) (.inr rfl) (.inr ⟨rfl,rfl⟩) (by first | omega | (simp;done) | (simp;omega)) (by first | omega | (simp;done) | (simp;omega))<|
 .u 3 [b1]<|
 .op (crR prog 16) (160,[.sl 2 true (((l.map chnA).take l.length).drop 0),aI (i:Int),.sl 2 true ([[aI c.ino,.sl 7 false (c.l.map verA)]])],16) (fun (V:Value) σ=>(σ.put (some 16) (.rw 16 V ((l.map chnA).take i++[[aI c.ino,.sl 7 false (c.l.map verA)]]++(l.map chnA).drop i).length)).setB 16 (.row V 98 2 ((l.map chnA).take i++[[aI c.ino,.sl 7 false (c.l.map verA)]]++(l.map chnA).drop i))) (Qh3 (args':=[.sl 2 true (l.map chnA),aI (i:Int),.sl 2 false ([[aI c.ino,.sl 7 false (c.l.map verA)]])]) ⟨W2p (by rw [List.drop_zero,W1b (by simp)]),sR,W2r _ _ _,trivial⟩ (Zj8 (l.map chnA) ([[aI c.ino,.sl 7 false (c.l.map verA)]]) i false (by rw [W0a];omega) (by simp) (by rw [W0a];omega) (by simp) (fun l h=>by obtain ⟨z,_,rfl⟩:=W1j.1 h;rfl) (fun l h=>by obtain rfl:=W0z.1 h;rfl))) fun V1=>
 .r 1<|.finRow (x:=(l.map chnA).take i++[[aI c.ino,.sl 7 false (c.l.map verA)]]++(l.map chnA).drop i) (r:=(l.take i++c :: l.drop i).map chnA) [] trivial 16 98 2 (((l.map chnA).take i++[[aI c.ino,.sl 7 false (c.l.map verA)]]++(l.map chnA).drop i).length) V1 (by simp [chnA,W17,W2f]))
def Qao (l:List Chn) (n:Int):Nat:=(l.takeWhile fun c=>decide (c.ino<n)).length
def Qcj (l:List Chn) (n:Int):Bool:=match l[Qao l n]? with | some c=>c.ino==n | none=>false
theorem Qt7 {n:Int}:∀ {l:List Chn},AllQ (fun _ c=>c.ino<n) l→Qao l n=l.length
 | [],_=>rfl
 | x :: r,h=>by
  have h1:x.ino<n:=h 0 x rfl;have h2:=Qt7 (l:=r) fun i e he=>h (i+1) e (by simpa using he);unfold Qao at h2 ⊢;simp [h1,h2]
theorem Qrj {n:Int}:∀ {l:List Chn} {k:Nat} {x:Chn},Qba (fun _ c=>c.ino<n) l k→l[k]?=some x→¬ x.ino<n→Qao l n=k
 | y :: r,0,x,_,hx,hp=>by
  simp at hx;subst hx;unfold Qao;simp [hp]
 | y :: r,k+1,x,h,hx,hp=>by
  have h1:y.ino<n:=h 0 y (by omega) rfl;have h2:=Qrj (l:=r) (k:=k) (fun j e hj he=>h (j+1) e (by omega) (by simpa using he)) (by simpa using hx) hp;unfold Qao at h2 ⊢;simp [h1,h2]
theorem Qyk {n:Int} {l:List Chn} {k:Nat} {x:Chn} (h:Qao l n=k) (hx:l[k]?=some x):Qcj l n=(x.ino==n):=by
 unfold Qcj;rw [h,hx]
theorem Zdd {n:Int} {l:List Chn} (h:Qao l n=l.length):Qcj l n=false:=by
 unfold Qcj;rw [h,W1i (W0m _)]
def Qal (c:Chg) (st:Int):Ver:=if c.gone then ⟨st,true,nod0⟩ else ⟨st,false,⟨c.ino,c.n.kind,c.n.links,c.n.text,c.n.l⟩⟩
theorem Qw3 (l:List Chn) (n:Int) (hl:l.length≤100000):Qai prog 103 [.sl 2 false (l.map chnA),aI n] (.tup [aI (Qao l n:Int),aB (Qcj l n)]):=by
 exact Qae func103 (
 .r 2<|.r 2<|.lm 11 l chnA<|.r 2<|.r 2<|.lm 13 l chnA<|.r 1<|let L1:Lp (Nat):=⟨fun a1=>⟨[(1,aI n),(12,.sl 2 false (l.map chnA)),(13,aI (l.length:Int)),(14,aI (a1:Int)),(6,aI (l.length:Int)),(7,aB false)],[]⟩,fun a1=>l.length-a1,fun a1=>a1≤l.length∧Qba (fun _ c=>c.ino<n) l a1⟩
 .lp L1 0 ⟨W0j _,Qba.zero _ _⟩ [(14,aI 0)] [] ⟨sR,sR,sR,sO,sR,sR,trivial⟩ trivial fun a1 ha1=>
 (fun (k:Nat) (hH1:k≤l.length∧Qba (fun _ c=>c.ino<n) l k)=>.r 1<|.bd 15 ((k:Int)<(l.length:Int)) (fun p1=>.r 1<|.idxM l chnA k (m:=(k:Int)) rfl (by omega) fun x1 hx1=>
 .r 1<|.new fun b1=>.u 2 [b1]<|
 .u 5 [b1]<|
 .bd 19 (x1.ino<n) (fun p2=>.run 2 [rng .i64 ((k:Int)+1)] ⟨Qah,trivial⟩<|
 .bk L1 k (k+1) ⟨by omega,hH1.2.step hx1 (by omega)⟩ (show l.length-(k+1)<l.length-k from (by omega)) [(14,aI ((k:Int)+1))] [] ⟨sR,sR,sR,sO,sR,sR,trivial⟩ trivial)
 <| fun p2=>.u 5 [b1]<|
 .br 24 (x1.ino==n) (fun q3=>have p3:=beqT q3;.r 1<|.r 2<|.r 4<|.f (.tup [aI (Qao l n:Int),aB (Qcj l n)]) [] (.tup [aI (k:Int),aB true]) (by
  have e:=Qrj hH1.2 hx1 (by omega);rw [Qyk e hx1,e,show (x1.ino==n)=true from q3];exact sR))
 <| fun q3=>have p3:=beqF q3;.r 2<|.r 4<|.f (.tup [aI (Qao l n:Int),aB (Qcj l n)]) [] (.tup [aI (k:Int),aB false]) (by
  have e:=Qrj hH1.2 hx1 (by omega);rw [Qyk e hx1,e,show (x1.ino==n)=false from q3];exact sR))
 <| fun p1=>.r 4<|.f (.tup [aI (Qao l n:Int),aB (Qcj l n)]) [] (.tup [aI (l.length:Int),aB false]) (by
  have e:=Qt7 (hH1.2.full (by omega));rw [Zdd e,e];exact sR)) a1 ha1)
theorem Qfu (c:Chg) (st:Int):Qai prog 106 [.agg (chgA c),aI st] (.agg (verA (Qal c st))):=by
 exact Qae func106 (
 .new fun b1=>.new fun b2=>.u 2 [b1]<|
 .br 7 (c.gone) (fun q1=>have p1:=booT q1;.u 3 [b2]<|
 .f (.agg (verA (Qal c st))) [b2] (.agg [aI st,aB true,aI 0,aI 0,aI 0,aS ([]),aN]) (by
  rw [show Qal c st=⟨st,true,nod0⟩ from W1y q1];exact W2t ⟨sR,sR,sR,sR,sR,sR,Sub.nil _ _,trivial⟩))
 <| fun q1=>have p1:=booF q1;.u 4 [b1]<|
 .new fun b3=>.u 1 [b3]<|
 .u 5 [b1,b3]<|
 .u 2 [b3,b2]<|
 .f (.agg (verA (Qal c st))) [b2] (.agg [aI st,aB false,aI c.ino,aI c.n.kind,aI c.n.links,aS c.n.text,.sl 2 false (c.n.l.map entA)]) (by
  rw [show Qal c st=_ from W1x (by rw [q1];simp)];exact sR))
theorem Qjs {α β:Type} {f g:α→Option β}:∀ {l:List α},(∀ x∈l,f x=g x)→l.filterMap f=l.filterMap g
 | [],_=>rfl
 | x :: r,h=>by
  have ih:=Qjs (f:=f) (g:=g) (l:=r) fun y hy=>h y (W12 _ hy);have e:=h x (List.mem_cons_self ..);rw [List.filterMap_cons,List.filterMap_cons,e,ih]
theorem Qso {α:Type} {f:α→Int} {l:List α} {st b:Int} (h:∀ x∈l,f x≤st) (hb:st≤b):cutV f b l=l.length:=by
 refine Qg1 _ _ _ _ (W0m _) (fun j x hj hx=>by have:=Qap hx;omega) ?_;cases l with
 | nil=>exact .inl rfl
 | cons v r=>
  right;have hlt:(v :: r).length-1<(v :: r).length:=by simp
  refine ⟨(v :: r)[(v :: r).length-1],W0d hlt,?_⟩;have:=h _ (W1n hlt);omega
theorem Zcb {s:Sto} (hp:Qb7 s) {c:Chn} (hc:c∈s.l):Qe3 s.stamp c=false:=by
 obtain ⟨k,hk⟩:=W0w hc;have hch:=(hp.2.2.2.at hk).1;refine W2d.2 fun v hv=>?_;obtain ⟨j,hj⟩:=W0w hv;have:=(hch.2.1.2.at hj).2.1;simp;omega
theorem Qza {s:Sto} (hp:Qb7 s):∀ c∈s.nexts,c.stamp≤s.stamp:=fun c hc=>by
 obtain ⟨j,hj⟩:=W0w hc;exact (hp.2.1.2.at hj).2.1
theorem Qqq (xs:List (List AV)) (hl:xs.length≤100000) (hx:∀ l∈xs,l.length=2):Qex prog 102 [.sl 2 false xs] 98 2 (xs):=by
 exact Qfb func102 (
 .r 1<|.r 1<|.isNil xs fun b1 hnb1=>
 .br 4 (b1) (fun q1=>have p1:=booT q1;.r 1<|.rowNil 199 2 98 2<|.finRow (x:=[]) (r:=xs) [] trivial 199 98 2 (0) (.slice none 0 0) (by exact (hnb1 (by assumption)).symm))
 <| fun q1=>have p1:=booF q1;.lit0 fun V1=>.r 1<|.app 32 V1 ([]:List (List AV)) xs (by simp<;>omega) (by simp<;>omega) fun V2=>
 .r 1<|.finRow (x:=([]:List (List AV))++xs) (r:=xs) [] trivial 5 98 2 (([]:List (List AV)).length+xs.length) V2 (by simp))
theorem Qit {l:List Chn} {n:Int} (h:Qcj l n=true):∃ c,l[Qao l n]?=some c∧c.ino=n:=by
 unfold Qcj at h
 split at h
 ·rename_i c hc;exact ⟨c,hc,by simpa using h⟩
 ·cases h
theorem Qa6 {l:List Chn} {n:Int} (h:Qcj l n=true):Qao l n<l.length:=by
 obtain ⟨c,hc,_⟩:=Qit h;exact Qap hc
theorem Qkj (l:List Chn) (n:Int):Qao l n≤l.length:=by
 have h:=W1z List.length (List.takeWhile_append_dropWhile (p:=fun c:Chn=>decide (c.ino<n)) (l:=l));rw [W0e] at h;unfold Qao;omega
def Qb9 (r:List Ver) (st:Int):List Ver:=match r[r.length-1]? with
 | some v=>if v.stamp=st then r.take (r.length-1) else r
 | none=>r
theorem Zal (st:Int):Qb9 [] st=[]:=rfl
theorem Qst {r:List Ver} {st:Int} {v:Ver} (h:r[r.length-1]?=some v) (e:v.stamp=st):Qb9 r st=r.take (r.length-1):=by unfold Qb9;rw [h];exact W1y e
theorem Qx9 {r:List Ver} {st:Int} {v:Ver} (h:r[r.length-1]?=some v) (e:¬ v.stamp=st):Qb9 r st=r:=by unfold Qb9;rw [h];exact W1x e
theorem Qo7 (r:List Ver) (st:Int):(Qb9 r st).length≤r.length:=by
 unfold Qb9
 split
 ·split
  ·rw [W0g];omega
  ·exact W0m _
 ·exact W0m _
def putC (l:List Chn) (st n:Int) (v:Ver):List Chn:=
 if Qcj l n then (match l[Qao l n]? with | some c=>l.set (Qao l n) ⟨c.ino,Qb9 c.l st++[v]⟩ | none=>l)
 else l.take (Qao l n)++⟨n,[v]⟩ :: l.drop (Qao l n)
theorem Qgm {l:List Chn} {st n:Int} {v:Ver} {c:Chn} (h:Qcj l n=true) (hc:l[Qao l n]?=some c):putC l st n v=l.set (Qao l n) ⟨c.ino,Qb9 c.l st++[v]⟩:=by
 unfold putC;rw [W1y h,hc]
theorem Qi4 {l:List Chn} {st n:Int} {v:Ver} (h:Qcj l n=false):putC l st n v=l.take (Qao l n)++⟨n,[v]⟩ :: l.drop (Qao l n):=by
 unfold putC;rw [W1x (by rw [h];simp)]
theorem Zji (l:List Chn) (st n:Int) (v:Ver):(putC l st n v).length≤l.length+1:=by
 unfold putC
 split
 ·split
  ·simp
  ·omega
 ·have:=Qkj l n;simp;omega
def Qas (l:List Chn) (st:Int) (cs:List Chg) (k:Nat):List Chn:=(cs.take k).foldl (fun l c=>putC l st c.ino (Qal c st)) l
theorem Qct {l:List Chn} {st:Int} {cs:List Chg} {k:Nat} {c:Chg} (h:cs[k]?=some c):Qas l st cs (k+1)=putC (Qas l st cs k) st c.ino (Qal c st):=by
 unfold Qas;rw [Qam h,W1p];rfl
theorem Qgx (l:List Chn) (st:Int) (cs:List Chg):∀ k,(Qas l st cs k).length≤l.length+k
 | 0=>by simp [Qas]
 | k+1=>by
  have ih:=Qgx l st cs k;cases hc:cs[k]? with
  | none=>
   have e:Qas l st cs (k+1)=Qas l st cs k:=by
    have hk:=List.getElem?_eq_none_iff.1 hc;unfold Qas;rw [W1b (by omega),W1b hk]
   rw [e];omega
  | some c=>
   rw [Qct hc];have:=Zji (Qas l st cs k) st c.ino (Qal c st);omega
end Go.Proofs.YtahlldgocpabjaaGreat
