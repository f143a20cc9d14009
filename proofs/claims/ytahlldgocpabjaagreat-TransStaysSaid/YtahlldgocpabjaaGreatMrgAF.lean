import Derived.Test.YtahlldgocpabjaaGreatMrgJ
import Derived.Test.YtahlldgocpabjaaGreatMrgAE
set_option maxRecDepth 100000
set_option maxHeartbeats 8000000
set_option linter.unusedVariables false
set_option linter.unusedSimpArgs false
namespace Go.Proofs.YtahlldgocpabjaaGreat
open Go Go.RowKit Copyhold
theorem Zax {α:Type} (xs ys:List (List α)) (i:Nat) (z:List α) (hi:i≤xs.length):(((xs.take i++List.replicate (xs.length+ys.length-i) z).take i++ys++(xs.take i++List.replicate (xs.length+ys.length-i) z).drop (i+ys.length)).take (i+ys.length)++(xs.take xs.length).drop i++((xs.take i++List.replicate (xs.length+ys.length-i) z).take i++ys++(xs.take i++List.replicate (xs.length+ys.length-i) z).drop (i+ys.length)).drop (i+ys.length+((xs.take xs.length).drop i).length))=xs.take i++ys++xs.drop i:=by
 have h1:(xs.take i).length=i:=by rw [List.length_take];omega
 have e1:(xs.take i++List.replicate (xs.length+ys.length-i) z).take i=xs.take i:=List.take_left' h1
 rw [e1,List.take_length]
 have h2:(xs.take i++ys).length=i+ys.length:=by rw [List.length_append,h1]
 rw [List.take_left' h2]
 have h3:((xs.take i++ys++(xs.take i++List.replicate (xs.length+ys.length-i) z).drop (i+ys.length))).length=xs.length+ys.length:=by
  rw [List.length_append,h2,List.length_drop,List.length_append,h1,List.length_replicate];omega
 have h4:(xs.take i++ys++(xs.take i++List.replicate (xs.length+ys.length-i) z).drop (i+ys.length)).drop (i+ys.length+(xs.drop i).length)=[]:=List.drop_eq_nil_of_le (by rw [h3,List.length_drop];omega)
 rw [h4,List.append_nil]
theorem Zay (xs ys:List (List AV)) (i:Nat) (tv:Bool) (hi:i≤xs.length) (h1:1≤ys.length) (hn:xs.length≤100000) (hm:ys.length≤100000) (hx:∀ l∈xs,l.length=7) (hy:∀ l∈ys,l.length=7):Qaj Tryz.prog 161 [.sl 7 true xs,aI (i:Int),.sl 7 false ys] (.sl 7 false (xs.take i++ys++xs.drop i)):=by
 exact Qac (F:=Tryz.f161) 400 (
 .r 1<|.r 2<|.slc 7 true xs (some (i:Int)) none none i xs.length true (.inr rfl) (.inl ⟨rfl,rfl⟩) (.inl ⟨rfl,fun _=>⟨rfl,rfl⟩⟩) (by omega) (by omega)<|
 .r 3<|.r 2<|.is 16 (show (((ys).length:Int)==0)=false from (beq_eq_false_iff_ne.2 (by omega)))<|.r 3<|.r 3<|.br 22 ((i:Int)==((xs).length:Int)) (fun q1=>have p1:=beqT q1;.r 2<|.appNew 80 7 (x0:=.sl 7 true xs) xs ys (sR) (by omega) (by intro l hl;rcases List.mem_append.1 hl with h | h;exact hx l h;exact hy l h) (by omega) (by omega) fun V1=>
 .r 1<|.frz 25 [6] [] [V1=V1,(xs++ys).length=(xs++ys).length] ⟨rfl,(by first | rfl | (simp;done) | (simp;omega)),trivial⟩<|
 .fin (x:=.sl 7 false (xs++ys)) (r:=.sl 7 false (xs.take i++ys++xs.drop i)) [] trivial (by exact Sub.of_eq (by rw [show i=xs.length from by omega];simp)))
 <| fun q1=>have p1:=beqF q1;.run 4 [rng .i64 (((xs).length:Int)+((ys).length:Int))] ⟨Qas (by omega) (by omega),trivial⟩<|
 .op (capO Tryz.prog) (7,xs,some 30) (fun (_:Unit) σ=>σ.put (some 30) (aI (xs.length:Int))) (Qod) fun _=>
 .r 1<|.is 31 (show (decide ((((xs).length:Int)+((ys).length:Int))>(xs.length:Int)))=true from (decide_eq_true (by omega)))<|.r 2<|.op (slcO Tryz.prog) (.sl 7 true xs,none,some (i:Int),none,some 34) (fun (_:Unit) σ=>σ.put (some 34) (.pre 7 xs i)) (Qoa i (by omega) (by omega)) fun _=>
 .run 5 [rng .i64 (((xs).length:Int)+((ys).length:Int)),rng .i64 ((((xs).length:Int)+((ys).length:Int))-(i:Int))] ⟨Qas (by omega) (by omega),Qas (by omega) (by omega),trivial⟩<|
 .op (zrR Tryz.prog 100) (7,xs,i,(((xs).length:Int)+((ys).length:Int))-(i:Int),96,100,[aI 0,aB false,aI 0,aI 0,aI 0,aS ([]),aN],40) (fun (V:Value) σ=>(σ.put (some 40) (.rw 100 V (i+(xs.length+ys.length-i)))).setB 100 (.row V 100 7 (xs.take i++List.replicate (xs.length+ys.length-i) [aI 0,aB false,aI 0,aI 0,aI 0,aS ([]),aN]))) (Qr5 (xs.length+ys.length-i) 80 (by kernel_rfl) (by omega) (by omega) (by omega) (by omega) (by omega) (by omega)) fun V2=>
 .r 1<|.st (rowR 100) (V2,100,7,xs.take i++List.replicate (xs.length+ys.length-i) [aI 0,aB false,aI 0,aI 0,aI 0,aS ([]),aN]) (fun _ σ=>σ) (Qbz 100 (by simp only [List.length_append,List.length_take,List.length_drop,List.length_replicate];omega)) fun a1r=>
 .r 2<|.op (rsO Tryz.prog) (100,V2,i+(xs.length+ys.length-i),7,(i:Int),some 43) (fun (_:Unit) σ=>σ.put (some 43) (.rs 100 V2 7 i)) (Qje i a1r.2.1 (by omega) (by simp only [List.length_append,List.length_take,List.length_drop,List.length_replicate];omega) a1r.2.2) fun _=>
 .r 1<|.op (cpR Tryz.prog) (100,V2,7,i,V2,100,7,xs.take i++List.replicate (xs.length+ys.length-i) [aI 0,aB false,aI 0,aI 0,aI 0,aS ([]),aN],7,ys,7,some 45) (fun (_:Unit) σ=>(σ.put (some 45) (aI (ys.length:Int))).setB 100 (.row V2 100 7 ((xs.take i++List.replicate (xs.length+ys.length-i) [aI 0,aB false,aI 0,aI 0,aI 0,aS ([]),aN]).take i++ys++(xs.take i++List.replicate (xs.length+ys.length-i) [aI 0,aB false,aI 0,aI 0,aI 0,aS ([]),aN]).drop (i+ys.length)))) (Qgy (by simp only [List.length_append,List.length_take,List.length_drop,List.length_replicate];omega)) fun _=>
 .st (rowR 100) (V2,100,7,(xs.take i++List.replicate (xs.length+ys.length-i) [aI 0,aB false,aI 0,aI 0,aI 0,aS ([]),aN]).take i++ys++(xs.take i++List.replicate (xs.length+ys.length-i) [aI 0,aB false,aI 0,aI 0,aI 0,aS ([]),aN]).drop (i+ys.length)) (fun _ σ=>σ) (Qbz 100 (by simp only [List.length_append,List.length_take,List.length_drop,List.length_replicate];omega)) fun a2r=>
 .ord [0,1,2,3,4,5,6,7,8]<|.run 4 [rng .i64 ((i:Int)+((ys).length:Int))] ⟨Qas (by omega) (by omega),trivial⟩<|
 .op (rsO Tryz.prog) (100,V2,i+(xs.length+ys.length-i),7,(i:Int)+((ys).length:Int),some 50) (fun (_:Unit) σ=>σ.put (some 50) (.rs 100 V2 7 (i+ys.length))) (Qje (i+ys.length) a2r.2.1 (by omega) (by simp only [List.length_append,List.length_take,List.length_drop,List.length_replicate];omega) a2r.2.2) fun _=>
 .r 2<|.slc 7 true xs (some (i:Int)) none none i xs.length true (.inr rfl) (.inl ⟨rfl,rfl⟩) (.inl ⟨rfl,fun _=>⟨rfl,rfl⟩⟩) (by omega) (by omega)<|
 .op (cpR Tryz.prog) (100,V2,7,(i+ys.length),V2,100,7,(xs.take i++List.replicate (xs.length+ys.length-i) [aI 0,aB false,aI 0,aI 0,aI 0,aS ([]),aN]).take i++ys++(xs.take i++List.replicate (xs.length+ys.length-i) [aI 0,aB false,aI 0,aI 0,aI 0,aS ([]),aN]).drop (i+ys.length),7,(xs.take xs.length).drop i,7,some 54) (fun (_:Unit) σ=>(σ.put (some 54) (aI (((xs.take xs.length).drop i).length:Int))).setB 100 (.row V2 100 7 (((xs.take i++List.replicate (xs.length+ys.length-i) [aI 0,aB false,aI 0,aI 0,aI 0,aS ([]),aN]).take i++ys++(xs.take i++List.replicate (xs.length+ys.length-i) [aI 0,aB false,aI 0,aI 0,aI 0,aS ([]),aN]).drop (i+ys.length)).take (i+ys.length)++((xs.take xs.length).drop i)++((xs.take i++List.replicate (xs.length+ys.length-i) [aI 0,aB false,aI 0,aI 0,aI 0,aS ([]),aN]).take i++ys++(xs.take i++List.replicate (xs.length+ys.length-i) [aI 0,aB false,aI 0,aI 0,aI 0,aS ([]),aN]).drop (i+ys.length)).drop ((i+ys.length)+((xs.take xs.length).drop i).length)))) (Qgy (by simp only [List.length_append,List.length_take,List.length_drop,List.length_replicate];omega)) fun _=>
 .r 2<|.frz 100 [6] [] [V2=V2,i+(xs.length+ys.length-i)=(((xs.take i++List.replicate (xs.length+ys.length-i) [aI 0,aB false,aI 0,aI 0,aI 0,aS ([]),aN]).take i++ys++(xs.take i++List.replicate (xs.length+ys.length-i) [aI 0,aB false,aI 0,aI 0,aI 0,aS ([]),aN]).drop (i+ys.length)).take (i+ys.length)++((xs.take xs.length).drop i)++((xs.take i++List.replicate (xs.length+ys.length-i) [aI 0,aB false,aI 0,aI 0,aI 0,aS ([]),aN]).take i++ys++(xs.take i++List.replicate (xs.length+ys.length-i) [aI 0,aB false,aI 0,aI 0,aI 0,aS ([]),aN]).drop (i+ys.length)).drop ((i+ys.length)+((xs.take xs.length).drop i).length)).length] ⟨rfl,(by first | rfl | (simp;done) | (simp;omega)),trivial⟩<|
 .fin (x:=.sl 7 false (((xs.take i++List.replicate (xs.length+ys.length-i) [aI 0,aB false,aI 0,aI 0,aI 0,aS ([]),aN]).take i++ys++(xs.take i++List.replicate (xs.length+ys.length-i) [aI 0,aB false,aI 0,aI 0,aI 0,aS ([]),aN]).drop (i+ys.length)).take (i+ys.length)++((xs.take xs.length).drop i)++((xs.take i++List.replicate (xs.length+ys.length-i) [aI 0,aB false,aI 0,aI 0,aI 0,aS ([]),aN]).take i++ys++(xs.take i++List.replicate (xs.length+ys.length-i) [aI 0,aB false,aI 0,aI 0,aI 0,aS ([]),aN]).drop (i+ys.length)).drop ((i+ys.length)+((xs.take xs.length).drop i).length))) (r:=.sl 7 false (xs.take i++ys++xs.drop i)) [] trivial (by exact Sub.of_eq (congrArg (AV.sl 7 false) (Zax xs ys i _ (by omega))))) Tryz.func161 rfl (by kernel_rfl) (by kernel_rfl)
theorem Zaz (xs ys:List (List AV)) (i:Nat) (tv:Bool) (hi:i≤xs.length) (h1:1≤ys.length) (hn:xs.length≤100000) (hm:ys.length≤100000) (hx:∀ l∈xs,l.length=2) (hy:∀ l∈ys,l.length=2):Qaj Tryz.prog 162 [.sl 2 true xs,aI (i:Int),.sl 2 false ys] (.sl 2 false (xs.take i++ys++xs.drop i)):=by
 exact Qac (F:=Tryz.f162) 400 (
 .r 1<|.r 2<|.slc 2 true xs (some (i:Int)) none none i xs.length true (.inr rfl) (.inl ⟨rfl,rfl⟩) (.inl ⟨rfl,fun _=>⟨rfl,rfl⟩⟩) (by omega) (by omega)<|
 .r 3<|.r 2<|.is 16 (show (((ys).length:Int)==0)=false from (beq_eq_false_iff_ne.2 (by omega)))<|.r 3<|.r 3<|.br 22 ((i:Int)==((xs).length:Int)) (fun q1=>have p1:=beqT q1;.r 2<|.appNew 16 2 (x0:=.sl 2 true xs) xs ys (sR) (by omega) (by intro l hl;rcases List.mem_append.1 hl with h | h;exact hx l h;exact hy l h) (by omega) (by omega) fun V1=>
 .r 1<|.frz 25 [6] [] [V1=V1,(xs++ys).length=(xs++ys).length] ⟨rfl,(by first | rfl | (simp;done) | (simp;omega)),trivial⟩<|
 .fin (x:=.sl 2 false (xs++ys)) (r:=.sl 2 false (xs.take i++ys++xs.drop i)) [] trivial (by exact Sub.of_eq (by rw [show i=xs.length from by omega];simp)))
 <| fun q1=>have p1:=beqF q1;.run 4 [rng .i64 (((xs).length:Int)+((ys).length:Int))] ⟨Qas (by omega) (by omega),trivial⟩<|
 .op (capO Tryz.prog) (2,xs,some 30) (fun (_:Unit) σ=>σ.put (some 30) (aI (xs.length:Int))) (Qod) fun _=>
 .r 1<|.is 31 (show (decide ((((xs).length:Int)+((ys).length:Int))>(xs.length:Int)))=true from (decide_eq_true (by omega)))<|.r 2<|.op (slcO Tryz.prog) (.sl 2 true xs,none,some (i:Int),none,some 34) (fun (_:Unit) σ=>σ.put (some 34) (.pre 2 xs i)) (Qoa i (by omega) (by omega)) fun _=>
 .run 5 [rng .i64 (((xs).length:Int)+((ys).length:Int)),rng .i64 ((((xs).length:Int)+((ys).length:Int))-(i:Int))] ⟨Qas (by omega) (by omega),Qas (by omega) (by omega),trivial⟩<|
 .op (zrR Tryz.prog 100) (2,xs,i,(((xs).length:Int)+((ys).length:Int))-(i:Int),23,95,[aI 0,aI 0],40) (fun (V:Value) σ=>(σ.put (some 40) (.rw 100 V (i+(xs.length+ys.length-i)))).setB 100 (.row V 95 2 (xs.take i++List.replicate (xs.length+ys.length-i) [aI 0,aI 0]))) (Qr5 (xs.length+ys.length-i) 16 (by kernel_rfl) (by omega) (by omega) (by omega) (by omega) (by omega) (by omega)) fun V2=>
 .r 1<|.st (rowR 100) (V2,95,2,xs.take i++List.replicate (xs.length+ys.length-i) [aI 0,aI 0]) (fun _ σ=>σ) (Qbz 100 (by simp only [List.length_append,List.length_take,List.length_drop,List.length_replicate];omega)) fun a1r=>
 .r 2<|.op (rsO Tryz.prog) (100,V2,i+(xs.length+ys.length-i),2,(i:Int),some 43) (fun (_:Unit) σ=>σ.put (some 43) (.rs 100 V2 2 i)) (Qje i a1r.2.1 (by omega) (by simp only [List.length_append,List.length_take,List.length_drop,List.length_replicate];omega) a1r.2.2) fun _=>
 .r 1<|.op (cpR Tryz.prog) (100,V2,2,i,V2,95,2,xs.take i++List.replicate (xs.length+ys.length-i) [aI 0,aI 0],2,ys,2,some 45) (fun (_:Unit) σ=>(σ.put (some 45) (aI (ys.length:Int))).setB 100 (.row V2 95 2 ((xs.take i++List.replicate (xs.length+ys.length-i) [aI 0,aI 0]).take i++ys++(xs.take i++List.replicate (xs.length+ys.length-i) [aI 0,aI 0]).drop (i+ys.length)))) (Qgy (by simp only [List.length_append,List.length_take,List.length_drop,List.length_replicate];omega)) fun _=>
 .st (rowR 100) (V2,95,2,(xs.take i++List.replicate (xs.length+ys.length-i) [aI 0,aI 0]).take i++ys++(xs.take i++List.replicate (xs.length+ys.length-i) [aI 0,aI 0]).drop (i+ys.length)) (fun _ σ=>σ) (Qbz 100 (by simp only [List.length_append,List.length_take,List.length_drop,List.length_replicate];omega)) fun a2r=>
 .ord [0,1,2,3,4,5,6,7,8]<|.run 4 [rng .i64 ((i:Int)+((ys).length:Int))] ⟨Qas (by omega) (by omega),trivial⟩<|
 .op (rsO Tryz.prog) (100,V2,i+(xs.length+ys.length-i),2,(i:Int)+((ys).length:Int),some 50) (fun (_:Unit) σ=>σ.put (some 50) (.rs 100 V2 2 (i+ys.length))) (Qje (i+ys.length) a2r.2.1 (by omega) (by simp only [List.length_append,List.length_take,List.length_drop,List.length_replicate];omega) a2r.2.2) fun _=>
 .r 2<|.slc 2 true xs (some (i:Int)) none none i xs.length true (.inr rfl) (.inl ⟨rfl,rfl⟩) (.inl ⟨rfl,fun _=>⟨rfl,rfl⟩⟩) (by omega) (by omega)<|
 .op (cpR Tryz.prog) (100,V2,2,(i+ys.length),V2,95,2,(xs.take i++List.replicate (xs.length+ys.length-i) [aI 0,aI 0]).take i++ys++(xs.take i++List.replicate (xs.length+ys.length-i) [aI 0,aI 0]).drop (i+ys.length),2,(xs.take xs.length).drop i,2,some 54) (fun (_:Unit) σ=>(σ.put (some 54) (aI (((xs.take xs.length).drop i).length:Int))).setB 100 (.row V2 95 2 (((xs.take i++List.replicate (xs.length+ys.length-i) [aI 0,aI 0]).take i++ys++(xs.take i++List.replicate (xs.length+ys.length-i) [aI 0,aI 0]).drop (i+ys.length)).take (i+ys.length)++((xs.take xs.length).drop i)++((xs.take i++List.replicate (xs.length+ys.length-i) [aI 0,aI 0]).take i++ys++(xs.take i++List.replicate (xs.length+ys.length-i) [aI 0,aI 0]).drop (i+ys.length)).drop ((i+ys.length)+((xs.take xs.length).drop i).length)))) (Qgy (by simp only [List.length_append,List.length_take,List.length_drop,List.length_replicate];omega)) fun _=>
 .r 2<|.frz 100 [6] [] [V2=V2,i+(xs.length+ys.length-i)=(((xs.take i++List.replicate (xs.length+ys.length-i) [aI 0,aI 0]).take i++ys++(xs.take i++List.replicate (xs.length+ys.length-i) [aI 0,aI 0]).drop (i+ys.length)).take (i+ys.length)++((xs.take xs.length).drop i)++((xs.take i++List.replicate (xs.length+ys.length-i) [aI 0,aI 0]).take i++ys++(xs.take i++List.replicate (xs.length+ys.length-i) [aI 0,aI 0]).drop (i+ys.length)).drop ((i+ys.length)+((xs.take xs.length).drop i).length)).length] ⟨rfl,(by first | rfl | (simp;done) | (simp;omega)),trivial⟩<|
 .fin (x:=.sl 2 false (((xs.take i++List.replicate (xs.length+ys.length-i) [aI 0,aI 0]).take i++ys++(xs.take i++List.replicate (xs.length+ys.length-i) [aI 0,aI 0]).drop (i+ys.length)).take (i+ys.length)++((xs.take xs.length).drop i)++((xs.take i++List.replicate (xs.length+ys.length-i) [aI 0,aI 0]).take i++ys++(xs.take i++List.replicate (xs.length+ys.length-i) [aI 0,aI 0]).drop (i+ys.length)).drop ((i+ys.length)+((xs.take xs.length).drop i).length))) (r:=.sl 2 false (xs.take i++ys++xs.drop i)) [] trivial (by exact Sub.of_eq (congrArg (AV.sl 2 false) (Zax xs ys i _ (by omega))))) Tryz.func162 rfl (by kernel_rfl) (by kernel_rfl)
theorem Zes (xs ys:List (List AV)) (i:Nat) (tv:Bool) (hi:i≤xs.length) (h1:1≤ys.length) (hn:xs.length≤100000) (hm:ys.length≤100000) (hx:∀ l∈xs,l.length=2) (hy:∀ l∈ys,l.length=2):Qed Tryz.prog 160 [.sl 2 true xs,aI (i:Int),.sl 2 false ys] 98 2 (xs.take i++ys++xs.drop i):=by
 exact Qee (F:=Tryz.f160) 400 (
 .r 1<|.r 2<|.slc 2 true xs (some (i:Int)) none none i xs.length true (.inr rfl) (.inl ⟨rfl,rfl⟩) (.inl ⟨rfl,fun _=>⟨rfl,rfl⟩⟩) (by omega) (by omega)<|
 .r 3<|.r 2<|.is 16 (show (((ys).length:Int)==0)=false from (beq_eq_false_iff_ne.2 (by omega)))<|.r 3<|.r 3<|.br 22 ((i:Int)==((xs).length:Int)) (fun q1=>have p1:=beqT q1;.r 2<|.appNew 32 2 (x0:=.sl 2 true xs) xs ys (sR) (by omega) (by intro l hl;rcases List.mem_append.1 hl with h | h;exact hx l h;exact hy l h) (by omega) (by omega) fun V1=>
 .r 1<|.finRow (x:=xs++ys) (r:=xs.take i++ys++xs.drop i) [] trivial 25 98 2 ((xs++ys).length) V1 (by rw [show i=xs.length from by omega];simp))
 <| fun q1=>have p1:=beqF q1;.run 4 [rng .i64 (((xs).length:Int)+((ys).length:Int))] ⟨Qas (by omega) (by omega),trivial⟩<|
 .op (capO Tryz.prog) (2,xs,some 30) (fun (_:Unit) σ=>σ.put (some 30) (aI (xs.length:Int))) (Qod) fun _=>
 .r 1<|.is 31 (show (decide ((((xs).length:Int)+((ys).length:Int))>(xs.length:Int)))=true from (decide_eq_true (by omega)))<|.r 2<|.op (slcO Tryz.prog) (.sl 2 true xs,none,some (i:Int),none,some 34) (fun (_:Unit) σ=>σ.put (some 34) (.pre 2 xs i)) (Qoa i (by omega) (by omega)) fun _=>
 .run 5 [rng .i64 (((xs).length:Int)+((ys).length:Int)),rng .i64 ((((xs).length:Int)+((ys).length:Int))-(i:Int))] ⟨Qas (by omega) (by omega),Qas (by omega) (by omega),trivial⟩<|
 .op (zrR Tryz.prog 100) (2,xs,i,(((xs).length:Int)+((ys).length:Int))-(i:Int),22,98,[aI 0,aN],40) (fun (V:Value) σ=>(σ.put (some 40) (.rw 100 V (i+(xs.length+ys.length-i)))).setB 100 (.row V 98 2 (xs.take i++List.replicate (xs.length+ys.length-i) [aI 0,aN]))) (Qr5 (xs.length+ys.length-i) 32 (by kernel_rfl) (by omega) (by omega) (by omega) (by omega) (by omega) (by omega)) fun V2=>
 .r 1<|.st (rowR 100) (V2,98,2,xs.take i++List.replicate (xs.length+ys.length-i) [aI 0,aN]) (fun _ σ=>σ) (Qbz 100 (by simp only [List.length_append,List.length_take,List.length_drop,List.length_replicate];omega)) fun a1r=>
 .r 2<|.op (rsO Tryz.prog) (100,V2,i+(xs.length+ys.length-i),2,(i:Int),some 43) (fun (_:Unit) σ=>σ.put (some 43) (.rs 100 V2 2 i)) (Qje i a1r.2.1 (by omega) (by simp only [List.length_append,List.length_take,List.length_drop,List.length_replicate];omega) a1r.2.2) fun _=>
 .r 1<|.op (cpR Tryz.prog) (100,V2,2,i,V2,98,2,xs.take i++List.replicate (xs.length+ys.length-i) [aI 0,aN],2,ys,2,some 45) (fun (_:Unit) σ=>(σ.put (some 45) (aI (ys.length:Int))).setB 100 (.row V2 98 2 ((xs.take i++List.replicate (xs.length+ys.length-i) [aI 0,aN]).take i++ys++(xs.take i++List.replicate (xs.length+ys.length-i) [aI 0,aN]).drop (i+ys.length)))) (Qgy (by simp only [List.length_append,List.length_take,List.length_drop,List.length_replicate];omega)) fun _=>
 .st (rowR 100) (V2,98,2,(xs.take i++List.replicate (xs.length+ys.length-i) [aI 0,aN]).take i++ys++(xs.take i++List.replicate (xs.length+ys.length-i) [aI 0,aN]).drop (i+ys.length)) (fun _ σ=>σ) (Qbz 100 (by simp only [List.length_append,List.length_take,List.length_drop,List.length_replicate];omega)) fun a2r=>
 .ord [0,1,2,3,4,5,6,7,8]<|.run 4 [rng .i64 ((i:Int)+((ys).length:Int))] ⟨Qas (by omega) (by omega),trivial⟩<|
 .op (rsO Tryz.prog) (100,V2,i+(xs.length+ys.length-i),2,(i:Int)+((ys).length:Int),some 50) (fun (_:Unit) σ=>σ.put (some 50) (.rs 100 V2 2 (i+ys.length))) (Qje (i+ys.length) a2r.2.1 (by omega) (by simp only [List.length_append,List.length_take,List.length_drop,List.length_replicate];omega) a2r.2.2) fun _=>
 .r 2<|.slc 2 true xs (some (i:Int)) none none i xs.length true (.inr rfl) (.inl ⟨rfl,rfl⟩) (.inl ⟨rfl,fun _=>⟨rfl,rfl⟩⟩) (by omega) (by omega)<|
 .op (cpR Tryz.prog) (100,V2,2,(i+ys.length),V2,98,2,(xs.take i++List.replicate (xs.length+ys.length-i) [aI 0,aN]).take i++ys++(xs.take i++List.replicate (xs.length+ys.length-i) [aI 0,aN]).drop (i+ys.length),2,(xs.take xs.length).drop i,2,some 54) (fun (_:Unit) σ=>(σ.put (some 54) (aI (((xs.take xs.length).drop i).length:Int))).setB 100 (.row V2 98 2 (((xs.take i++List.replicate (xs.length+ys.length-i) [aI 0,aN]).take i++ys++(xs.take i++List.replicate (xs.length+ys.length-i) [aI 0,aN]).drop (i+ys.length)).take (i+ys.length)++((xs.take xs.length).drop i)++((xs.take i++List.replicate (xs.length+ys.length-i) [aI 0,aN]).take i++ys++(xs.take i++List.replicate (xs.length+ys.length-i) [aI 0,aN]).drop (i+ys.length)).drop ((i+ys.length)+((xs.take xs.length).drop i).length)))) (Qgy (by simp only [List.length_append,List.length_take,List.length_drop,List.length_replicate];omega)) fun _=>
 .r 2<|.finRow (x:=((xs.take i++List.replicate (xs.length+ys.length-i) [aI 0,aN]).take i++ys++(xs.take i++List.replicate (xs.length+ys.length-i) [aI 0,aN]).drop (i+ys.length)).take (i+ys.length)++((xs.take xs.length).drop i)++((xs.take i++List.replicate (xs.length+ys.length-i) [aI 0,aN]).take i++ys++(xs.take i++List.replicate (xs.length+ys.length-i) [aI 0,aN]).drop (i+ys.length)).drop ((i+ys.length)+((xs.take xs.length).drop i).length)) (r:=xs.take i++ys++xs.drop i) [] trivial 100 98 2 (i+(xs.length+ys.length-i)) V2 (by exact Zax xs ys i _ (by omega))) Tryz.func160 rfl (by kernel_rfl) (by kernel_rfl)
theorem Qvq (l:List Ver) (i:Nat) (c:Ver) (hi:i≤l.length) (hn:l.length≤100000):Qaj Tryz.prog 105 [.sl 7 false (l.map verA),aI (i:Int),.agg [aI c.stamp,aB c.gone,aI c.n.ino,aI c.n.kind,aI c.n.links,aS c.n.text,.sl 2 false (c.n.l.map entA)]] (.sl 7 false ((l.take i++c :: l.drop i).map verA)):=by
 exact Qac (F:=Tryz.f105) 400 (
 .new fun b1=>.r 1<|.ord [0,1,2,3,4,5,6,7,8,9,10]<|.r 3<|.val 9 (show (aI ((l.map verA).length:Int):AV)=aI (l.length:Int) from by rw [List.length_map])<|.r 2<|.val 11 (show (aI ((l.map verA).length:Int):AV)=aI (l.length:Int) from by rw [List.length_map])<|.slc 7 false (l.map verA) none (some (l.length:Int)) (some (l.length:Int)) 0 l.length true (.inl ⟨rfl,rfl⟩) (.inr rfl) (.inr ⟨rfl,rfl⟩) (by first | omega | (simp;done) | (simp;omega)) (by first | omega | (simp;done) | (simp;omega))<|
 .run 3 [b1=b1] rt1<|
 .callS (args0:=[.sl 7 true (((l.map verA).take l.length).drop 0),aI (i:Int),.sl 7 true ([[aI c.stamp,aB c.gone,aI c.n.ino,aI c.n.kind,aI c.n.links,aS c.n.text,.sl 2 false (c.n.l.map entA)]])]) (args:=[.sl 7 true (l.map verA),aI (i:Int),.sl 7 false ([[aI c.stamp,aB c.gone,aI c.n.ino,aI c.n.kind,aI c.n.links,aS c.n.text,.sl 2 false (c.n.l.map entA)]])]) ⟨Sub.of_eq (by rw [List.drop_zero,List.take_of_length_le (by simp)]),sR,Sub.loose _ _ _,trivial⟩ (Zay (l.map verA) ([[aI c.stamp,aB c.gone,aI c.n.ino,aI c.n.kind,aI c.n.links,aS c.n.text,.sl 2 false (c.n.l.map entA)]]) i false (by rw [List.length_map];omega) (by simp) (by rw [List.length_map];omega) (by simp) (fun l h=>by obtain ⟨z,_,rfl⟩:=List.mem_map.1 h;rfl) (fun l h=>by obtain rfl:=List.mem_singleton.1 h;rfl))<|
 .r 1<|.fin (x:=.sl 7 false ((l.map verA).take i++[[aI c.stamp,aB c.gone,aI c.n.ino,aI c.n.kind,aI c.n.links,aS c.n.text,.sl 2 false (c.n.l.map entA)]]++(l.map verA).drop i)) (r:=.sl 7 false ((l.take i++c :: l.drop i).map verA)) [] trivial (by exact Sub.of_eq (by simp [verA,List.map_take,List.map_drop]))) Tryz.func105 rfl (by kernel_rfl) (by kernel_rfl)
theorem Qvr (l:List Cnt) (i:Nat) (c:Cnt) (hi:i≤l.length) (hn:l.length≤100000):Qaj Tryz.prog 107 [.sl 2 false (l.map cntA),aI (i:Int),.agg [aI c.stamp,aI c.next]] (.sl 2 false ((l.take i++c :: l.drop i).map cntA)):=by
 exact Qac (F:=Tryz.f107) 400 (
 .new fun b1=>.r 1<|.ord [0,1,2,3,4,5,6,7,8,9,10]<|.r 3<|.val 9 (show (aI ((l.map cntA).length:Int):AV)=aI (l.length:Int) from by rw [List.length_map])<|.r 2<|.val 11 (show (aI ((l.map cntA).length:Int):AV)=aI (l.length:Int) from by rw [List.length_map])<|.slc 2 false (l.map cntA) none (some (l.length:Int)) (some (l.length:Int)) 0 l.length true (.inl ⟨rfl,rfl⟩) (.inr rfl) (.inr ⟨rfl,rfl⟩) (by first | omega | (simp;done) | (simp;omega)) (by first | omega | (simp;done) | (simp;omega))<|
 .run 3 [b1=b1] rt1<|
 .callS (args0:=[.sl 2 true (((l.map cntA).take l.length).drop 0),aI (i:Int),.sl 2 true ([[aI c.stamp,aI c.next]])]) (args:=[.sl 2 true (l.map cntA),aI (i:Int),.sl 2 false ([[aI c.stamp,aI c.next]])]) ⟨Sub.of_eq (by rw [List.drop_zero,List.take_of_length_le (by simp)]),sR,Sub.loose _ _ _,trivial⟩ (Zaz (l.map cntA) ([[aI c.stamp,aI c.next]]) i false (by rw [List.length_map];omega) (by simp) (by rw [List.length_map];omega) (by simp) (fun l h=>by obtain ⟨z,_,rfl⟩:=List.mem_map.1 h;rfl) (fun l h=>by obtain rfl:=List.mem_singleton.1 h;rfl))<|
 .r 1<|.fin (x:=.sl 2 false ((l.map cntA).take i++[[aI c.stamp,aI c.next]]++(l.map cntA).drop i)) (r:=.sl 2 false ((l.take i++c :: l.drop i).map cntA)) [] trivial (by exact Sub.of_eq (by simp [cntA,List.map_take,List.map_drop]))) Tryz.func107 rfl (by kernel_rfl) (by kernel_rfl)
theorem Qxr (l:List Chn) (i:Nat) (c:Chn) (hi:i≤l.length) (hn:l.length≤100000):Qed Tryz.prog 104 [.sl 2 false (l.map chnA),aI (i:Int),.agg [aI c.ino,.sl 7 false (c.l.map verA)]] 98 2 ((l.take i++c :: l.drop i).map chnA):=by
 exact Qee (F:=Tryz.f104) 400 (
 .new fun b1=>.r 1<|.ord [0,1,2,3,4,5,6,7,8,9,10]<|.r 3<|.val 9 (show (aI ((l.map chnA).length:Int):AV)=aI (l.length:Int) from by rw [List.length_map])<|.r 2<|.val 11 (show (aI ((l.map chnA).length:Int):AV)=aI (l.length:Int) from by rw [List.length_map])<|.slc 2 false (l.map chnA) none (some (l.length:Int)) (some (l.length:Int)) 0 l.length true (.inl ⟨rfl,rfl⟩) (.inr rfl) (.inr ⟨rfl,rfl⟩) (by first | omega | (simp;done) | (simp;omega)) (by first | omega | (simp;done) | (simp;omega))<|
 .run 3 [b1=b1] rt1<|
 .op (crR Tryz.prog 16) (160,[.sl 2 true (((l.map chnA).take l.length).drop 0),aI (i:Int),.sl 2 true ([[aI c.ino,.sl 7 false (c.l.map verA)]])],16) (fun (V:Value) σ=>(σ.put (some 16) (.rw 16 V ((l.map chnA).take i++[[aI c.ino,.sl 7 false (c.l.map verA)]]++(l.map chnA).drop i).length)).setB 16 (.row V 98 2 ((l.map chnA).take i++[[aI c.ino,.sl 7 false (c.l.map verA)]]++(l.map chnA).drop i))) (Qge (args':=[.sl 2 true (l.map chnA),aI (i:Int),.sl 2 false ([[aI c.ino,.sl 7 false (c.l.map verA)]])]) ⟨Sub.of_eq (by rw [List.drop_zero,List.take_of_length_le (by simp)]),sR,Sub.loose _ _ _,trivial⟩ (Zes (l.map chnA) ([[aI c.ino,.sl 7 false (c.l.map verA)]]) i false (by rw [List.length_map];omega) (by simp) (by rw [List.length_map];omega) (by simp) (fun l h=>by obtain ⟨z,_,rfl⟩:=List.mem_map.1 h;rfl) (fun l h=>by obtain rfl:=List.mem_singleton.1 h;rfl))) fun V1=>
 .r 1<|.finRow (x:=(l.map chnA).take i++[[aI c.ino,.sl 7 false (c.l.map verA)]]++(l.map chnA).drop i) (r:=(l.take i++c :: l.drop i).map chnA) [] trivial 16 98 2 (((l.map chnA).take i++[[aI c.ino,.sl 7 false (c.l.map verA)]]++(l.map chnA).drop i).length) V1 (by simp [chnA,List.map_take,List.map_drop])) Tryz.func104 rfl (by kernel_rfl) (by kernel_rfl)
def Qao (l:List Chn) (n:Int):Nat:=(l.takeWhile fun c=>decide (c.ino<n)).length
def Qc7 (l:List Chn) (n:Int):Bool:=match l[Qao l n]? with | some c=>c.ino==n | none=>false
theorem Qqd {n:Int}:∀ {l:List Chn},AllQ (fun _ c=>c.ino<n) l→Qao l n=l.length
 | [],_=>rfl
 | x :: r,h=>by
  have h1:x.ino<n:=h 0 x rfl
  have h2:=Qqd (l:=r) fun i e he=>h (i+1) e (by simpa using he)
  unfold Qao at h2 ⊢
  simp [h1,h2]
theorem Qol {n:Int}:∀ {l:List Chn} {k:Nat} {x:Chn},Qa1 (fun _ c=>c.ino<n) l k→l[k]?=some x→¬ x.ino<n→Qao l n=k
 | y :: r,0,x,_,hx,hp=>by
  simp at hx;subst hx
  unfold Qao
  simp [hp]
 | y :: r,k+1,x,h,hx,hp=>by
  have h1:y.ino<n:=h 0 y (by omega) rfl
  have h2:=Qol (l:=r) (k:=k) (fun j e hj he=>h (j+1) e (by omega) (by simpa using he)) (by simpa using hx) hp
  unfold Qao at h2 ⊢
  simp [h1,h2]
theorem Qty {n:Int} {l:List Chn} {k:Nat} {x:Chn} (h:Qao l n=k) (hx:l[k]?=some x):Qc7 l n=(x.ino==n):=by
 unfold Qc7;rw [h,hx]
theorem Qxz {n:Int} {l:List Chn} (h:Qao l n=l.length):Qc7 l n=false:=by
 unfold Qc7;rw [h,List.getElem?_eq_none (Nat.le_refl _)]
def Qai (c:Chg) (st:Int):Ver:=if c.gone then ⟨st,true,nod0⟩ else ⟨st,false,⟨c.ino,c.n.kind,c.n.links,c.n.text,c.n.l⟩⟩
theorem Qso (l:List Chn) (n:Int) (hl:l.length≤100000):Qaj Tryz.prog 103 [.sl 2 false (l.map chnA),aI n] (.tup [aI (Qao l n:Int),aB (Qc7 l n)]):=by
 exact Qac (F:=Tryz.f103) 400 (
 .r 2<|.r 2<|.val 11 (show (aI ((l.map chnA).length:Int):AV)=aI (l.length:Int) from by rw [List.length_map])<|.r 2<|.r 2<|.val 13 (show (aI ((l.map chnA).length:Int):AV)=aI (l.length:Int) from by rw [List.length_map])<|.r 1<|let L1:Lp (Nat):=⟨fun a1=>⟨[(1,aI n),(12,.sl 2 false (l.map chnA)),(13,aI (l.length:Int)),(14,aI (a1:Int)),(6,aI (l.length:Int)),(7,aB false)],[]⟩,fun a1=>l.length-a1,fun a1=>a1≤l.length∧Qa1 (fun _ c=>c.ino<n) l a1⟩
 .loop L1 0 (show 0≤l.length∧Qa1 (fun _ c=>c.ino<n) l 0 from ⟨Nat.zero_le _,Qa1.zero _ _⟩) ⟨[(1,aI n),(12,.sl 2 false (l.map chnA)),(13,aI (l.length:Int)),(14,aI 0),(6,aI (l.length:Int)),(7,aB false)],[]⟩ ⟨sR,sR,sR,Sub.of_eq (congrArg aI (by first | omega | rfl)),sR,sR,trivial⟩ trivial fun a1 ha1=>
 (fun (k:Nat) (hH1:k≤l.length∧Qa1 (fun _ c=>c.ino<n) l k)=>.r 1<|.br 15 (decide ((k:Int)<(l.length:Int))) (fun q1=>have p1:=decT q1;.r 1<|.idxM l chnA k (m:=(k:Int)) rfl (by omega) fun x1 hx1=>
 .r 1<|.new fun b1=>.run 2 [b1=b1] rt1<|
 .run 5 [b1=b1] rt1<|
 .br 19 (decide (x1.ino<n)) (fun q2=>have p2:=decT q2;.run 2 [rng .i64 ((k:Int)+1)] ⟨Qas (by omega) (by omega),trivial⟩<|
 .back L1 k (k+1) (show (k+1)≤l.length∧Qa1 (fun _ c=>c.ino<n) l (k+1) from ⟨by omega,hH1.2.step hx1 (by omega)⟩) (show l.length-(k+1)<l.length-k from (by omega)) ⟨[(1,aI n),(12,.sl 2 false (l.map chnA)),(13,aI (l.length:Int)),(14,aI ((k:Int)+1)),(6,aI (l.length:Int)),(7,aB false)],[]⟩ ⟨sR,sR,sR,Sub.of_eq (congrArg aI (by first | omega | rfl)),sR,sR,trivial⟩ trivial)
 <| fun q2=>have p2:=decF q2;.run 5 [b1=b1] rt1<|
 .br 24 (x1.ino==n) (fun q3=>have p3:=beqT q3;.r 1<|.r 2<|.r 4<|.fin (x:=.tup [aI (k:Int),aB true]) (r:=.tup [aI (Qao l n:Int),aB (Qc7 l n)]) [] trivial (by
  have e:=Qol hH1.2 hx1 (by omega)
  rw [Qty e hx1,e,show (x1.ino==n)=true from q3]
  exact sR))
 <| fun q3=>have p3:=beqF q3;.r 2<|.r 4<|.fin (x:=.tup [aI (k:Int),aB false]) (r:=.tup [aI (Qao l n:Int),aB (Qc7 l n)]) [] trivial (by
  have e:=Qol hH1.2 hx1 (by omega)
  rw [Qty e hx1,e,show (x1.ino==n)=false from q3]
  exact sR))
 <| fun q1=>have p1:=decF q1;.r 4<|.fin (x:=.tup [aI (l.length:Int),aB false]) (r:=.tup [aI (Qao l n:Int),aB (Qc7 l n)]) [] trivial (by
  have e:=Qqd (hH1.2.full (by omega))
  rw [Qxz e,e]
  exact sR)) a1 ha1) Tryz.func103 rfl (by kernel_rfl) (by kernel_rfl)
theorem Qep (c:Chg) (st:Int):Qaj Tryz.prog 106 [.agg [aI c.ino,aB c.gone,aI c.n.ino,aI c.n.kind,aI c.n.links,aS c.n.text,.sl 2 false (c.n.l.map entA)],aI st] (.agg (verA (Qai c st))):=by
 exact Qac (F:=Tryz.f106) 400 (
 .new fun b1=>.new fun b2=>.run 2 [b1=b1] rt1<|
 .br 7 (c.gone) (fun q1=>have p1:=booT q1;.run 3 [b2=b2] rt1<|
 .fin (x:=.agg [aI st,aB true,aI 0,aI 0,aI 0,aS ([]),aN]) (r:=.agg (verA (Qai c st))) [b2=b2] rt1 (by
  rw [show Qai c st=⟨st,true,nod0⟩ from if_pos q1]
  exact Sub.aggs ⟨sR,sR,sR,sR,sR,sR,Sub.nil _ _,trivial⟩))
 <| fun q1=>have p1:=booF q1;.run 4 [b1=b1] rt1<|
 .new fun b3=>.run 1 [b3=b3] rt1<|
 .run 5 [b1=b1,b3=b3] rt2<|
 .run 2 [b3=b3,b2=b2] rt2<|
 .fin (x:=.agg [aI st,aB false,aI c.ino,aI c.n.kind,aI c.n.links,aS c.n.text,.sl 2 false (c.n.l.map entA)]) (r:=.agg (verA (Qai c st))) [b2=b2] rt1 (by
  rw [show Qai c st=_ from if_neg (by rw [q1];simp)]
  exact sR)) Tryz.func106 rfl (by kernel_rfl) (by kernel_rfl)
theorem Qny (xs:List (List AV)) (hl:xs.length≤100000) (hx:∀ l∈xs,l.length=2):Qed Tryz.prog 102 [.sl 2 false xs] 98 2 (xs):=by
 exact Qee (F:=Tryz.f102) 400 (
 .r 1<|.r 1<|.isNil xs fun b1 hnb1=>
 .br 4 (b1) (fun q1=>have p1:=booT q1;.r 1<|.rowNil 199 2 98 2<|.finRow (x:=[]) (r:=xs) [] trivial 199 98 2 (0) (.slice none 0 0) (by exact (hnb1 (by assumption)).symm))
 <| fun q1=>have p1:=booF q1;.lit0 fun V1=>.r 1<|.app 32 V1 ([]:List (List AV)) xs (by simp<;>omega) (by simp<;>omega) fun V2=>
 .r 1<|.finRow (x:=([]:List (List AV))++xs) (r:=xs) [] trivial 5 98 2 (([]:List (List AV)).length+xs.length) V2 (by simp)) Tryz.func102 rfl (by kernel_rfl) (by kernel_rfl)
theorem Qm2 {l:List Chn} {n:Int} (h:Qc7 l n=true):∃ c,l[Qao l n]?=some c∧c.ino=n:=by
 unfold Qc7 at h
 split at h
 ·rename_i c hc
  exact ⟨c,hc,by simpa using h⟩
 ·cases h
theorem Qa2 {l:List Chn} {n:Int} (h:Qc7 l n=true):Qao l n<l.length:=by
 obtain ⟨c,hc,_⟩:=Qm2 h
 exact Qan hc
theorem Qib (l:List Chn) (n:Int):Qao l n≤l.length:=by
 have h:=congrArg List.length (List.takeWhile_append_dropWhile (p:=fun c:Chn=>decide (c.ino<n)) (l:=l))
 rw [List.length_append] at h
 unfold Qao;omega
def Qb1 (r:List Ver) (st:Int):List Ver:=match r[r.length-1]? with
 | some v=>if v.stamp=st then r.take (r.length-1) else r
 | none=>r
theorem Zf1 (st:Int):Qb1 [] st=[]:=rfl
theorem Qvm {r:List Ver} {st:Int} {v:Ver} (h:r[r.length-1]?=some v) (e:v.stamp=st):Qb1 r st=r.take (r.length-1):=by unfold Qb1;rw [h];exact if_pos e
theorem Zcj {r:List Ver} {st:Int} {v:Ver} (h:r[r.length-1]?=some v) (e:¬ v.stamp=st):Qb1 r st=r:=by unfold Qb1;rw [h];exact if_neg e
theorem Qmk (r:List Ver) (st:Int):(Qb1 r st).length≤r.length:=by
 unfold Qb1
 split
 ·split
  ·rw [List.length_take];omega
  ·exact Nat.le_refl _
 ·exact Nat.le_refl _
def putC (l:List Chn) (st n:Int) (v:Ver):List Chn:=
 if Qc7 l n then (match l[Qao l n]? with | some c=>l.set (Qao l n) ⟨c.ino,Qb1 c.l st++[v]⟩ | none=>l)
 else l.take (Qao l n)++⟨n,[v]⟩ :: l.drop (Qao l n)
theorem Qni {l:List Chn} {st n:Int} {v:Ver} {c:Chn} (h:Qc7 l n=true) (hc:l[Qao l n]?=some c):putC l st n v=l.set (Qao l n) ⟨c.ino,Qb1 c.l st++[v]⟩:=by
 unfold putC;rw [if_pos h,hc]
theorem Qub {l:List Chn} {st n:Int} {v:Ver} (h:Qc7 l n=false):putC l st n v=l.take (Qao l n)++⟨n,[v]⟩ :: l.drop (Qao l n):=by
 unfold putC;rw [if_neg (by rw [h];simp)]
theorem Zdy (l:List Chn) (st n:Int) (v:Ver):(putC l st n v).length≤l.length+1:=by
 unfold putC
 split
 ·split
  ·simp
  ·omega
 ·have:=Qib l n
  simp;omega
def Qam (l:List Chn) (st:Int) (cs:List Chg) (k:Nat):List Chn:=(cs.take k).foldl (fun l c=>putC l st c.ino (Qai c st)) l
theorem Qcp {l:List Chn} {st:Int} {cs:List Chg} {k:Nat} {c:Chg} (h:cs[k]?=some c):Qam l st cs (k+1)=putC (Qam l st cs k) st c.ino (Qai c st):=by
 unfold Qam;rw [Qap h,List.foldl_append];rfl
theorem Qiq (l:List Chn) (st:Int) (cs:List Chg):∀ k,(Qam l st cs k).length≤l.length+k
 | 0=>by simp [Qam]
 | k+1=>by
  have ih:=Qiq l st cs k
  cases hc:cs[k]? with
  | none=>
   have e:Qam l st cs (k+1)=Qam l st cs k:=by
    have hk:=List.getElem?_eq_none_iff.1 hc
    unfold Qam
    rw [List.take_of_length_le (by omega),List.take_of_length_le hk]
   rw [e];omega
  | some c=>
   rw [Qcp hc]
   have:=Zdy (Qam l st cs k) st c.ino (Qai c st)
   omega
end Go.Proofs.YtahlldgocpabjaaGreat
