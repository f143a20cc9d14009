import Derived.Test.YtahlldgocpabjaaGreatMrgAC
import Derived.Test.YtahlldgocpabjaaGreatMrgK
import Derived.Test.YtahlldgocpabjaaGreatMrgJ
import Derived.Test.YtahlldgocpabjaaGreatMrgAB
import Derived.Test.YtahlldgocpabjaaGreatMrgR
import Derived.Test.YtahlldgocpabjaaGreatMrgW
import Derived.Test.YtahlldgocpabjaaGreatMrgY
set_option maxRecDepth 100000
set_option maxHeartbeats 8000000
set_option linter.unusedVariables false
set_option linter.unusedSimpArgs false
namespace Go.Proofs.YtahlldgocpabjaaGreat
open Go Go.RowKit Copyhold
theorem Qrc (a b:List Nod) (h:a.length+b.length≤100000):Qaj Tryz.prog 108 [.sl 1 false ([a.map nodA,b.map nodA].map pc5)] (.sl 5 false ((a++b).map nodA)):=by
 have:=Qf4 [a.map nodA,b.map nodA] (by simp) (by simp;omega)
 rw [List.map_append]
 simpa using this
theorem Qq1 (f g:Fsy) (h:f.l.length+g.l.length≤100000):Qaj Tryz.prog 97 [.sl 1 false (((f.l++g.l).map Nod.ino).map intA)] (.sl 1 false ((Qb7 f g).map intA)):=by
 rw [← Zf8]
 exact Qq2 _ (by simp;omega)
theorem Qop (f g:Fsy) (okf:OkF f) (okg:OkF g) (hf:f.l.length≤1000) (hg:g.l.length≤1000) (hr:Qbs f.l) (hrg:Qbs g.l):Qaj Tryz.prog 59 [.agg (fsyA f),.agg (fsyA g)] (.sl 7 false ((Qcd f g).map chgA)):=by
 have hal:(Qb7 f g).length≤f.l.length+g.l.length:=by have h1:=Qkp [] f.l;have h2:=Qkp (Qmv [] f.l) g.l;unfold Qb7;simp at h1;omega
 exact Qac (F:=Tryz.f59) 400 (
 .new fun b1=>.new fun b2=>.r 1<|.r 1<|.rowNil 5 5 3 1<|.run 5 [b1=b1,b2=b2] rt2<|
 .callS (args0:=[.sl 1 true ([[.sl 5 false (f.l.map nodA)],[.sl 5 false (g.l.map nodA)]])]) (args:=[.sl 1 false ([f.l.map nodA,g.l.map nodA].map pc5)]) ⟨pcs2 _ _,trivial⟩ (Qrc f.l g.l (by omega))<|
 .r 1<|.val 21 (show (aI (((f.l++g.l).map nodA).length:Int):AV)=aI ((f.l++g.l).length:Int) from by rw [List.length_map])<|.r 1<|let L1:Lp (Nat × Value):=⟨fun a1=>⟨[(2,.ptr 2 b1 0),(3,.ptr 3 b2 0),(22,aI (a1.1:Int)),(5,.rw 5 a1.2 ((((f.l++g.l).take a1.1).map Nod.ino).length)),(20,.sl 5 false ((f.l++g.l).map nodA)),(21,aI ((f.l++g.l).length:Int))],[(2,.box b1 28 (fsyA f)),(3,.box b2 28 (fsyA g)),(5,.row a1.2 3 1 ((((f.l++g.l).take a1.1).map Nod.ino).map intA))]⟩,fun a1=>(f.l++g.l).length-a1.1,fun a1=>a1.1≤(f.l++g.l).length⟩
 .loop L1 (0,.slice none 0 0) (show 0≤(f.l++g.l).length from Nat.zero_le _) ⟨[(2,.ptr 2 b1 0),(3,.ptr 3 b2 0),(22,aI 0),(5,.rw 5 (.slice none 0 0) 0),(20,.sl 5 false ((f.l++g.l).map nodA)),(21,aI ((f.l++g.l).length:Int))],[(2,.box b1 28 (fsyA f)),(3,.box b2 28 (fsyA g)),(5,.row (.slice none 0 0) 3 1 ([]))]⟩ ⟨sR,sR,Sub.of_eq (congrArg aI (by first | omega | rfl)),sR,sR,sR,trivial⟩ ⟨⟨_,rfl,SubB.refl _⟩,⟨_,rfl,SubB.refl _⟩,⟨_,rfl,SubB.refl _⟩,trivial⟩ fun a1 ha1=>
 (fun (k:Nat) (V:Value) (hH1:k≤(f.l++g.l).length)=>have hfg:(f.l++g.l).length=f.l.length+g.l.length:=List.length_append;.r 1<|.br 23 (decide ((k:Int)<((f.l++g.l).length:Int))) (fun q1=>have p1:=decT q1;.idxM (f.l++g.l) nodA k (m:=(k:Int)) rfl (by omega) fun x1 hx1=>
 .r 1<|.new fun b3=>.run 1 [b3=b3] rt1<|
 .run 4 [b3=b3] rt1<|
 .app 8 V ((((f.l++g.l).take k).map Nod.ino).map intA) ([[aI x1.ino]]) (by first | (have:=Qgp f g m;simp only [List.length_map,List.length_cons,List.length_nil];omega) | (simp only [List.length_map,List.length_cons,List.length_nil,List.length_take,List.length_append];omega)) (by first | (have:=Qgp f g m;simp only [List.length_map,List.length_cons,List.length_nil];omega) | (simp only [List.length_map,List.length_cons,List.length_nil,List.length_take,List.length_append];omega)) fun V1=>
 .r 1<|.run 2 [rng .i64 ((k:Int)+1)] ⟨Qas (by omega) (by omega),trivial⟩<|
 .back L1 (k,V) ((k+1),V1) (show (k+1)≤(f.l++g.l).length from (by show _≤_;omega)) (show (f.l++g.l).length-(k+1)<(f.l++g.l).length-k from (by omega)) ⟨[(2,.ptr 2 b1 0),(3,.ptr 3 b2 0),(22,aI ((k:Int)+1)),(5,.rw 5 V1 (((((f.l++g.l).take k).map Nod.ino).map intA).length+([[aI x1.ino]]:List (List AV)).length)),(20,.sl 5 false ((f.l++g.l).map nodA)),(21,aI ((f.l++g.l).length:Int))],[(2,.box b1 28 (fsyA f)),(3,.box b2 28 (fsyA g)),(5,.row V1 3 1 (((((f.l++g.l).take k).map Nod.ino).map intA)++([[aI x1.ino]])))]⟩ ⟨sR,sR,Sub.of_eq (congrArg aI (by first | omega | rfl)),Sub.of_eq (congrArg (AV.rw 5 V1) (by rw [Qap hx1];simp)),sR,sR,trivial⟩ ⟨⟨_,rfl,SubB.refl _⟩,⟨_,rfl,SubB.refl _⟩,⟨_,rfl,SubB.of_eq (by rw [Qap hx1];simp [intA])⟩,trivial⟩)
 <| fun q1=>have p1:=decF q1;.r 1<|.frz 5 [2,3,5,8,23] [2,3] [V=V,(((f.l++g.l).take k).map Nod.ino).length=((((f.l++g.l).take k).map Nod.ino).map intA).length] ⟨rfl,(by first | rfl | (simp;done) | (simp;omega)),trivial⟩<|
 .rowNil 8 8 152 7<|.r 1<|.callS (args0:=[.sl 1 false ((((f.l++g.l).take k).map Nod.ino).map intA)]) (args:=[.sl 1 false (((f.l++g.l).map Nod.ino).map intA)]) ⟨Sub.of_eq (by rw [Qay (by omega)]),trivial⟩ (Qq1 f g (by omega))<|
 .r 1<|.val 34 (show (aI (((Qb7 f g).map intA).length:Int):AV)=aI ((Qb7 f g).length:Int) from by rw [List.length_map])<|.r 1<|let L2:Lp (Nat × Value):=⟨fun a2=>⟨[(2,.ptr 2 b1 0),(3,.ptr 3 b2 0),(34,aI ((Qb7 f g).length:Int)),(35,aI (a2.1:Int)),(8,.rw 8 a2.2 ((chgL f g a2.1).length)),(33,.sl 1 false ((Qb7 f g).map intA))],[(2,.box b1 28 (fsyA f)),(3,.box b2 28 (fsyA g)),(8,.row a2.2 152 7 ((chgL f g a2.1).map chgR))]⟩,fun a2=>(Qb7 f g).length-a2.1,fun a2=>a2.1≤(Qb7 f g).length⟩
 .loop L2 (0,.slice none 0 0) (show 0≤(Qb7 f g).length from Nat.zero_le _) ⟨[(2,.ptr 2 b1 0),(3,.ptr 3 b2 0),(34,aI ((Qb7 f g).length:Int)),(35,aI 0),(8,.rw 8 (.slice none 0 0) 0),(33,.sl 1 false ((Qb7 f g).map intA))],[(2,.box b1 28 (fsyA f)),(3,.box b2 28 (fsyA g)),(8,.row (.slice none 0 0) 152 7 ([]))]⟩ ⟨sR,sR,sR,Sub.of_eq (congrArg aI (by first | omega | rfl)),sR,sR,trivial⟩ ⟨⟨_,rfl,SubB.refl _⟩,⟨_,rfl,SubB.refl _⟩,⟨_,rfl,SubB.refl _⟩,trivial⟩ fun a2 ha2=>
 (fun (m:Nat) (V:Value) (hH2:m≤(Qb7 f g).length)=>.r 1<|.br 36 (decide ((m:Int)<((Qb7 f g).length:Int))) (fun q2=>have p2:=decT q2;.idxM (Qb7 f g) intA m (m:=(m:Int)) rfl (by omega) fun x2 hx2=>
 .r 2<|.run 2 [b1=b1] rt1<|
 .call (Qce f x2 (by omega) hr)<|
 .r 3<|.new fun b4=>.run 2 [b4=b4] rt1<|
 .run 2 [b2=b2] rt1<|
 .call (Qce g x2 (by omega) hrg)<|
 .r 3<|.new fun b5=>.run 2 [b5=b5] rt1<|
 .r 3<|.br 51 (!(Qar g x2)) (fun q3=>have q3:=notT q3;have p3:=booF q3;.r 4<|.app 80 V ((chgL f g m).map chgR) ([[aI x2,aB true,aI 0,aI 0,aI 0,aS ([]),aN]]) (by first | (have:=Qgp f g m;simp only [List.length_map,List.length_cons,List.length_nil];omega) | (simp only [List.length_map,List.length_cons,List.length_nil,List.length_take,List.length_append];omega)) (by first | (have:=Qgp f g m;simp only [List.length_map,List.length_cons,List.length_nil];omega) | (simp only [List.length_map,List.length_cons,List.length_nil,List.length_take,List.length_append];omega)) fun V2=>
 .r 1<|.run 2 [rng .i64 ((m:Int)+1)] ⟨Qas (by omega) (by omega),trivial⟩<|
 .back L2 (m,V) ((m+1),V2) (show (m+1)≤(Qb7 f g).length from (by show _≤_;omega)) (show (Qb7 f g).length-(m+1)<(Qb7 f g).length-m from (by omega)) ⟨[(2,.ptr 2 b1 0),(3,.ptr 3 b2 0),(34,aI ((Qb7 f g).length:Int)),(35,aI ((m:Int)+1)),(8,.rw 8 V2 (((chgL f g m).map chgR).length+([[aI x2,aB true,aI 0,aI 0,aI 0,aS ([]),aN]]:List (List AV)).length)),(33,.sl 1 false ((Qb7 f g).map intA))],[(2,.box b1 28 (fsyA f)),(3,.box b2 28 (fsyA g)),(8,.row V2 152 7 (((chgL f g m).map chgR)++([[aI x2,aB true,aI 0,aI 0,aI 0,aS ([]),aN]])))]⟩ ⟨sR,sR,sR,Sub.of_eq (congrArg aI (by first | omega | rfl)),Sub.of_eq (congrArg (AV.rw 8 V2) (by rw [Qhc hx2 (show chgD f g x2=some ⟨x2,true,nod0⟩ from by unfold chgD;rw [if_pos q3])];simp)),sR,trivial⟩ ⟨⟨_,rfl,SubB.refl _⟩,⟨_,rfl,SubB.refl _⟩,⟨_,rfl,SubB.of_eq (by rw [Qhc hx2 (show chgD f g x2=some ⟨x2,true,nod0⟩ from by unfold chgD;rw [if_pos q3])];simp [chgR,nod0])⟩,trivial⟩)
 <| fun q3=>have q3:=notF q3;have p3:=booT q3;.r 3<|.br 62 (!(Qar f x2)) (fun q4=>have q4:=notT q4;have p4:=booF q4;.r 6<|.run 5 [b5=b5] rt1<|
 .app 80 V ((chgL f g m).map chgR) ([[aI x2,aB false,aI ((Qaa g x2).ino),aI ((Qaa g x2).kind),aI ((Qaa g x2).links),aS ((Qaa g x2).text),.sl 2 false ((Qaa g x2).l.map entA)]]) (by first | (have:=Qgp f g m;simp only [List.length_map,List.length_cons,List.length_nil];omega) | (simp only [List.length_map,List.length_cons,List.length_nil,List.length_take,List.length_append];omega)) (by first | (have:=Qgp f g m;simp only [List.length_map,List.length_cons,List.length_nil];omega) | (simp only [List.length_map,List.length_cons,List.length_nil,List.length_take,List.length_append];omega)) fun V3=>
 .r 1<|.run 2 [rng .i64 ((m:Int)+1)] ⟨Qas (by omega) (by omega),trivial⟩<|
 .back L2 (m,V) ((m+1),V3) (show (m+1)≤(Qb7 f g).length from (by show _≤_;omega)) (show (Qb7 f g).length-(m+1)<(Qb7 f g).length-m from (by omega)) ⟨[(2,.ptr 2 b1 0),(3,.ptr 3 b2 0),(34,aI ((Qb7 f g).length:Int)),(35,aI ((m:Int)+1)),(8,.rw 8 V3 (((chgL f g m).map chgR).length+([[aI x2,aB false,aI ((Qaa g x2).ino),aI ((Qaa g x2).kind),aI ((Qaa g x2).links),aS ((Qaa g x2).text),.sl 2 false ((Qaa g x2).l.map entA)]]:List (List AV)).length)),(33,.sl 1 false ((Qb7 f g).map intA))],[(2,.box b1 28 (fsyA f)),(3,.box b2 28 (fsyA g)),(8,.row V3 152 7 (((chgL f g m).map chgR)++([[aI x2,aB false,aI ((Qaa g x2).ino),aI ((Qaa g x2).kind),aI ((Qaa g x2).links),aS ((Qaa g x2).text),.sl 2 false ((Qaa g x2).l.map entA)]])))]⟩ ⟨sR,sR,sR,Sub.of_eq (congrArg aI (by first | omega | rfl)),Sub.of_eq (congrArg (AV.rw 8 V3) (by rw [Qhc hx2 (show chgD f g x2=some ⟨x2,false,Qaa g x2⟩ from by unfold chgD;rw [if_neg (by simp [q3]),if_pos (.inl q4)])];simp)),sR,trivial⟩ ⟨⟨_,rfl,SubB.refl _⟩,⟨_,rfl,SubB.refl _⟩,⟨_,rfl,SubB.of_eq (by rw [Qhc hx2 (show chgD f g x2=some ⟨x2,false,Qaa g x2⟩ from by unfold chgD;rw [if_neg (by simp [q3]),if_pos (.inl q4)])];simp [chgR])⟩,trivial⟩)
 <| fun q4=>have q4:=notF q4;have p4:=booT q4;.run 2 [b4=b4,b5=b5] rt2<|
 .call (Qnk (Qaa f x2) (Qaa g x2) (Qf0 okf _) (Qf0 okg _))<|
 .r 3<|.br 59 (!(dP ((Qaa f x2)=(Qaa g x2)))) (fun q5=>have q5:=notT q5;have p5:=booF q5;.run 5 [b5=b5] rt1<|
 .app 80 V ((chgL f g m).map chgR) ([[aI x2,aB false,aI ((Qaa g x2).ino),aI ((Qaa g x2).kind),aI ((Qaa g x2).links),aS ((Qaa g x2).text),.sl 2 false ((Qaa g x2).l.map entA)]]) (by first | (have:=Qgp f g m;simp only [List.length_map,List.length_cons,List.length_nil];omega) | (simp only [List.length_map,List.length_cons,List.length_nil,List.length_take,List.length_append];omega)) (by first | (have:=Qgp f g m;simp only [List.length_map,List.length_cons,List.length_nil];omega) | (simp only [List.length_map,List.length_cons,List.length_nil,List.length_take,List.length_append];omega)) fun V4=>
 .r 1<|.run 2 [rng .i64 ((m:Int)+1)] ⟨Qas (by omega) (by omega),trivial⟩<|
 .back L2 (m,V) ((m+1),V4) (show (m+1)≤(Qb7 f g).length from (by show _≤_;omega)) (show (Qb7 f g).length-(m+1)<(Qb7 f g).length-m from (by omega)) ⟨[(2,.ptr 2 b1 0),(3,.ptr 3 b2 0),(34,aI ((Qb7 f g).length:Int)),(35,aI ((m:Int)+1)),(8,.rw 8 V4 (((chgL f g m).map chgR).length+([[aI x2,aB false,aI ((Qaa g x2).ino),aI ((Qaa g x2).kind),aI ((Qaa g x2).links),aS ((Qaa g x2).text),.sl 2 false ((Qaa g x2).l.map entA)]]:List (List AV)).length)),(33,.sl 1 false ((Qb7 f g).map intA))],[(2,.box b1 28 (fsyA f)),(3,.box b2 28 (fsyA g)),(8,.row V4 152 7 (((chgL f g m).map chgR)++([[aI x2,aB false,aI ((Qaa g x2).ino),aI ((Qaa g x2).kind),aI ((Qaa g x2).links),aS ((Qaa g x2).text),.sl 2 false ((Qaa g x2).l.map entA)]])))]⟩ ⟨sR,sR,sR,Sub.of_eq (congrArg aI (by first | omega | rfl)),Sub.of_eq (congrArg (AV.rw 8 V4) (by rw [Qhc hx2 (show chgD f g x2=some ⟨x2,false,Qaa g x2⟩ from by unfold chgD;rw [if_neg (by simp [q3]),if_pos (.inr (Qag.1 q5))])];simp)),sR,trivial⟩ ⟨⟨_,rfl,SubB.refl _⟩,⟨_,rfl,SubB.refl _⟩,⟨_,rfl,SubB.of_eq (by rw [Qhc hx2 (show chgD f g x2=some ⟨x2,false,Qaa g x2⟩ from by unfold chgD;rw [if_neg (by simp [q3]),if_pos (.inr (Qag.1 q5))])];simp [chgR])⟩,trivial⟩)
 <| fun q5=>have q5:=notF q5;have p5:=booT q5;.run 2 [rng .i64 ((m:Int)+1)] ⟨Qas (by omega) (by omega),trivial⟩<|
 .back L2 (m,V) ((m+1),V) (show (m+1)≤(Qb7 f g).length from (by show _≤_;omega)) (show (Qb7 f g).length-(m+1)<(Qb7 f g).length-m from (by omega)) ⟨[(2,.ptr 2 b1 0),(3,.ptr 3 b2 0),(34,aI ((Qb7 f g).length:Int)),(35,aI ((m:Int)+1)),(8,.rw 8 V ((chgL f g m).length)),(33,.sl 1 false ((Qb7 f g).map intA))],[(2,.box b1 28 (fsyA f)),(3,.box b2 28 (fsyA g)),(8,.row V 152 7 ((chgL f g m).map chgR))]⟩ ⟨sR,sR,sR,Sub.of_eq (congrArg aI (by first | omega | rfl)),Sub.of_eq (congrArg (AV.rw 8 V) (by rw [Zcd hx2 (show chgD f g x2=none from by unfold chgD;rw [if_neg (by simp [q3]),if_neg (fun h=>h.elim (fun h=>by rw [q4] at h;cases h) (fun h=>h (Qbb.1 q5)))])])),sR,trivial⟩ ⟨⟨_,rfl,SubB.refl _⟩,⟨_,rfl,SubB.refl _⟩,⟨_,rfl,SubB.of_eq (by rw [Zcd hx2 (show chgD f g x2=none from by unfold chgD;rw [if_neg (by simp [q3]),if_neg (fun h=>h.elim (fun h=>by rw [q4] at h;cases h) (fun h=>h (Qbb.1 q5)))])])⟩,trivial⟩)
 <| fun q2=>have p2:=decF q2;.r 2<|.frz 8 [4] [] [V=V,(chgL f g m).length=((chgL f g m).map chgR).length] ⟨rfl,(by first | rfl | (simp;done) | (simp;omega)),trivial⟩<|
 .fin (x:=.sl 7 false ((chgL f g m).map chgR)) (r:=.sl 7 false ((Qcd f g).map chgA)) [] trivial (by
  rw [Zfv (by omega)]
  exact Zi8 Qrf)) a2.1 a2.2 ha2) a1.1 a1.2 ha1) Tryz.func59 rfl (by kernel_rfl) (by kernel_rfl)
end Go.Proofs.YtahlldgocpabjaaGreat

namespace Go.Proofs.YtahlldgocpabjaaGreat
open Go Go.RowKit Copyhold
open Copyhold.Name (Srt insE delE getE isAt)
theorem i0:I64 0:=⟨by decide,by decide⟩
theorem Quw {k:Int} (h:0≤k) (h2:k≤1000000):I64 k:=⟨by omega,by omega⟩
def cA:Cal:=⟨6,1,0,0,0,[97],[],[]⟩
theorem cA_ok:OkCal cA:=⟨Quw (by decide) (by decide),Quw (by decide) (by decide),i0,i0,i0,by show 1≤_;omega,Nat.zero_le _,Nat.zero_le _⟩
noncomputable def fA:Fsy:=addF newF 1 [97] (addN newF Qkd)
theorem doA1:doF newF cA=(fA,⟨0,2,0,0,[],[]⟩):=by
 refine Qbq (x:=(fA,⟨0,2,0,0,[],[]⟩)) ?_ rfl
 rw [Qiy rfl]
 show addO newF cA Qkd=_
 unfold addO
 show ((if Qak newF 1 [97] Qkd=0 then _ else _),(⟨Qak newF 1 [97] Qkd,_,_,_,_,_⟩:Rep))=_
 rw [Qjq,if_pos rfl]
 rfl
theorem Qg7:Qal fA∧OkF fA∧fA.next=3∧(∃ d,atF fA 1=some d∧d.kind=2∧d.l=[⟨[97],2⟩])∧(fA.l.length:Int)=2:=by
 have hb:=Qn1 Qen Qjq
 have ho:=Zhc (n:=Qkd) (s:=[97]) Qos Qen Ze4 (by decide) Qjq (by decide)
 refine ⟨hb.1,ho,?_,?_,?_⟩
 ·obtain ⟨d,A⟩:=Qpk Qjq
  have hr:=Qad Qen
  have hroot:atF newF 1=some Qhh:=rfl
  unfold fA addF
  rw [show (addN newF Qkd).ino=2 from rfl,Qdn hroot]
  rw [Qld]
  ·rw [show (setL newF Qhh (entL Qhh.l [97] 2)).next=2 from Qkm (by decide)];rfl
  ·rw [show (setL newF Qhh (entL Qhh.l [97] 2)).next=2 from Qkm (by decide)];rfl
 ·have hroot:atF newF 1=some Qhh:=rfl
  have he:entE Qhh.l [97] 2=0:=Qdf Zi7 (by decide) rfl (by decide)
  have hl:entL Qhh.l [97] 2=[⟨[97],2⟩]:=by unfold entL;rw [if_pos he];rfl
  have hk:rowP Qhh.l:=Qb8
  obtain ⟨s1,s2,s3,s4⟩:=Qel Qen hroot rfl (Qpc (n:=2) hk Zi7 (by decide) rfl (by decide))
  refine ⟨Qa0 Qhh (entL Qhh.l [97] 2),?_,rfl,hl⟩
  unfold fA addF
  rw [show (addN newF Qkd).ino=2 from rfl,Qdn hroot,Qmm (Qad s1),if_neg (by decide),s4,if_pos rfl]
 ·have:=Zjd
  rw [if_pos Qjq] at this
  exact this
end Go.Proofs.YtahlldgocpabjaaGreat

namespace Go.Proofs.YtahlldgocpabjaaGreat
open Go Go.RowKit Copyhold
theorem Qma {f:Fsy} {c:Cal} (hp:Qal f):(doF f c).2.names.length≤1000000:=Nat.le_trans (Zfa hp) (by decide)
theorem Qno (f:Fsy) (c:Cal):(Qbu f c).length≤6:=by
 unfold Qbu
 split
 ·simp
 ·exact Nat.le_trans (Qh4 _) (Qlp f c).2
theorem Qyd {l:List Cal} (h:Qfc l) {c:Cal} (hc:c∈l):c.name.length≤2000∧c.name2.length≤2000∧c.text.length≤2000:=by
 have h1:=h.1
 have:txC c≤((l.take l.length).map txC).sum:=by rw [List.take_length];exact Qjb hc
 unfold smS at h1
 have e:txC c=c.name.length+c.name2.length+c.text.length:=rfl
 omega
theorem Qr8 (a b:List Txt) (h1:a.length≤1000000) (h2:b.length≤8796093022207):Qaj Tryz.prog 51 [.sl 1 false (a.map txA),.sl 1 false (b.map txA)] (aB (dP (a=b))):=by
 exact Qac (F:=Tryz.f51) 400 (
 .r 1<|.r 2<|.val 7 (show (aI ((a.map txA).length:Int):AV)=aI (a.length:Int) from by rw [List.length_map])<|.r 2<|.val 9 (show (aI ((b.map txA).length:Int):AV)=aI (b.length:Int) from by rw [List.length_map])<|.r 1<|.br 10 ((a.length:Int) != (b.length:Int)) (fun q1=>have p1:=bneT q1;.r 1<|.fin (x:=aB false) (r:=aB (dP (a=b))) [] trivial (by exact sF (fun h=>by have:=congrArg List.length h;omega)))
 <| fun q1=>have p1:=bneF q1;.r 1<|let L1:Lp (Nat):=⟨fun a1=>⟨[(0,.sl 1 false (a.map txA)),(1,.sl 1 false (b.map txA)),(5,aI (a1:Int))],[]⟩,fun a1=>a.length-a1,fun a1=>a1≤a.length∧a.take a1=b.take a1⟩
 .loop L1 0 (show 0≤a.length∧a.take 0=b.take 0 from ⟨Nat.zero_le _,rfl⟩) ⟨[(0,.sl 1 false (a.map txA)),(1,.sl 1 false (b.map txA)),(5,aI 0)],[]⟩ ⟨sR,sR,Sub.of_eq (congrArg aI (by first | omega | rfl)),trivial⟩ trivial fun a1 ha1=>
 (fun (k:Nat) (hH1:k≤a.length∧a.take k=b.take k)=>.r 3<|.val 13 (show (aI ((a.map txA).length:Int):AV)=aI (a.length:Int) from by rw [List.length_map])<|.r 1<|.br 14 (decide ((k:Int)<(a.length:Int))) (fun q2=>have p2:=decT q2;.ord [0,1,2,3,4,5,6,7,8]<|.r 2<|.idxM a txA k (m:=(k:Int)) rfl (by omega) fun x1 hx1=>
 .r 3<|.idxM b txA k (m:=(k:Int)) rfl (by omega) fun x2 hx2=>
 .r 2<|.br 25 (!(x1==x2)) (fun q3=>have q3:=notT q3;have p3:=beqF q3;.r 1<|.fin (x:=aB false) (r:=aB (dP (a=b))) [] trivial (by
  refine sF (fun h=>?_)
  rw [h,hx2] at hx1
  obtain rfl:=Option.some.inj hx1
  simp_all [Qbb,Qag]))
 <| fun q3=>have q3:=notF q3;have p3:=beqT q3;.run 3 [rng .i64 ((k:Int)+1)] ⟨Qas (by omega) (by omega),trivial⟩<|
 .back L1 k (k+1) (show (k+1)≤a.length∧a.take (k+1)=b.take (k+1) from ⟨by omega,by rw [Qap hx1,Qap hx2,hH1.2];first | (congr 2;done) | (congr 2;exact (by simp_all))⟩) (show a.length-(k+1)<a.length-k from (by omega)) ⟨[(0,.sl 1 false (a.map txA)),(1,.sl 1 false (b.map txA)),(5,aI ((k:Int)+1))],[]⟩ ⟨sR,sR,Sub.of_eq (congrArg aI (by first | omega | rfl)),trivial⟩ trivial)
 <| fun q2=>have p2:=decF q2;.r 1<|.fin (x:=aB true) (r:=aB (dP (a=b))) [] trivial (by
  refine sT ?_
  have h:=hH1.2
  rw [Qay (by omega),Qay (by omega)] at h
  exact h)) a1 ha1) Tryz.func51 rfl (by kernel_rfl) (by kernel_rfl)
theorem Qr9 (a b:Rep) (h1:a.names.length≤1000000) (h2:b.names.length≤8796093022207):Qaj Tryz.prog 21 [.agg (repA a),.agg (repA b)] (aB (dP (a=b))):=by
 exact Qac (F:=Tryz.f21) 400 (
 .new fun b1=>.new fun b2=>.r 1<|.run 4 [b1=b1,b2=b2] rt2<|
 .call (Qr8 a.names b.names h1 h2)<|
 .r 1<|.r 2<|.br 12 (dP (a.names=b.names)) (fun q1=>have p1:=booT q1;.run 7 [b1=b1,b2=b2] rt2<|
 .br 19 (a.e==b.e) (fun q2=>have p2:=beqT q2;.run 7 [b1=b1,b2=b2] rt2<|
 .br 26 (a.a==b.a) (fun q3=>have p3:=beqT q3;.run 7 [b1=b1,b2=b2] rt2<|
 .br 33 (a.b==b.b) (fun q4=>have p4:=beqT q4;.run 7 [b1=b1,b2=b2] rt2<|
 .br 40 (a.n==b.n) (fun q5=>have p5:=beqT q5;.run 7 [b1=b1,b2=b2] rt2<|
 .fin (x:=aB (a.text==b.text)) (r:=aB (dP (a=b))) [] trivial (by
  refine sE ?_
  constructor
  ·intro h
   simp only [Bool.and_eq_true,beq_iff_eq,Qbb] at *
   refine rep_eq ?_ ?_ ?_ ?_ ?_ ?_<;>simp_all
  ·intro h
   subst h
   simp_all [Qbb]))
 <| fun q5=>have p5:=beqF q5;.r 7<|.fin (x:=aB false) (r:=aB (dP (a=b))) [] trivial (by
  refine sF (fun h=>?_)
  subst h
  simp_all [Qag]))
 <| fun q4=>have p4:=beqF q4;.r 14<|.fin (x:=aB false) (r:=aB (dP (a=b))) [] trivial (by
  refine sF (fun h=>?_)
  subst h
  simp_all [Qag]))
 <| fun q3=>have p3:=beqF q3;.r 21<|.fin (x:=aB false) (r:=aB (dP (a=b))) [] trivial (by
  refine sF (fun h=>?_)
  subst h
  simp_all [Qag]))
 <| fun q2=>have p2:=beqF q2;.r 28<|.fin (x:=aB false) (r:=aB (dP (a=b))) [] trivial (by
  refine sF (fun h=>?_)
  subst h
  simp_all [Qag]))
 <| fun q1=>have p1:=booF q1;.r 35<|.fin (x:=aB false) (r:=aB (dP (a=b))) [] trivial (by
  refine sF (fun h=>?_)
  subst h
  simp_all [Qag])) Tryz.func21 rfl (by kernel_rfl) (by kernel_rfl)
end Go.Proofs.YtahlldgocpabjaaGreat

namespace Go.Proofs.YtahlldgocpabjaaGreat
open Go Go.RowKit Copyhold
section
variable {α:Type}
def cutV (f:α→Int) (st:Int):List α→Nat
 | []=>0
 | x :: r=>if cutV f st r=0 then (if f x≤st then 1 else 0) else cutV f st r+1
theorem Qnx (f:α→Int) (st:Int):∀ l:List α,cutV f st l≤l.length
 | []=>Nat.le_refl _
 | x :: r=>by
  have:=Qnx f st r
  simp only [cutV,List.length_cons]
  split
  ·split<;>omega
  ·omega
theorem Qmc (f:α→Int) (st:Int):∀ (l:List α) (k:Nat),k≤l.length→(∀ j x,k≤j→l[j]?=some x→st<f x)→(k=0∨∃ x,l[k-1]?=some x∧f x≤st)→cutV f st l=k
 | [],k,hk,_,_=>by simp at hk;subst hk;rfl
 | x :: r,0,_,ha,_=>by
  have h1:=Qmc f st r 0 (Nat.zero_le _) (fun j y _ hy=>ha (j+1) y (Nat.zero_le _) (by simpa using hy)) (.inl rfl)
  have h2:=ha 0 x (Nat.zero_le _) rfl
  simp only [cutV,h1,if_true]
  rw [if_neg (by omega)]
 | x :: r,k+1,hk,ha,he=>by
  simp only [List.length_cons] at hk
  have ha':∀ j y,k≤j→r[j]?=some y→st<f y:=fun j y hj hy=>ha (j+1) y (by omega) (by simpa using hy)
  rcases he with he | ⟨y,hy,hle⟩
  ·omega
  ·cases k with
   | zero=>
    have h1:=Qmc f st r 0 (Nat.zero_le _) ha' (.inl rfl)
    simp at hy
    subst hy
    simp only [cutV,h1,if_true,if_pos hle]
   | succ k=>
    have h1:=Qmc f st r (k+1) (by omega) ha' (.inr ⟨y,by simpa using hy,hle⟩)
    simp only [cutV,h1]
    rfl
theorem seen0 (f:α→Int) (st:Int) (l:List α):l.length≤l.length∧∀ j y,l.length≤j→l[j]?=some y→st<f y:=⟨Nat.le_refl _,fun j y hj hy=>by have:=Qan hy;omega⟩
theorem seenS {f:α→Int} {st:Int} {l:List α} {k:Nat} {x:α} (hx:l[k-1]?=some x) (hk:k≤l.length) (h:∀ j y,k≤j→l[j]?=some y→st<f y) (hg:st<f x):k-1≤l.length∧∀ j y,k-1≤j→l[j]?=some y→st<f y:=
 ⟨by omega,fun j y hj hy=>by
  by_cases e:j=k-1
  ·subst e
   rw [hx] at hy
   obtain rfl:=Option.some.inj hy
   exact hg
  ·exact h j y (by omega) hy⟩
def atD (f:α→Int) (st:Int) (l:List α):Option α:=if cutV f st l=0 then none else l[cutV f st l-1]?
def stepP (f:α→Int) (most:Int) (l:List α) (i:Nat) (x:α):Prop:=1≤f x∧f x≤most∧∀ d,0<i→l[i-1]?=some d→f d<f x
def riseP (f:α→Int) (most:Int) (l:List α):Prop:=1≤l.length∧AllQ (stepP f most l) l
def Qpm (f:α→Int) (l:List α) (k:Nat) (last:Int):Prop:=(k=0∧last=0)∨∃ d,0<k∧l[k-1]?=some d∧last=f d∧1≤last
theorem Qpm.pos {f:α→Int} {l:List α} {k:Nat} {last:Int} (h:Qpm f l k last):0≤last:=by
 rcases h with ⟨_,h⟩ | ⟨d,_,_,_,h⟩<;>omega
theorem Qpm.step {f:α→Int} {l:List α} {k:Nat} {last:Int} {x:α} (h:Qpm f l k last) (hx:l[k]?=some x) (hgt:¬ f x≤last):Qpm f l (k+1) (f x):=
 .inr ⟨x,by omega,by simpa using hx,rfl,by have:=h.pos;omega⟩
theorem Qpm.lt {f:α→Int} {l:List α} {k:Nat} {last:Int} (h:Qpm f l k last) {v:Int} (hgt:¬ v≤last):1≤v∧∀ d,0<k→l[k-1]?=some d→f d<v:=by
 refine ⟨by have:=h.pos;omega,fun d h0 hd=>?_⟩
 rcases h with ⟨h,_⟩ | ⟨e,_,he,h1,_⟩
 ·omega
 ·rw [hd] at he
  obtain rfl:=Option.some.inj he
  omega
theorem Qpm.not {f:α→Int} {l:List α} {k:Nat} {last:Int} (h:Qpm f l k last) {v:Int} (hle:v≤last):¬ (1≤v∧∀ d,0<k→l[k-1]?=some d→f d<v):=by
 rintro ⟨h1,h2⟩
 rcases h with ⟨_,h⟩ | ⟨e,h0,he,h3,_⟩
 ·omega
 ·have:=h2 e h0 he;omega
end
def verP (ino:Int) (v:Ver):Prop:=(v.gone=true→v.n=nod0)∧(v.gone=false→nodP v.n∧v.n.ino=ino)
def chainP (most:Int) (c:Chn):Prop:=1≤c.ino∧riseP Ver.stamp most c.l∧AllQ (fun _ v=>verP c.ino v) c.l
def chnAt (s:Sto) (i:Nat) (c:Chn):Prop:=chainP s.stamp c∧∀ d,0<i→s.l[i-1]?=some d→d.ino<c.ino
def Zge (s:Sto):Prop:=1≤s.stamp∧riseP Cnt.stamp s.stamp s.nexts∧AllQ (fun _ (c:Cnt)=>1≤c.next) s.nexts∧AllQ (chnAt s) s.l
def Qfa (st:Int) (c:Chn):Option Nod:=match atD Ver.stamp st c.l with
 | some v=>if v.gone then none else some v.n
 | none=>none
def Qsv (s:Sto) (st:Int):Int:=match atD Cnt.stamp st s.nexts with
 | some c=>c.next
 | none=>1
def Qkv (s:Sto) (st:Int):Fsy:=⟨s.l.filterMap (Qfa st),Qsv s st⟩
theorem Qkg {st:Int} {c:Chn} {v:Ver} (h0:¬ cutV Ver.stamp st c.l=0) (hv:c.l[cutV Ver.stamp st c.l-1]?=some v):Qfa st c=if v.gone then none else some v.n:=by
 unfold Qfa atD;rw [if_neg h0,hv]
theorem Qmz {st:Int} {c:Chn} (h0:cutV Ver.stamp st c.l=0):Qfa st c=none:=by
 unfold Qfa atD;rw [if_pos h0]
theorem Zeb {s:Sto} {st:Int} {c:Cnt} (h0:¬ cutV Cnt.stamp st s.nexts=0) (hc:s.nexts[cutV Cnt.stamp st s.nexts-1]?=some c):Qsv s st=c.next:=by
 unfold Qsv atD;rw [if_neg h0,hc]
theorem Qwt {s:Sto} {st:Int} (h0:cutV Cnt.stamp st s.nexts=0):Qsv s st=1:=by
 unfold Qsv atD;rw [if_pos h0]
def Qd7 (s:Sto) (st:Int) (k:Nat):List Nod:=(s.l.take k).filterMap (Qfa st)
theorem Qp2 {s:Sto} {st:Int} {k:Nat} {c:Chn} {n:Nod} (hc:s.l[k]?=some c) (h:Qfa st c=some n):Qd7 s st (k+1)=Qd7 s st k++[n]:=by
 unfold Qd7;rw [Qap hc,List.filterMap_append];simp [h]
theorem Qkj {s:Sto} {st:Int} {k:Nat} {c:Chn} (hc:s.l[k]?=some c) (h:Qfa st c=none):Qd7 s st (k+1)=Qd7 s st k:=by
 unfold Qd7;rw [Qap hc,List.filterMap_append];simp [h]
theorem Qt4 (s:Sto) (st:Int) (k:Nat):(Qd7 s st k).length≤k:=by
 have:=List.length_filterMap_le (Qfa st) (s.l.take k)
 rw [List.length_take] at this
 unfold Qd7;omega
theorem Qp3 {s:Sto} {st:Int} {k:Nat} (h:s.l.length≤k):Qd7 s st k=s.l.filterMap (Qfa st):=by unfold Qd7;rw [Qay h]
def Qnr (st:Int) (c:Chn):Bool:=c.l.any fun v=>decide (v.stamp>st)
def Qb6 (s:Sto) (st:Int) (k:Nat):List Int:=((s.l.take k).filter (Qnr st)).map Chn.ino
def Zef (s:Sto) (st:Int):Bool:=s.nexts.any fun c=>decide (c.stamp>st)
def Qc9 (s:Sto) (st:Int):List Int:=if 1≤(Qb6 s st s.l.length).length∨Zef s st=true then 0 :: Qb6 s st s.l.length else []
theorem Qnq {s:Sto} {st:Int} {k:Nat} {c:Chn} (hc:s.l[k]?=some c) (h:Qnr st c=true):Qb6 s st (k+1)=Qb6 s st k++[c.ino]:=by
 unfold Qb6;rw [Qap hc,List.filter_append,List.map_append];simp [h]
theorem Qqp {s:Sto} {st:Int} {k:Nat} {c:Chn} (hc:s.l[k]?=some c) (h:Qnr st c=false):Qb6 s st (k+1)=Qb6 s st k:=by
 unfold Qb6;rw [Qap hc,List.filter_append,List.map_append];simp [h]
theorem Qlv (s:Sto) (st:Int) (k:Nat):(Qb6 s st k).length≤k:=by
 have:=List.length_filter_le (Qnr st) (s.l.take k)
 rw [List.length_take] at this
 unfold Qb6;rw [List.length_map];omega
theorem Qjj {s:Sto} {st:Int} {k:Nat} (h:s.l.length≤k):Qb6 s st k=Qb6 s st s.l.length:=by unfold Qb6;rw [Qay h,Qay (Nat.le_refl _)]
section
variable {α:Type}
def idxF (p:α→Bool):List α→Int
 | []=>-1
 | x :: r=>if p x then 0 else if idxF p r<0 then -1 else idxF p r+1
theorem Qo0 (p:α→Bool):∀ l:List α,decide (idxF p l≥0)=l.any p
 | []=>rfl
 | x :: r=>by
  have:=Qo0 p r
  simp only [idxF,List.any_cons,← this]
  by_cases hp:p x=true
  ·simp [hp]
  ·simp only [Bool.not_eq_true] at hp
   simp only [hp,Bool.false_or,Bool.false_eq_true,if_false]
   split<;>simp<;>omega
theorem Ql1 (p:α→Bool):∀ l:List α,AllQ (fun _ x=>p x=false) l→idxF p l = -1
 | [],_=>rfl
 | x :: r,h=>by
  have h1:=h 0 x rfl
  have h2:=Ql1 p r fun i e he=>h (i+1) e (by simpa using he)
  simp [idxF,h1,h2]
theorem Qs2 (p:α→Bool):∀ (l:List α) (k:Nat) (x:α),Qa1 (fun _ x=>p x=false) l k→l[k]?=some x→p x=true→idxF p l=k
 | y :: r,0,x,_,hx,hp=>by
  simp at hx;subst hx;simp [idxF,hp]
 | y :: r,k+1,x,h,hx,hp=>by
  have h1:=h 0 y (by omega) rfl
  have h2:=Qs2 p r k x (fun i e hi he=>h (i+1) e (by omega) (by simpa using he)) (by simpa using hx) hp
  simp [idxF,h1,h2]
  omega
end
theorem Zdd (v:Ver):Qaj Tryz.prog 154 [.agg [aI v.stamp,aB v.gone,aI v.n.ino,aI v.n.kind,aI v.n.links,aS v.n.text,.sl 2 false (v.n.l.map entA)]] (aI v.stamp):=by
 exact Qac (F:=Tryz.f154) 400 (
 .new fun b1=>.r 1<|.run 3 [b1=b1] rt1<|
 .fin (x:=aI v.stamp) (r:=aI v.stamp) [] trivial (by exact sR)) Tryz.func154 rfl (by kernel_rfl) (by kernel_rfl)
theorem Zdc (c:Cnt):Qaj Tryz.prog 155 [.agg [aI c.stamp,aI c.next]] (aI c.stamp):=by
 exact Qac (F:=Tryz.f155) 400 (
 .new fun b1=>.r 1<|.run 3 [b1=b1] rt1<|
 .fin (x:=aI c.stamp) (r:=aI c.stamp) [] trivial (by exact sR)) Tryz.func155 rfl (by kernel_rfl) (by kernel_rfl)
theorem Qrz :Qaj Tryz.prog 92 [] (.tup [.val (.func (.func 154) #[] #[]),.val (.func (.func 155) #[] #[])]):=by
 exact Qac (F:=Tryz.f92) 400 (
 .r 2<|.r 2<|.fin (x:=.tup [.val (.func (.func 154) #[] #[]),.val (.func (.func 155) #[] #[])]) (r:=.tup [.val (.func (.func 154) #[] #[]),.val (.func (.func 155) #[] #[])]) [] trivial (by exact sR)) Tryz.func92 rfl (by kernel_rfl) (by kernel_rfl)
theorem Qp1 (l:List Ver) (st:Int) (hl:l.length≤8796093022207):Qaj Tryz.prog 93 [.sl 7 false (l.map verA),.val (.func (.func 154) #[] #[]),aI st] (aI ((cutV Ver.stamp st l:Int)-1)):=by
 exact Qac (F:=Tryz.f93) 400 (
 .r 1<|.r 2<|.val 9 (show (aI ((l.map verA).length:Int):AV)=aI (l.length:Int) from by rw [List.length_map])<|.run 2 [rng .i64 ((l.length:Int)-1)] ⟨Qas (by omega) (by omega),trivial⟩<|
 let L1:Lp (Nat):=⟨fun a1=>⟨[(0,.sl 7 false (l.map verA)),(1,.val (.func (.func 154) #[] #[])),(2,aI st),(7,aI ((a1:Int)-1))],[]⟩,fun a1=>a1,fun a1=>a1≤l.length∧∀ j y,a1≤j→l[j]?=some y→st<Ver.stamp y⟩
 .loop L1 l.length (show l.length≤l.length∧∀ j y,l.length≤j→l[j]?=some y→st<Ver.stamp y from (seen0 _ _ _)) ⟨[(0,.sl 7 false (l.map verA)),(1,.val (.func (.func 154) #[] #[])),(2,aI st),(7,aI ((l.length:Int)-1))],[]⟩ sr4 trivial fun a1 ha1=>
 (fun (k:Nat) (hH1:k≤l.length∧∀ j y,k≤j→l[j]?=some y→st<Ver.stamp y)=>.r 3<|.br 13 (decide (((k:Int)-1)≥0)) (fun q1=>have p1:=decT q1;.r 3<|.idxM l verA (k-1) (m:=(k:Int)-1) (by omega) (by omega) fun x1 hx1=>
 .r 1<|.call (Zdd x1)<|
 .r 3<|.br 22 (decide (x1.stamp>st)) (fun q2=>have p2:=decT q2;.run 3 [rng .i64 (((k:Int)-1)-1)] ⟨Qas (by omega) (by omega),trivial⟩<|
 .back L1 k (k-1) (show (k-1)≤l.length∧∀ j y,(k-1)≤j→l[j]?=some y→st<Ver.stamp y from (seenS hx1 hH1.1 hH1.2 (by omega))) (show (k-1)<k from (by omega)) ⟨[(0,.sl 7 false (l.map verA)),(1,.val (.func (.func 154) #[] #[])),(2,aI st),(7,aI (((k:Int)-1)-1))],[]⟩ ⟨sR,sR,sR,Sub.of_eq (congrArg aI (by first | omega | rfl)),trivial⟩ trivial)
 <| fun q2=>have p2:=decF q2;.r 2<|.fin (x:=aI ((k:Int)-1)) (r:=aI ((cutV Ver.stamp st l:Int)-1)) [] trivial (by exact Sub.of_eq (by rw [Qmc Ver.stamp st l k hH1.1 hH1.2 (.inr ⟨x1,hx1,by omega⟩)])))
 <| fun q1=>have p1:=decF q1;.r 9<|.r 2<|.fin (x:=aI ((k:Int)-1)) (r:=aI ((cutV Ver.stamp st l:Int)-1)) [] trivial (by exact Sub.of_eq (by rw [Qmc Ver.stamp st l k hH1.1 hH1.2 (.inl (by omega))]))) a1 ha1) Tryz.func93 rfl (by kernel_rfl) (by kernel_rfl)
theorem Qmq (l:List Cnt) (st:Int) (hl:l.length≤8796093022207):Qaj Tryz.prog 94 [.sl 2 false (l.map cntA),.val (.func (.func 155) #[] #[]),aI st] (aI ((cutV Cnt.stamp st l:Int)-1)):=by
 exact Qac (F:=Tryz.f94) 400 (
 .r 1<|.r 2<|.val 9 (show (aI ((l.map cntA).length:Int):AV)=aI (l.length:Int) from by rw [List.length_map])<|.run 2 [rng .i64 ((l.length:Int)-1)] ⟨Qas (by omega) (by omega),trivial⟩<|
 let L1:Lp (Nat):=⟨fun a1=>⟨[(0,.sl 2 false (l.map cntA)),(1,.val (.func (.func 155) #[] #[])),(2,aI st),(7,aI ((a1:Int)-1))],[]⟩,fun a1=>a1,fun a1=>a1≤l.length∧∀ j y,a1≤j→l[j]?=some y→st<Cnt.stamp y⟩
 .loop L1 l.length (show l.length≤l.length∧∀ j y,l.length≤j→l[j]?=some y→st<Cnt.stamp y from (seen0 _ _ _)) ⟨[(0,.sl 2 false (l.map cntA)),(1,.val (.func (.func 155) #[] #[])),(2,aI st),(7,aI ((l.length:Int)-1))],[]⟩ sr4 trivial fun a1 ha1=>
 (fun (k:Nat) (hH1:k≤l.length∧∀ j y,k≤j→l[j]?=some y→st<Cnt.stamp y)=>.r 3<|.br 13 (decide (((k:Int)-1)≥0)) (fun q1=>have p1:=decT q1;.r 3<|.idxM l cntA (k-1) (m:=(k:Int)-1) (by omega) (by omega) fun x1 hx1=>
 .r 1<|.call (Zdc x1)<|
 .r 3<|.br 22 (decide (x1.stamp>st)) (fun q2=>have p2:=decT q2;.run 3 [rng .i64 (((k:Int)-1)-1)] ⟨Qas (by omega) (by omega),trivial⟩<|
 .back L1 k (k-1) (show (k-1)≤l.length∧∀ j y,(k-1)≤j→l[j]?=some y→st<Cnt.stamp y from (seenS hx1 hH1.1 hH1.2 (by omega))) (show (k-1)<k from (by omega)) ⟨[(0,.sl 2 false (l.map cntA)),(1,.val (.func (.func 155) #[] #[])),(2,aI st),(7,aI (((k:Int)-1)-1))],[]⟩ ⟨sR,sR,sR,Sub.of_eq (congrArg aI (by first | omega | rfl)),trivial⟩ trivial)
 <| fun q2=>have p2:=decF q2;.r 2<|.fin (x:=aI ((k:Int)-1)) (r:=aI ((cutV Cnt.stamp st l:Int)-1)) [] trivial (by exact Sub.of_eq (by rw [Qmc Cnt.stamp st l k hH1.1 hH1.2 (.inr ⟨x1,hx1,by omega⟩)])))
 <| fun q1=>have p1:=decF q1;.r 9<|.r 2<|.fin (x:=aI ((k:Int)-1)) (r:=aI ((cutV Cnt.stamp st l:Int)-1)) [] trivial (by exact Sub.of_eq (by rw [Qmc Cnt.stamp st l k hH1.1 hH1.2 (.inl (by omega))]))) a1 ha1) Tryz.func94 rfl (by kernel_rfl) (by kernel_rfl)
end Go.Proofs.YtahlldgocpabjaaGreat
