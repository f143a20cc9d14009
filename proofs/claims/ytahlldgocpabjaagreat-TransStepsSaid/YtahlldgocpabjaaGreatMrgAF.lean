import Derived.Test.YtahlldgocpabjaaGreatMrgAE
import Derived.Test.YtahlldgocpabjaaGreatMrgL
import Derived.Test.YtahlldgocpabjaaGreatMrgJ
import Derived.Test.YtahlldgocpabjaaGreatMrgZ
import Derived.Test.YtahlldgocpabjaaGreatMrgAC
import Derived.Test.YtahlldgocpabjaaGreatMrgY
import Derived.Test.YtahlldgocpabjaaGreatMrgAD
set_option maxRecDepth 100000
set_option maxHeartbeats 8000000
set_option linter.unusedVariables false
set_option linter.unusedSimpArgs false
namespace Go.Proofs.YtahlldgocpabjaaGreat
open Go Go.RowKit Copyhold Go.Proofs.Tryz
theorem Qsz (a b:List Nod) (h:a.length+b.length≤100000):Qaf prog 108 [.sl 1 false ([a.map nodA,b.map nodA].map pc5)] (.sl 5 false ((a++b).map nodA)):=by
 have:=Qf9 [a.map nodA,b.map nodA] (by simp) (by simp;omega);rw [List.map_append];simpa using this
theorem Qsj (f g:Fsy) (h:f.l.length+g.l.length≤100000):Qaf prog 97 [.sl 1 false (((f.l++g.l).map Nod.ino).map intA)] (.sl 1 false ((Qcp f g).map intA)):=by
 rw [← Zi7];exact Qsk _ (by simp;omega)
theorem Qp0 (f g:Fsy) (okf:OkF f) (okg:OkF g) (hf:f.l.length≤1000) (hg:g.l.length≤1000) (hr:Qbq f.l) (hrg:Qbq g.l):Qaf prog 59 [.agg (fsyA f),.agg (fsyA g)] (.sl 7 false ((Qb8 f g).map chgA)):=by
 have hal:(Qcp f g).length≤f.l.length+g.l.length:=by have h1:=Qlo [] f.l;have h2:=Qlo (Qnz [] f.l) g.l;unfold Qcp;simp at h1;omega
 exact Qac func59 (
 .new fun b1=>.new fun b2=>.r 1<|.r 1<|.rowNil 5 5 3 1<|.u 5 [b1,b2]<|
 .cs (args0:=[.sl 1 true ([[.sl 5 false (f.l.map nodA)],[.sl 5 false (g.l.map nodA)]])]) (Qsz f.l g.l (by omega)) ⟨pcs2 _ _,trivial⟩<|
 .r 1<|.lm 21 (f.l++g.l) nodA<|.r 1<|let L1:Lp (Nat × Value):=⟨fun a1=>⟨[(2,.ptr 2 b1 0),(3,.ptr 3 b2 0),(22,aI (a1.1:Int)),(5,.rw 5 a1.2 ((((f.l++g.l).take a1.1).map Nod.ino).length)),(20,.sl 5 false ((f.l++g.l).map nodA)),(21,aI ((f.l++g.l).length:Int))],[(2,.box b1 28 (fsyA f)),(3,.box b2 28 (fsyA g)),(5,.row a1.2 3 1 ((((f.l++g.l).take a1.1).map Nod.ino).map intA))]⟩,fun a1=>(f.l++g.l).length-a1.1,fun a1=>a1.1≤(f.l++g.l).length⟩
 .lp L1 (0,.slice none 0 0) (show 0≤(f.l++g.l).length from Nat.zero_le _) [(22,aI 0),(5,.rw 5 (.slice none 0 0) 0)] [(5,.row (.slice none 0 0) 3 1 ([]))] ⟨sR,sR,sO,sR,sR,sR,trivial⟩ bb3 fun a1 ha1=>
 (fun (k:Nat) (V:Value) (hH1:k≤(f.l++g.l).length)=>have hfg:(f.l++g.l).length=f.l.length+g.l.length:=List.length_append;.r 1<|.bd 23 ((k:Int)<((f.l++g.l).length:Int)) (fun p1=>.idxM (f.l++g.l) nodA k (m:=(k:Int)) rfl (by omega) fun x1 hx1=>
 .r 1<|.new fun b3=>.u 1 [b3]<|
 .u 4 [b3]<|
 .app 8 V ((((f.l++g.l).take k).map Nod.ino).map intA) ([[aI x1.ino]]) (by first | (have:=Qg4 f g m;simp only [List.length_map,List.length_cons,List.length_nil];omega) | (simp only [List.length_map,List.length_cons,List.length_nil,List.length_take,List.length_append];omega)) (by first | (have:=Qg4 f g m;simp only [List.length_map,List.length_cons,List.length_nil];omega) | (simp only [List.length_map,List.length_cons,List.length_nil,List.length_take,List.length_append];omega)) fun V1=>
 .r 1<|.run 2 [rng .i64 ((k:Int)+1)] ⟨Qaj (by omega) (by omega),trivial⟩<|
 .bk L1 (k,V) ((k+1),V1) (show (k+1)≤(f.l++g.l).length from (by show _≤_;omega)) (show (f.l++g.l).length-(k+1)<(f.l++g.l).length-k from (by omega)) [(22,aI ((k:Int)+1)),(5,.rw 5 V1 (((((f.l++g.l).take k).map Nod.ino).map intA).length+([[aI x1.ino]]:List (List AV)).length))] [(5,.row V1 3 1 (((((f.l++g.l).take k).map Nod.ino).map intA)++([[aI x1.ino]])))] ⟨sR,sR,sO,Sub.of_eq (congrArg (AV.rw 5 V1) (by rw [Qak hx1];simp)),sR,sR,trivial⟩ ⟨sB,sB,⟨_,rfl,SubB.of_eq (by rw [Qak hx1];simp [intA])⟩,trivial⟩)
 <| fun p1=>.r 1<|.frz 5 [2,3,5,8,23] [2,3] [V=V,(((f.l++g.l).take k).map Nod.ino).length=((((f.l++g.l).take k).map Nod.ino).map intA).length] ⟨rfl,(by first | rfl | (simp;done) | (simp;omega)),trivial⟩<|
 .rowNil 8 8 152 7<|.r 1<|.cs (args0:=[.sl 1 false ((((f.l++g.l).take k).map Nod.ino).map intA)]) (Qsj f g (by omega)) ⟨Sub.of_eq (by rw [Qav (by omega)]),trivial⟩<|
 .r 1<|.lm 34 (Qcp f g) intA<|.r 1<|let L2:Lp (Nat × Value):=⟨fun a2=>⟨[(2,.ptr 2 b1 0),(3,.ptr 3 b2 0),(34,aI ((Qcp f g).length:Int)),(35,aI (a2.1:Int)),(8,.rw 8 a2.2 ((chgL f g a2.1).length)),(33,.sl 1 false ((Qcp f g).map intA))],[(2,.box b1 28 (fsyA f)),(3,.box b2 28 (fsyA g)),(8,.row a2.2 152 7 ((chgL f g a2.1).map chgR))]⟩,fun a2=>(Qcp f g).length-a2.1,fun a2=>a2.1≤(Qcp f g).length⟩
 .lp L2 (0,.slice none 0 0) (show 0≤(Qcp f g).length from Nat.zero_le _) [(35,aI 0),(8,.rw 8 (.slice none 0 0) 0)] [(8,.row (.slice none 0 0) 152 7 ([]))] ⟨sR,sR,sR,sO,sR,sR,trivial⟩ bb3 fun a2 ha2=>
 (fun (m:Nat) (V:Value) (hH2:m≤(Qcp f g).length)=>.r 1<|.bd 36 ((m:Int)<((Qcp f g).length:Int)) (fun p2=>.idxM (Qcp f g) intA m (m:=(m:Int)) rfl (by omega) fun x2 hx2=>
 .r 2<|.u 2 [b1]<|
 .call (Qb4 f x2 (by omega) hr)<|
 .r 3<|.new fun b4=>.u 2 [b4]<|
 .u 2 [b2]<|
 .call (Qb4 g x2 (by omega) hrg)<|
 .r 3<|.new fun b5=>.u 2 [b5]<|
 .r 3<|.br 51 (!(Qau g x2)) (fun q3=>have q3:=notT q3;have p3:=booF q3;.r 4<|.app 80 V ((chgL f g m).map chgR) ([[aI x2,aB true,aI 0,aI 0,aI 0,aS ([]),aN]]) (by first | (have:=Qg4 f g m;simp only [List.length_map,List.length_cons,List.length_nil];omega) | (simp only [List.length_map,List.length_cons,List.length_nil,List.length_take,List.length_append];omega)) (by first | (have:=Qg4 f g m;simp only [List.length_map,List.length_cons,List.length_nil];omega) | (simp only [List.length_map,List.length_cons,List.length_nil,List.length_take,List.length_append];omega)) fun V2=>
 .r 1<|.run 2 [rng .i64 ((m:Int)+1)] ⟨Qaj (by omega) (by omega),trivial⟩<|
 .bk L2 (m,V) ((m+1),V2) (show (m+1)≤(Qcp f g).length from (by show _≤_;omega)) (show (Qcp f g).length-(m+1)<(Qcp f g).length-m from (by omega)) [(35,aI ((m:Int)+1)),(8,.rw 8 V2 (((chgL f g m).map chgR).length+([[aI x2,aB true,aI 0,aI 0,aI 0,aS ([]),aN]]:List (List AV)).length))] [(8,.row V2 152 7 (((chgL f g m).map chgR)++([[aI x2,aB true,aI 0,aI 0,aI 0,aS ([]),aN]])))] ⟨sR,sR,sR,sO,Sub.of_eq (congrArg (AV.rw 8 V2) (by rw [Qhy hx2 (show chgD f g x2=some ⟨x2,true,nod0⟩ from by unfold chgD;rw [if_pos q3])];simp)),sR,trivial⟩ ⟨sB,sB,⟨_,rfl,SubB.of_eq (by rw [Qhy hx2 (show chgD f g x2=some ⟨x2,true,nod0⟩ from by unfold chgD;rw [if_pos q3])];simp [chgR,nod0])⟩,trivial⟩)
 <| fun q3=>have q3:=notF q3;have p3:=booT q3;.r 3<|.br 62 (!(Qau f x2)) (fun q4=>have q4:=notT q4;have p4:=booF q4;.r 6<|.u 5 [b5]<|
 .app 80 V ((chgL f g m).map chgR) ([[aI x2,aB false,aI ((Qaa g x2).ino),aI ((Qaa g x2).kind),aI ((Qaa g x2).links),aS ((Qaa g x2).text),.sl 2 false ((Qaa g x2).l.map entA)]]) (by first | (have:=Qg4 f g m;simp only [List.length_map,List.length_cons,List.length_nil];omega) | (simp only [List.length_map,List.length_cons,List.length_nil,List.length_take,List.length_append];omega)) (by first | (have:=Qg4 f g m;simp only [List.length_map,List.length_cons,List.length_nil];omega) | (simp only [List.length_map,List.length_cons,List.length_nil,List.length_take,List.length_append];omega)) fun V3=>
 .r 1<|.run 2 [rng .i64 ((m:Int)+1)] ⟨Qaj (by omega) (by omega),trivial⟩<|
 .bk L2 (m,V) ((m+1),V3) (show (m+1)≤(Qcp f g).length from (by show _≤_;omega)) (show (Qcp f g).length-(m+1)<(Qcp f g).length-m from (by omega)) [(35,aI ((m:Int)+1)),(8,.rw 8 V3 (((chgL f g m).map chgR).length+([[aI x2,aB false,aI ((Qaa g x2).ino),aI ((Qaa g x2).kind),aI ((Qaa g x2).links),aS ((Qaa g x2).text),.sl 2 false ((Qaa g x2).l.map entA)]]:List (List AV)).length))] [(8,.row V3 152 7 (((chgL f g m).map chgR)++([[aI x2,aB false,aI ((Qaa g x2).ino),aI ((Qaa g x2).kind),aI ((Qaa g x2).links),aS ((Qaa g x2).text),.sl 2 false ((Qaa g x2).l.map entA)]])))] ⟨sR,sR,sR,sO,Sub.of_eq (congrArg (AV.rw 8 V3) (by rw [Qhy hx2 (show chgD f g x2=some ⟨x2,false,Qaa g x2⟩ from by unfold chgD;rw [if_neg (by simp [q3]),if_pos (.inl q4)])];simp)),sR,trivial⟩ ⟨sB,sB,⟨_,rfl,SubB.of_eq (by rw [Qhy hx2 (show chgD f g x2=some ⟨x2,false,Qaa g x2⟩ from by unfold chgD;rw [if_neg (by simp [q3]),if_pos (.inl q4)])];simp [chgR])⟩,trivial⟩)
 <| fun q4=>have q4:=notF q4;have p4:=booT q4;.u 2 [b4,b5]<|
 .call (Qor (Qaa f x2) (Qaa g x2) (Qf6 okf _) (Qf6 okg _))<|
 .r 3<|.br 59 (!(dP ((Qaa f x2)=(Qaa g x2)))) (fun q5=>have q5:=notT q5;have p5:=booF q5;.u 5 [b5]<|
 .app 80 V ((chgL f g m).map chgR) ([[aI x2,aB false,aI ((Qaa g x2).ino),aI ((Qaa g x2).kind),aI ((Qaa g x2).links),aS ((Qaa g x2).text),.sl 2 false ((Qaa g x2).l.map entA)]]) (by first | (have:=Qg4 f g m;simp only [List.length_map,List.length_cons,List.length_nil];omega) | (simp only [List.length_map,List.length_cons,List.length_nil,List.length_take,List.length_append];omega)) (by first | (have:=Qg4 f g m;simp only [List.length_map,List.length_cons,List.length_nil];omega) | (simp only [List.length_map,List.length_cons,List.length_nil,List.length_take,List.length_append];omega)) fun V4=>
 .r 1<|.run 2 [rng .i64 ((m:Int)+1)] ⟨Qaj (by omega) (by omega),trivial⟩<|
 .bk L2 (m,V) ((m+1),V4) (show (m+1)≤(Qcp f g).length from (by show _≤_;omega)) (show (Qcp f g).length-(m+1)<(Qcp f g).length-m from (by omega)) [(35,aI ((m:Int)+1)),(8,.rw 8 V4 (((chgL f g m).map chgR).length+([[aI x2,aB false,aI ((Qaa g x2).ino),aI ((Qaa g x2).kind),aI ((Qaa g x2).links),aS ((Qaa g x2).text),.sl 2 false ((Qaa g x2).l.map entA)]]:List (List AV)).length))] [(8,.row V4 152 7 (((chgL f g m).map chgR)++([[aI x2,aB false,aI ((Qaa g x2).ino),aI ((Qaa g x2).kind),aI ((Qaa g x2).links),aS ((Qaa g x2).text),.sl 2 false ((Qaa g x2).l.map entA)]])))] ⟨sR,sR,sR,sO,Sub.of_eq (congrArg (AV.rw 8 V4) (by rw [Qhy hx2 (show chgD f g x2=some ⟨x2,false,Qaa g x2⟩ from by unfold chgD;rw [if_neg (by simp [q3]),if_pos (.inr (Qab.1 q5))])];simp)),sR,trivial⟩ ⟨sB,sB,⟨_,rfl,SubB.of_eq (by rw [Qhy hx2 (show chgD f g x2=some ⟨x2,false,Qaa g x2⟩ from by unfold chgD;rw [if_neg (by simp [q3]),if_pos (.inr (Qab.1 q5))])];simp [chgR])⟩,trivial⟩)
 <| fun q5=>have q5:=notF q5;have p5:=booT q5;.run 2 [rng .i64 ((m:Int)+1)] ⟨Qaj (by omega) (by omega),trivial⟩<|
 .bk L2 (m,V) ((m+1),V) (show (m+1)≤(Qcp f g).length from (by show _≤_;omega)) (show (Qcp f g).length-(m+1)<(Qcp f g).length-m from (by omega)) [(35,aI ((m:Int)+1)),(8,.rw 8 V ((chgL f g m).length))] [(8,.row V 152 7 ((chgL f g m).map chgR))] ⟨sR,sR,sR,sO,Sub.of_eq (congrArg (AV.rw 8 V) (by rw [Zeq hx2 (show chgD f g x2=none from by unfold chgD;rw [if_neg (by simp [q3]),if_neg (fun h=>h.elim (fun h=>by rw [q4] at h;cases h) (fun h=>h (Qas.1 q5)))])])),sR,trivial⟩ ⟨sB,sB,⟨_,rfl,SubB.of_eq (by rw [Zeq hx2 (show chgD f g x2=none from by unfold chgD;rw [if_neg (by simp [q3]),if_neg (fun h=>h.elim (fun h=>by rw [q4] at h;cases h) (fun h=>h (Qas.1 q5)))])])⟩,trivial⟩)
 <| fun p2=>.r 2<|.frz 8 [4] [] [V=V,(chgL f g m).length=((chgL f g m).map chgR).length] ⟨rfl,(by first | rfl | (simp;done) | (simp;omega)),trivial⟩<|
 .f (.sl 7 false ((Qb8 f g).map chgA)) [] (.sl 7 false ((chgL f g m).map chgR)) (by
  rw [Zir (by omega)];exact Zmf Qs4)) a2.1 a2.2 ha2) a1.1 a1.2 ha1)
end Go.Proofs.YtahlldgocpabjaaGreat

namespace Go.Proofs.YtahlldgocpabjaaGreat
open Go Go.RowKit Copyhold Go.Proofs.Tryz
open Copyhold.Name (Srt insE delE getE isAt)
theorem i0:I64 0:=⟨by decide,by decide⟩
theorem Qwx {k:Int} (h:0≤k) (h2:k≤1000000):I64 k:=⟨by omega,by omega⟩
def cA:Cal:=⟨6,1,0,0,0,[97],[],[]⟩
theorem cA_ok:OkCal cA:=⟨Qwx (by decide) (by decide),Qwx (by decide) (by decide),i0,i0,i0,by show 1≤_;omega,Nat.zero_le _,Nat.zero_le _⟩
noncomputable def fA:Fsy:=addF newF 1 [97] (addN newF Qlb)
theorem doA1:doF newF cA=(fA,⟨0,2,0,0,[],[]⟩):=by
 refine Qex (x:=(fA,⟨0,2,0,0,[],[]⟩)) ?_ rfl;rw [Qo7 rfl];show addO newF cA Qlb=_;unfold addO;show ((if Qaq newF 1 [97] Qlb=0 then _ else _),(⟨Qaq newF 1 [97] Qlb,_,_,_,_,_⟩:Rep))=_;rw [Qkt,if_pos rfl];rfl
theorem Qht:Qam fA∧OkF fA∧fA.next=3∧(∃ d,atF fA 1=some d∧d.kind=2∧d.l=[⟨[97],2⟩])∧(fA.l.length:Int)=2:=by
 have hb:=Qpc Qev Qkt;have ho:=Zka (n:=Qlb) (s:=[97]) Qp2 Qev Zhx (by decide) Qkt (by decide);refine ⟨hb.1,ho,?_,?_,?_⟩
 ·obtain ⟨d,A⟩:=Qq0 Qkt;have hr:=Qad Qev;have hroot:atF newF 1=some Qh4:=rfl;unfold fA addF;rw [show (addN newF Qlb).ino=2 from rfl,Qdp hroot];rw [Qme]
  ·rw [show (setL newF Qh4 (entL Qh4.l [97] 2)).next=2 from Qll (by decide)];rfl
  ·rw [show (setL newF Qh4 (entL Qh4.l [97] 2)).next=2 from Qll (by decide)];rfl
 ·have hroot:atF newF 1=some Qh4:=rfl;have he:entE Qh4.l [97] 2=0:=Qdh Zme (by decide) rfl (by decide);have hl:entL Qh4.l [97] 2=[⟨[97],2⟩]:=by unfold entL;rw [if_pos he];rfl
  have hk:rowP Qh4.l:=Qb2;obtain ⟨s1,s2,s3,s4⟩:=Qes Qev hroot rfl (Qqn (n:=2) hk Zme (by decide) rfl (by decide));refine ⟨Qbk Qh4 (entL Qh4.l [97] 2),?_,rfl,hl⟩;unfold fA addF;rw [show (addN newF Qlb).ino=2 from rfl,Qdp hroot,Qnq (Qad s1),if_neg (by decide),s4,if_pos rfl]
 ·have:=Zmk;rw [if_pos Qkt] at this;exact this
end Go.Proofs.YtahlldgocpabjaaGreat

namespace Go.Proofs.YtahlldgocpabjaaGreat
open Go Go.RowKit Copyhold Go.Proofs.Tryz
theorem Qnd {f:Fsy} {c:Cal} (hp:Qam f):(doF f c).2.names.length≤1000000:=Nat.le_trans (Zh5 hp) (by decide)
theorem Qkh (f:Fsy) (c:Cal):(Qal f c).length≤6:=by
 unfold Qal
 split
 ·simp
 ·exact Nat.le_trans (Qix _) (Qmp f c).2
theorem Zai {l:List Cal} (h:Qfo l) {c:Cal} (hc:c∈l):c.name.length≤2000∧c.name2.length≤2000∧c.text.length≤2000:=by
 have h1:=h.1;have:txC c≤((l.take l.length).map txC).sum:=by rw [List.take_length];exact Qj8 hc
 unfold smS at h1;have e:txC c=c.name.length+c.name2.length+c.text.length:=rfl;omega
theorem Qt4 (a b:List Txt) (h1:a.length≤1000000) (h2:b.length≤8796093022207):Qaf prog 51 [.sl 1 false (a.map txA),.sl 1 false (b.map txA)] (aB (dP (a=b))):=by
 exact Qac func51 (let R:AV:=aB (dP (a=b));
 .r 1<|.r 2<|.lm 7 a txA<|.r 2<|.lm 9 b txA<|.r 1<|.bn 10 (a.length:Int) (b.length:Int) (fun p1=>.r 1<|.f (aB (dP (a=b))) [] (aB false) (by exact sF (fun h=>by have:=congrArg List.length h;omega)))
 <| fun p1=>.r 1<|let L1:Lp (Nat):=⟨fun a1=>⟨[(0,.sl 1 false (a.map txA)),(1,.sl 1 false (b.map txA)),(5,aI (a1:Int))],[]⟩,fun a1=>a.length-a1,fun a1=>a1≤a.length∧a.take a1=b.take a1⟩
 .lp L1 0 ⟨Nat.zero_le _,rfl⟩ [(5,aI 0)] [] ⟨sR,sR,sO,trivial⟩ trivial fun a1 ha1=>
 (fun (k:Nat) (hH1:k≤a.length∧a.take k=b.take k)=>.r 3<|.lm 13 a txA<|.r 1<|.bd 14 ((k:Int)<(a.length:Int)) (fun p2=>.ord [0,1,2,3,4,5,6,7,8]<|.r 2<|.idxM a txA k (m:=(k:Int)) rfl (by omega) fun x1 hx1=>
 .r 3<|.idxM b txA k (m:=(k:Int)) rfl (by omega) fun x2 hx2=>
 .r 2<|.nbe 25 x1 x2 (fun p3=>.r 1<|.f R [] (aB false) (by
  refine sF (fun h=>?_);rw [h,hx2] at hx1;obtain rfl:=Option.some.inj hx1;simp_all [Qas,Qab]))
 <| fun p3=>.run 3 [rng .i64 ((k:Int)+1)] ⟨Qaj (by omega) (by omega),trivial⟩<|
 .bk L1 k (k+1) ⟨by omega,by rw [Qak hx1,Qak hx2,hH1.2];first | (congr 2;done) | (congr 2;exact (by simp_all))⟩ (show a.length-(k+1)<a.length-k from (by omega)) [(5,aI ((k:Int)+1))] [] ⟨sR,sR,sO,trivial⟩ trivial)
 <| fun p2=>.r 1<|.f R [] (aB true) (by
  refine sT ?_;have h:=hH1.2;rw [Qav (by omega),Qav (by omega)] at h;exact h)) a1 ha1)
theorem Qt5 (a b:Rep) (h1:a.names.length≤1000000) (h2:b.names.length≤8796093022207):Qaf prog 21 [.agg (repA a),.agg (repA b)] (aB (dP (a=b))):=by
 exact Qac func21 (let R:AV:=aB (dP (a=b));
 .new fun b1=>.new fun b2=>.r 1<|.u 4 [b1,b2]<|
 .call (Qt4 a.names b.names h1 h2)<|
 .r 1<|.r 2<|.bb 12 (dP (a.names=b.names)) (fun p1=>.u 7 [b1,b2]<|
 .be 19 a.e b.e (fun p2=>.u 7 [b1,b2]<|
 .be 26 a.a b.a (fun p3=>.u 7 [b1,b2]<|
 .be 33 a.b b.b (fun p4=>.u 7 [b1,b2]<|
 .be 40 a.n b.n (fun p5=>.u 7 [b1,b2]<|
 .f R [] (aB (a.text==b.text)) (by
  refine sE ?_;constructor
  ·intro h;simp only [Bool.and_eq_true,beq_iff_eq,Qas] at *;refine rep_eq ?_ ?_ ?_ ?_ ?_ ?_<;>simp_all
  ·intro h;subst h;simp_all [Qas]))
 <| fun p5=>.r 7<|.f R [] (aB false) (by
  refine sF (fun h=>?_);subst h;simp_all [Qab]))
 <| fun p4=>.r 14<|.f R [] (aB false) (by
  refine sF (fun h=>?_);subst h;simp_all [Qab]))
 <| fun p3=>.r 21<|.f R [] (aB false) (by
  refine sF (fun h=>?_);subst h;simp_all [Qab]))
 <| fun p2=>.r 28<|.f R [] (aB false) (by
  refine sF (fun h=>?_);subst h;simp_all [Qab]))
 <| fun p1=>.r 35<|.f R [] (aB false) (by
  refine sF (fun h=>?_);subst h;simp_all [Qab]))
end Go.Proofs.YtahlldgocpabjaaGreat

namespace Go.Proofs.YtahlldgocpabjaaGreat
open Go Go.RowKit Copyhold Go.Proofs.Tryz
section
variable {α:Type}
def cutV (f:α→Int) (st:Int):List α→Nat
 | []=>0
 | x :: r=>if cutV f st r=0 then (if f x≤st then 1 else 0) else cutV f st r+1
theorem Qg2 (f:α→Int) (st:Int):∀ l:List α,cutV f st l≤l.length
 | []=>Nat.le_refl _
 | x :: r=>by
  have:=Qg2 f st r;simp only [cutV,List.length_cons]
  split
  ·split<;>omega
  ·omega
theorem Qg3 (f:α→Int) (st:Int):∀ (l:List α) (k:Nat),k≤l.length→(∀ j x,k≤j→l[j]?=some x→st<f x)→(k=0∨∃ x,l[k-1]?=some x∧f x≤st)→cutV f st l=k
 | [],k,hk,_,_=>by simp at hk;subst hk;rfl
 | x :: r,0,_,ha,_=>by
  have h1:=Qg3 f st r 0 (Nat.zero_le _) (fun j y _ hy=>ha (j+1) y (Nat.zero_le _) (by simpa using hy)) (.inl rfl);have h2:=ha 0 x (Nat.zero_le _) rfl;simp only [cutV,h1,if_true];rw [if_neg (by omega)]
 | x :: r,k+1,hk,ha,he=>by
  simp only [List.length_cons] at hk;have ha':∀ j y,k≤j→r[j]?=some y→st<f y:=fun j y hj hy=>ha (j+1) y (by omega) (by simpa using hy);rcases he with he | ⟨y,hy,hle⟩
  ·omega
  ·cases k with
   | zero=>
    have h1:=Qg3 f st r 0 (Nat.zero_le _) ha' (.inl rfl);simp at hy;subst hy;simp only [cutV,h1,if_true,if_pos hle]
   | succ k=>
    have h1:=Qg3 f st r (k+1) (by omega) ha' (.inr ⟨y,by simpa using hy,hle⟩);simp only [cutV,h1];rfl
theorem Zf5 (f:α→Int) (st:Int) (l:List α):l.length≤l.length∧∀ j y,l.length≤j→l[j]?=some y→st<f y:=⟨Nat.le_refl _,fun j y hj hy=>by have:=Qan hy;omega⟩
theorem Zf4 {f:α→Int} {st:Int} {l:List α} {k:Nat} {x:α} (hx:l[k-1]?=some x) (hk:k≤l.length) (h:∀ j y,k≤j→l[j]?=some y→st<f y) (hg:st<f x):k-1≤l.length∧∀ j y,k-1≤j→l[j]?=some y→st<f y:=
 ⟨by omega,fun j y hj hy=>by
  by_cases e:j=k-1
  ·subst e;rw [hx] at hy;obtain rfl:=Option.some.inj hy;exact hg
  ·exact h j y (by omega) hy⟩
def atD (f:α→Int) (st:Int) (l:List α):Option α:=if cutV f st l=0 then none else l[cutV f st l-1]?
def Zad (f:α→Int) (most:Int) (l:List α) (i:Nat) (x:α):Prop:=1≤f x∧f x≤most∧∀ d,0<i→l[i-1]?=some d→f d<f x
def riseP (f:α→Int) (most:Int) (l:List α):Prop:=1≤l.length∧AllQ (Zad f most l) l
def Qq3 (f:α→Int) (l:List α) (k:Nat) (last:Int):Prop:=(k=0∧last=0)∨∃ d,0<k∧l[k-1]?=some d∧last=f d∧1≤last
theorem Qq3.pos {f:α→Int} {l:List α} {k:Nat} {last:Int} (h:Qq3 f l k last):0≤last:=by
 rcases h with ⟨_,h⟩ | ⟨d,_,_,_,h⟩<;>omega
theorem Qq3.step {f:α→Int} {l:List α} {k:Nat} {last:Int} {x:α} (h:Qq3 f l k last) (hx:l[k]?=some x) (hgt:¬ f x≤last):Qq3 f l (k+1) (f x):=
 .inr ⟨x,by omega,by simpa using hx,rfl,by have:=h.pos;omega⟩
theorem Qq3.lt {f:α→Int} {l:List α} {k:Nat} {last:Int} (h:Qq3 f l k last) {v:Int} (hgt:¬ v≤last):1≤v∧∀ d,0<k→l[k-1]?=some d→f d<v:=by
 refine ⟨by have:=h.pos;omega,fun d h0 hd=>?_⟩;rcases h with ⟨h,_⟩ | ⟨e,_,he,h1,_⟩
 ·omega
 ·rw [hd] at he;obtain rfl:=Option.some.inj he;omega
theorem Qq3.not {f:α→Int} {l:List α} {k:Nat} {last:Int} (h:Qq3 f l k last) {v:Int} (hle:v≤last):¬ (1≤v∧∀ d,0<k→l[k-1]?=some d→f d<v):=by
 rintro ⟨h1,h2⟩;rcases h with ⟨_,h⟩ | ⟨e,h0,he,h3,_⟩
 ·omega
 ·have:=h2 e h0 he;omega
end
def verP (ino:Int) (v:Ver):Prop:=(v.gone=true→v.n=nod0)∧(v.gone=false→nodP v.n∧v.n.ino=ino)
def Qxm (most:Int) (c:Chn):Prop:=1≤c.ino∧riseP Ver.stamp most c.l∧AllQ (fun _ v=>verP c.ino v) c.l
def Zmd (s:Sto) (i:Nat) (c:Chn):Prop:=Qxm s.stamp c∧∀ d,0<i→s.l[i-1]?=some d→d.ino<c.ino
def Qn8 (s:Sto):Prop:=1≤s.stamp∧riseP Cnt.stamp s.stamp s.nexts∧AllQ (fun _ (c:Cnt)=>1≤c.next) s.nexts∧AllQ (Zmd s) s.l
def Qd5 (st:Int) (c:Chn):Option Nod:=match atD Ver.stamp st c.l with
 | some v=>if v.gone then none else some v.n
 | none=>none
def Qut (s:Sto) (st:Int):Int:=match atD Cnt.stamp st s.nexts with
 | some c=>c.next
 | none=>1
def Qd4 (s:Sto) (st:Int):Fsy:=⟨s.l.filterMap (Qd5 st),Qut s st⟩
theorem Qe0 {st:Int} {c:Chn} {v:Ver} (h0:¬ cutV Ver.stamp st c.l=0) (hv:c.l[cutV Ver.stamp st c.l-1]?=some v):Qd5 st c=if v.gone then none else some v.n:=by
 unfold Qd5 atD;rw [if_neg h0,hv]
theorem Qhc {st:Int} {c:Chn} (h0:cutV Ver.stamp st c.l=0):Qd5 st c=none:=by
 unfold Qd5 atD;rw [if_pos h0]
theorem Qwj {s:Sto} {st:Int} {c:Cnt} (h0:¬ cutV Cnt.stamp st s.nexts=0) (hc:s.nexts[cutV Cnt.stamp st s.nexts-1]?=some c):Qut s st=c.next:=by
 unfold Qut atD;rw [if_neg h0,hc]
theorem Qos {s:Sto} {st:Int} (h0:cutV Cnt.stamp st s.nexts=0):Qut s st=1:=by
 unfold Qut atD;rw [if_pos h0]
def Qce (s:Sto) (st:Int) (k:Nat):List Nod:=(s.l.take k).filterMap (Qd5 st)
theorem Qi0 {s:Sto} {st:Int} {k:Nat} {c:Chn} {n:Nod} (hc:s.l[k]?=some c) (h:Qd5 st c=some n):Qce s st (k+1)=Qce s st k++[n]:=by
 unfold Qce;rw [Qak hc,List.filterMap_append];simp [h]
theorem Qe3 {s:Sto} {st:Int} {k:Nat} {c:Chn} (hc:s.l[k]?=some c) (h:Qd5 st c=none):Qce s st (k+1)=Qce s st k:=by
 unfold Qce;rw [Qak hc,List.filterMap_append];simp [h]
theorem Qlh (s:Sto) (st:Int) (k:Nat):(Qce s st k).length≤k:=by
 have:=List.length_filterMap_le (Qd5 st) (s.l.take k);rw [List.length_take] at this;unfold Qce;omega
theorem Qi1 {s:Sto} {st:Int} {k:Nat} (h:s.l.length≤k):Qce s st k=s.l.filterMap (Qd5 st):=by unfold Qce;rw [Qav h]
def Qoy (st:Int) (c:Chn):Bool:=c.l.any fun v=>decide (v.stamp>st)
def Qb1 (s:Sto) (st:Int) (k:Nat):List Int:=((s.l.take k).filter (Qoy st)).map Chn.ino
def Zg5 (s:Sto) (st:Int):Bool:=s.nexts.any fun c=>decide (c.stamp>st)
def Qdc (s:Sto) (st:Int):List Int:=if 1≤(Qb1 s st s.l.length).length∨Zg5 s st=true then 0 :: Qb1 s st s.l.length else []
theorem Qox {s:Sto} {st:Int} {k:Nat} {c:Chn} (hc:s.l[k]?=some c) (h:Qoy st c=true):Qb1 s st (k+1)=Qb1 s st k++[c.ino]:=by
 unfold Qb1;rw [Qak hc,List.filter_append,List.map_append];simp [h]
theorem Qr8 {s:Sto} {st:Int} {k:Nat} {c:Chn} (hc:s.l[k]?=some c) (h:Qoy st c=false):Qb1 s st (k+1)=Qb1 s st k:=by
 unfold Qb1;rw [Qak hc,List.filter_append,List.map_append];simp [h]
theorem Qmv (s:Sto) (st:Int) (k:Nat):(Qb1 s st k).length≤k:=by
 have:=List.length_filter_le (Qoy st) (s.l.take k);rw [List.length_take] at this;unfold Qb1;rw [List.length_map];omega
theorem Qkj {s:Sto} {st:Int} {k:Nat} (h:s.l.length≤k):Qb1 s st k=Qb1 s st s.l.length:=by unfold Qb1;rw [Qav h,Qav (Nat.le_refl _)]
section
variable {α:Type}
def idxF (p:α→Bool):List α→Int
 | []=>-1
 | x :: r=>if p x then 0 else if idxF p r<0 then -1 else idxF p r+1
theorem Qqa (p:α→Bool):∀ l:List α,decide (idxF p l≥0)=l.any p
 | []=>rfl
 | x :: r=>by
  have:=Qqa p r;simp only [idxF,List.any_cons,← this];by_cases hp:p x=true
  ·simp [hp]
  ·simp only [Bool.not_eq_true] at hp;simp only [hp,Bool.false_or,Bool.false_eq_true,if_false]
   split<;>simp<;>omega
theorem Qm3 (p:α→Bool):∀ l:List α,AllQ (fun _ x=>p x=false) l→idxF p l = -1
 | [],_=>rfl
 | x :: r,h=>by
  have h1:=h 0 x rfl;have h2:=Qm3 p r fun i e he=>h (i+1) e (by simpa using he);simp [idxF,h1,h2]
theorem Qu1 (p:α→Bool):∀ (l:List α) (k:Nat) (x:α),Qa1 (fun _ x=>p x=false) l k→l[k]?=some x→p x=true→idxF p l=k
 | y :: r,0,x,_,hx,hp=>by
  simp at hx;subst hx;simp [idxF,hp]
 | y :: r,k+1,x,h,hx,hp=>by
  have h1:=h 0 y (by omega) rfl;have h2:=Qu1 p r k x (fun i e hi he=>h (i+1) e (by omega) (by simpa using he)) (by simpa using hx) hp;simp [idxF,h1,h2];omega
end
theorem Zft (v:Ver):Qaf prog 154 [.agg (verA v)] (aI v.stamp):=by
 exact Qac func154 (
 .new fun b1=>.r 1<|.u 3 [b1]<|
 .fi (aI v.stamp) [])
theorem Zfs (c:Cnt):Qaf prog 155 [.agg [aI c.stamp,aI c.next]] (aI c.stamp):=by
 exact Qac func155 (
 .new fun b1=>.r 1<|.u 3 [b1]<|
 .fi (aI c.stamp) [])
theorem Qtv :Qaf prog 92 [] (.tup [.val (.func (.func 154) #[] #[]),.val (.func (.func 155) #[] #[])]):=by
 exact Qac func92 (let R:AV:=.tup [.val (.func (.func 154) #[] #[]),.val (.func (.func 155) #[] #[])];
 .r 2<|.r 2<|.fi R [])
theorem Qj5 {ino:Int} {v:Ver} (h1:v.gone=true→v.n=nod0) (h2:v.gone=false→nodP v.n∧v.n.ino=ino):verP ino v:=⟨h1,h2⟩
theorem Qzl (c:Chn) (last:Int) (okc:OkC c):Qaf prog 77 [.agg [aI c.ino,.sl 7 false (c.l.map verA)],aI last] (aB (dP (Qxm last c))):=by
 have hcl:=okc.2.1;exact Qac func77 (let R:AV:=aB (dP (Qxm last c));
 .new fun b1=>.r 1<|.u 4 [b1]<|
 .bd 12 (c.ino<1) (fun p1=>.r 5<|.r 1<|.f R [] (aB false) (by
  refine sF (fun h=>?_);obtain ⟨g1,⟨g2,_⟩,g3⟩:=h;omega))
 <| fun p1=>.u 3 [b1]<|
 .lm 15 c.l verA<|.r 2<|.bd 17 ((c.l.length:Int)<1) (fun p2=>.r 1<|.f R [] (aB false) (by
  refine sF (fun h=>?_);obtain ⟨g1,⟨g2,_⟩,g3⟩:=h;omega))
 <| fun p2=>.r 1<|let L1:Lp (Nat):=⟨fun a1=>⟨[(1,aI last),(2,.ptr 2 b1 0),(5,aI (a1:Int))],[(2,.box b1 98 [aI c.ino,.sl 7 false (c.l.map verA)])]⟩,fun a1=>c.l.length-a1,fun a1=>a1≤c.l.length∧Qa1 (Zad Ver.stamp last c.l) c.l a1∧Qa1 (fun _ v=>verP c.ino v) c.l a1⟩
 .lp L1 0 ⟨Nat.zero_le _,Qa1.zero _ _,Qa1.zero _ _⟩ [(5,aI 0)] [] ⟨sR,sR,sO,trivial⟩ bb1 fun a1 ha1=>
 (fun (k:Nat) (hH1:k≤c.l.length∧Qa1 (Zad Ver.stamp last c.l) c.l k∧Qa1 (fun _ v=>verP c.ino v) c.l k)=>.u 4 [b1]<|
 .lm 21 c.l verA<|.r 1<|.bd 22 ((k:Int)<(c.l.length:Int)) (fun p3=>.u 3 [b1]<|
 .idxM c.l verA k (m:=(k:Int)) rfl (by omega) fun x1 hx1=>
 have okx1:=okc.2.2 x1 (List.mem_of_getElem? hx1);.r 1<|.new fun b2=>.u 1 [b2]<|
 .u 2 [b2]<|
 .call (Qgn x1.n (okx1).2)<|
 .r 1<|.bb 33 (dP (nodP x1.n)) (fun p4=>.u 8 [b2,b1]<|
 .u 3 [b2]<|
 .cs (args0:=[.agg (nodA x1.n),.agg [aI 0,aI 0,aI 0,aS ([]),aN]]) (Qib x1.n nod0 (okx1).2 Qke) ⟨sR,Sub.aggs ⟨sR,sR,sR,sR,Sub.nil _ _,trivial⟩,trivial⟩<|
 .r 1<|.ord [0,1,2,3,4,5,6,7,8,9,10,11,12,13,14,15,16,17,18,19,20,21,22,23,24,25,26,27,28,29,30,31,32,33,34,35,36,37,38,39,40,41]<|.u 4 [b2]<|
 .bd 48 (x1.stamp<1) (fun p5=>.r 38<|.r 1<|.f R [] (aB false) (by
  refine sF (fun h=>?_);obtain ⟨g1,g2,g3⟩:=h.2.1.2.at hx1;obtain ⟨g4,g5⟩:=h.2.2.at hx1
  first | omega | (simp_all [Qab];done) | (simp_all [Qab];omega)))
 <| fun p5=>.u 6 [b2]<|
 .bd 54 (x1.stamp>last) (fun p6=>.r 32<|.r 1<|.f R [] (aB false) (by
  refine sF (fun h=>?_);obtain ⟨g1,g2,g3⟩:=h.2.1.2.at hx1;obtain ⟨g4,g5⟩:=h.2.2.at hx1
  first | omega | (simp_all [Qab];done) | (simp_all [Qab];omega)))
 <| fun p6=>.r 3<|.bd 57 ((k:Int)>0) (fun p7=>.run 4 [b1=b1,rng .i64 ((k:Int)-1)] ⟨rfl,Qaj (by omega) (by omega),trivial⟩<|
 .idxM c.l verA (k-1) (m:=(k:Int)-1) (by omega) (by omega) fun x2 hx2=>
 have okx2:=okc.2.2 x2 (List.mem_of_getElem? hx2);.u 8 [b2]<|
 .bd 70 (x2.stamp≥x1.stamp) (fun p8=>.r 16<|.r 1<|.f R [] (aB false) (by
  refine sF (fun h=>?_);obtain ⟨g1,g2,g3⟩:=h.2.1.2.at hx1;obtain ⟨g4,g5⟩:=h.2.2.at hx1
  first | omega | (have:=g3 _ (by omega) hx2;omega) | (simp_all [Qab];done) | (simp_all [Qab];omega)))
 <| fun p8=>.u 3 [b2]<|
 .br 73 (x1.gone) (fun q9=>have p9:=booT q9;.r 5<|.nbb 78 (dP (x1.n=nod0)) (fun p10=>.r 8<|.r 1<|.f R [] (aB false) (by
  refine sF (fun h=>?_);obtain ⟨g1,g2,g3⟩:=h.2.1.2.at hx1;obtain ⟨g4,g5⟩:=h.2.2.at hx1
  first | omega | (have:=g3 _ (by omega) hx2;omega) | (simp_all [Qab];done) | (simp_all [Qab];omega)))
 <| fun p10=>.u 4 [b2]<|
 .is 82 (show (!x1.gone)=false from by rw [q9];rfl)<|.r 4<|.run 3 [rng .i64 ((k:Int)+1)] ⟨Qaj (by omega) (by omega),trivial⟩<|
 .bk L1 k (k+1) ⟨by omega,hH1.2.1.step hx1 ⟨by omega,by omega,by intro d h0 hd;first | omega | (rw [hd] at hx2;obtain rfl:=Option.some.inj hx2;omega)⟩,hH1.2.2.step hx1 (by first | exact Qj5 (by simp_all [Qas,Qab]) (by simp_all [Qas,Qab]) | skip)⟩ (show c.l.length-(k+1)<c.l.length-k from (by omega)) [(5,aI ((k:Int)+1))] [] ⟨sR,sR,sO,trivial⟩ bb1)
 <| fun q9=>have p9:=booF q9;.u 9 [b2]<|
 .is 82 (show (!x1.gone)=true from by rw [q9];rfl)<|.r 4<|.nbe 86 x1.n.ino c.ino (fun p11=>.r 1<|.f R [] (aB false) (by
  refine sF (fun h=>?_);obtain ⟨g1,g2,g3⟩:=h.2.1.2.at hx1;obtain ⟨g4,g5⟩:=h.2.2.at hx1
  first | omega | (have:=g3 _ (by omega) hx2;omega) | (simp_all [Qab];done) | (simp_all [Qab];omega)))
 <| fun p11=>.run 3 [rng .i64 ((k:Int)+1)] ⟨Qaj (by omega) (by omega),trivial⟩<|
 .bk L1 k (k+1) ⟨by omega,hH1.2.1.step hx1 ⟨by omega,by omega,by intro d h0 hd;first | omega | (rw [hd] at hx2;obtain rfl:=Option.some.inj hx2;omega)⟩,hH1.2.2.step hx1 (by first | exact Qj5 (by simp_all [Qas,Qab]) (by simp_all [Qas,Qab]) | skip)⟩ (show c.l.length-(k+1)<c.l.length-k from (by omega)) [(5,aI ((k:Int)+1))] [] ⟨sR,sR,sO,trivial⟩ bb1)
 <| fun p7=>.u 16 [b2]<|
 .br 73 (x1.gone) (fun q12=>have p12:=booT q12;.r 5<|.nbb 78 (dP (x1.n=nod0)) (fun p13=>.r 8<|.r 1<|.f R [] (aB false) (by
  refine sF (fun h=>?_);obtain ⟨g1,g2,g3⟩:=h.2.1.2.at hx1;obtain ⟨g4,g5⟩:=h.2.2.at hx1
  first | omega | (simp_all [Qab];done) | (simp_all [Qab];omega)))
 <| fun p13=>.u 4 [b2]<|
 .is 82 (show (!x1.gone)=false from by rw [q12];rfl)<|.r 4<|.run 3 [rng .i64 ((k:Int)+1)] ⟨Qaj (by omega) (by omega),trivial⟩<|
 .bk L1 k (k+1) ⟨by omega,hH1.2.1.step hx1 ⟨by omega,by omega,by intro d h0 hd;omega⟩,hH1.2.2.step hx1 (by first | exact Qj5 (by simp_all [Qas,Qab]) (by simp_all [Qas,Qab]) | skip)⟩ (show c.l.length-(k+1)<c.l.length-k from (by omega)) [(5,aI ((k:Int)+1))] [] ⟨sR,sR,sO,trivial⟩ bb1)
 <| fun q12=>have p12:=booF q12;.u 9 [b2]<|
 .is 82 (show (!x1.gone)=true from by rw [q12];rfl)<|.r 4<|.nbe 86 x1.n.ino c.ino (fun p14=>.r 1<|.f R [] (aB false) (by
  refine sF (fun h=>?_);obtain ⟨g1,g2,g3⟩:=h.2.1.2.at hx1;obtain ⟨g4,g5⟩:=h.2.2.at hx1
  first | omega | (simp_all [Qab];done) | (simp_all [Qab];omega)))
 <| fun p14=>.run 3 [rng .i64 ((k:Int)+1)] ⟨Qaj (by omega) (by omega),trivial⟩<|
 .bk L1 k (k+1) ⟨by omega,hH1.2.1.step hx1 ⟨by omega,by omega,by intro d h0 hd;omega⟩,hH1.2.2.step hx1 (by first | exact Qj5 (by simp_all [Qas,Qab]) (by simp_all [Qas,Qab]) | skip)⟩ (show c.l.length-(k+1)<c.l.length-k from (by omega)) [(5,aI ((k:Int)+1))] [] ⟨sR,sR,sO,trivial⟩ bb1)
 <| fun p4=>.r 8<|.u 3 [b2]<|
 .cs (args0:=[.agg (nodA x1.n),.agg [aI 0,aI 0,aI 0,aS ([]),aN]]) (Qib x1.n nod0 (okx1).2 Qke) ⟨sR,Sub.aggs ⟨sR,sR,sR,sR,Sub.nil _ _,trivial⟩,trivial⟩<|
 .r 1<|.ord [0,1,2,3,4,5,6,7,8,9,10,11,12,13,14,15,16,17,18,19,20,21,22,23,24,25,26,27,28,29,30,31,32,33,34,35,36,37,38,39,40,41]<|.u 4 [b2]<|
 .bd 48 (x1.stamp<1) (fun p15=>.r 38<|.r 1<|.f R [] (aB false) (by
  refine sF (fun h=>?_);obtain ⟨g1,g2,g3⟩:=h.2.1.2.at hx1;obtain ⟨g4,g5⟩:=h.2.2.at hx1
  first | omega | (simp_all [Qab];done) | (simp_all [Qab];omega)))
 <| fun p15=>.u 6 [b2]<|
 .bd 54 (x1.stamp>last) (fun p16=>.r 32<|.r 1<|.f R [] (aB false) (by
  refine sF (fun h=>?_);obtain ⟨g1,g2,g3⟩:=h.2.1.2.at hx1;obtain ⟨g4,g5⟩:=h.2.2.at hx1
  first | omega | (simp_all [Qab];done) | (simp_all [Qab];omega)))
 <| fun p16=>.r 3<|.bd 57 ((k:Int)>0) (fun p17=>.run 4 [b1=b1,rng .i64 ((k:Int)-1)] ⟨rfl,Qaj (by omega) (by omega),trivial⟩<|
 .idxM c.l verA (k-1) (m:=(k:Int)-1) (by omega) (by omega) fun x3 hx3=>
 have okx3:=okc.2.2 x3 (List.mem_of_getElem? hx3);.u 8 [b2]<|
 .bd 70 (x3.stamp≥x1.stamp) (fun p18=>.r 16<|.r 1<|.f R [] (aB false) (by
  refine sF (fun h=>?_);obtain ⟨g1,g2,g3⟩:=h.2.1.2.at hx1;obtain ⟨g4,g5⟩:=h.2.2.at hx1
  first | omega | (have:=g3 _ (by omega) hx3;omega) | (simp_all [Qab];done) | (simp_all [Qab];omega)))
 <| fun p18=>.u 3 [b2]<|
 .br 73 (x1.gone) (fun q19=>have p19:=booT q19;.r 5<|.nbb 78 (dP (x1.n=nod0)) (fun p20=>.r 8<|.r 1<|.f R [] (aB false) (by
  refine sF (fun h=>?_);obtain ⟨g1,g2,g3⟩:=h.2.1.2.at hx1;obtain ⟨g4,g5⟩:=h.2.2.at hx1
  first | omega | (have:=g3 _ (by omega) hx3;omega) | (simp_all [Qab];done) | (simp_all [Qab];omega)))
 <| fun p20=>.u 4 [b2]<|
 .is 82 (show (!x1.gone)=false from by rw [q19];rfl)<|.r 4<|.run 3 [rng .i64 ((k:Int)+1)] ⟨Qaj (by omega) (by omega),trivial⟩<|
 .bk L1 k (k+1) ⟨by omega,hH1.2.1.step hx1 ⟨by omega,by omega,by intro d h0 hd;first | omega | (rw [hd] at hx3;obtain rfl:=Option.some.inj hx3;omega)⟩,hH1.2.2.step hx1 (by first | exact Qj5 (by simp_all [Qas,Qab]) (by simp_all [Qas,Qab]) | skip)⟩ (show c.l.length-(k+1)<c.l.length-k from (by omega)) [(5,aI ((k:Int)+1))] [] ⟨sR,sR,sO,trivial⟩ bb1)
 <| fun q19=>have p19:=booF q19;.u 9 [b2]<|
 .is 82 (show (!x1.gone)=true from by rw [q19];rfl)<|.r 4<|.r 1<|.f R [] (aB false) (by
  refine sF (fun h=>?_);obtain ⟨g1,g2,g3⟩:=h.2.1.2.at hx1;obtain ⟨g4,g5⟩:=h.2.2.at hx1
  first | omega | (have:=g3 _ (by omega) hx3;omega) | (simp_all [Qab];done) | (simp_all [Qab];omega)))
 <| fun p17=>.u 16 [b2]<|
 .br 73 (x1.gone) (fun q21=>have p21:=booT q21;.r 5<|.nbb 78 (dP (x1.n=nod0)) (fun p22=>.r 8<|.r 1<|.f R [] (aB false) (by
  refine sF (fun h=>?_);obtain ⟨g1,g2,g3⟩:=h.2.1.2.at hx1;obtain ⟨g4,g5⟩:=h.2.2.at hx1
  first | omega | (simp_all [Qab];done) | (simp_all [Qab];omega)))
 <| fun p22=>.u 4 [b2]<|
 .is 82 (show (!x1.gone)=false from by rw [q21];rfl)<|.r 4<|.run 3 [rng .i64 ((k:Int)+1)] ⟨Qaj (by omega) (by omega),trivial⟩<|
 .bk L1 k (k+1) ⟨by omega,hH1.2.1.step hx1 ⟨by omega,by omega,by intro d h0 hd;omega⟩,hH1.2.2.step hx1 (by first | exact Qj5 (by simp_all [Qas,Qab]) (by simp_all [Qas,Qab]) | skip)⟩ (show c.l.length-(k+1)<c.l.length-k from (by omega)) [(5,aI ((k:Int)+1))] [] ⟨sR,sR,sO,trivial⟩ bb1)
 <| fun q21=>have p21:=booF q21;.u 9 [b2]<|
 .is 82 (show (!x1.gone)=true from by rw [q21];rfl)<|.r 4<|.r 1<|.f R [] (aB false) (by
  refine sF (fun h=>?_);obtain ⟨g1,g2,g3⟩:=h.2.1.2.at hx1;obtain ⟨g4,g5⟩:=h.2.2.at hx1
  first | omega | (simp_all [Qab];done) | (simp_all [Qab];omega)))
 <| fun p3=>.r 1<|.f R [] (aB true) (by refine sT ⟨by omega,⟨by omega,hH1.2.1.full (by omega)⟩,hH1.2.2.full (by omega)⟩)) a1 ha1)
end Go.Proofs.YtahlldgocpabjaaGreat
