import Derived.Test.YtahlldgocpabjaaGreatMrgAD
import Derived.Test.YtahlldgocpabjaaGreatMrgL
import Derived.Test.YtahlldgocpabjaaGreatMrgJ
import Derived.Test.YtahlldgocpabjaaGreatMrgY
import Derived.Test.YtahlldgocpabjaaGreatMrgAB
import Derived.Test.YtahlldgocpabjaaGreatMrgX
import Derived.Test.YtahlldgocpabjaaGreatMrgAC
set_option maxRecDepth 100000
set_option maxHeartbeats 8000000
set_option linter.unusedVariables false
set_option linter.unusedSimpArgs false
namespace Go.Proofs.YtahlldgocpabjaaGreat
open Go Go.RowKit Copyhold Go.Proofs.Tryz
structure Chg where
 ino:Int
 gone:Bool
 n:Nod
 deriving DecidableEq
def chgA (c:Chg):List AV:=[aI c.ino,aB c.gone,aI c.n.ino,aI c.n.kind,aI c.n.links,aS c.n.text,.sl 2 false (c.n.l.map entA)]
def chgR (c:Chg):List AV:=[aI c.ino,aB c.gone,aI c.n.ino,aI c.n.kind,aI c.n.links,aS c.n.text,bif c.gone then aN else .sl 2 false (c.n.l.map entA)]
theorem Zl2 {l:List Chg} {t:Bool} (h:∀ c∈l,c.gone=true→c.n.l=[]):Sub (.sl 7 t (l.map chgR)) (.sl 7 false (l.map chgA)):=
 (Sub.sl2 (xs:=l.map chgR) (ys:=l.map chgA) (by simp) (fun i a b ha hb=>by
  rw [List.getElem?_map] at ha hb;cases hc:l[i]? with
  | none=>rw [hc] at ha;cases ha
  | some c=>
   rw [hc] at ha hb;obtain rfl:=Option.some.inj ha;obtain rfl:=Option.some.inj hb;refine ⟨sR,sR,sR,sR,sR,sR,?_,trivial⟩;cases hg:c.gone with
   | false=>exact sR
   | true=>
    rw [h c (List.mem_of_getElem? hc) hg];exact Sub.nil _ _)).trans (Sub.loose _ _ _)
def Qnv (l:List Int) (ns:List Nod):List Int:=ns.foldl (fun l n=>Qcs l n.ino) l
theorem Qlo (l:List Int):∀ (ns:List Nod) ,(Qnv l ns).length≤l.length+ns.length:=by
 intro ns
 induction ns generalizing l with
 | nil=>exact Nat.le_refl _
 | cons n r ih=>
  have:=ih (Qcs l n.ino);have:=Qhi l n.ino;show (Qnv (Qcs l n.ino) r).length≤_;simp only [List.length_cons];omega
def Qcp (a b:Fsy):List Int:=Qnv (Qnv [] a.l) b.l
def chgD (a b:Fsy) (i:Int):Option Chg:=if Qau b i=false then some ⟨i,true,nod0⟩ else if Qau a i=false∨¬ Qaa a i=Qaa b i then some ⟨i,false,Qaa b i⟩ else none
def chgL (a b:Fsy) (k:Nat):List Chg:=((Qcp a b).take k).filterMap (chgD a b)
def Qbr (a b:Fsy):List Chg:=(Qcp a b).filterMap (chgD a b)
theorem Qh5 {a b:Fsy} {k:Nat} {i:Int} {c:Chg} (hx:(Qcp a b)[k]?=some i) (h:chgD a b i=some c):chgL a b (k+1)=chgL a b k++[c]:=by
 unfold chgL;rw [Qap hx,List.filterMap_append];simp [h]
theorem Zes {a b:Fsy} {k:Nat} {i:Int} (hx:(Qcp a b)[k]?=some i) (h:chgD a b i=none):chgL a b (k+1)=chgL a b k:=by
 unfold chgL;rw [Qap hx,List.filterMap_append];simp [h]
theorem Qha (a b:Fsy) (k:Nat):(chgL a b k).length≤k:=by
 have:=List.length_filterMap_le (chgD a b) ((Qcp a b).take k);rw [List.length_take] at this;unfold chgL;omega
theorem Zih {a b:Fsy} {k:Nat} (h:(Qcp a b).length≤k):chgL a b k=Qbr a b:=by unfold chgL;rw [Qaw h];rfl
theorem Qsr {a b:Fsy}:∀ c∈Qbr a b,c.gone=true→c.n.l=[]:=fun c hc hg=>by
 obtain ⟨i,_,h⟩:=List.mem_filterMap.1 hc;unfold chgD at h
 split at h
 ·obtain rfl:=Option.some.inj h;rfl
 ·split at h
  ·obtain rfl:=Option.some.inj h;cases hg
  ·cases h
theorem Qmk {x:Int}:∀ {ns:List Nod} {l:List Int},x∈Qnv l ns↔x∈l∨x∈ns.map Nod.ino
 | [],l=>by simp [Qnv]
 | n :: r,l=>by
  show x∈Qnv (Qcs l n.ino) r↔_;rw [Qmk,Qis,List.map_cons,List.mem_cons];constructor
  ·rintro ((h | h) | h)
   ·exact .inr (.inl h)
   ·exact .inl h
   ·exact .inr (.inr h)
  ·rintro (h | h | h)
   ·exact .inl (.inr h)
   ·exact .inl (.inl h)
   ·exact .inr h
theorem Qml:∀ {ns:List Nod} {l:List Int},Asc l→Asc (Qnv l ns)
 | [],_,h=>h
 | n :: r,l,h=>Qml (ns:=r) (Qit h n.ino)
theorem Qs6 (f g:Fsy):Asc (Qcp f g):=Qml (Qml List.Pairwise.nil)
theorem Qhf {f g:Fsy} {x:Int}:x∈Qcp f g↔x∈f.l.map Nod.ino∨x∈g.l.map Nod.ino:=by
 unfold Qcp;rw [Qmk,Qmk];simp
theorem Ziu (f g:Fsy):Qc5 ((f.l++g.l).map Nod.ino)=Qcp f g:=Qkt (Qfl _) (Qs6 f g) fun x=>by
 rw [Qgq,Qhf,List.map_append,List.mem_append]
theorem Qom {f:Fsy} {x:Int}:x∈f.l.map Nod.ino↔∃ n,atF f x=some n:=by
 constructor
 ·intro h;obtain ⟨n,hn,rfl⟩:=List.mem_map.1 h;cases hc:atF f n.ino with
  | some m=>exact ⟨m,rfl⟩
  | none=>
   have:=List.find?_eq_none.1 hc n hn;simp [isNo] at this
 ·rintro ⟨n,hn⟩;exact List.mem_map.2 ⟨n,Qdb hn,Qcz hn⟩
theorem no_mem {f g:Fsy} {x:Int} (h:¬ x∈Qcp f g):atF f x=none∧atF g x=none:=by
 rw [Qhf,Qom,Qom] at h;constructor
 ·cases hc:atF f x with
  | none=>rfl
  | some n=>exact absurd (.inl ⟨n,hc⟩) h
 ·cases hc:atF g x with
  | none=>rfl
  | some n=>exact absurd (.inr ⟨n,hc⟩) h
theorem Qxf {f g:Fsy} {i:Int}:chgD f g i=none↔(∃ n,atF g i=some n∧atF f i=some n):=by
 unfold chgD;rw [at_B,at_B,at_N,at_N];cases hg:atF g i with
 | none=>simp
 | some n=>
  cases hf:atF f i with
  | none=>simp
  | some m=>simp
theorem Qfz {f g:Fsy} {i:Int} {c:Chg} (h:chgD f g i=some c):c.ino=i∧((c.gone=true∧atF g i=none)∨(c.gone=false∧atF g i=some c.n)):=by
 unfold chgD at h;rw [at_B,at_B] at h;cases hg:atF g i with
 | none=>
  rw [hg] at h;simp at h;subst h;exact ⟨rfl,.inl ⟨rfl,rfl⟩⟩
 | some n=>
  rw [hg] at h;have hn:Qaa g i=n:=by rw [at_N,hg];rfl
  simp only [Option.isSome_some,Bool.true_eq_false,if_false] at h
  split at h
  ·obtain rfl:=Option.some.inj h;exact ⟨rfl,.inr ⟨rfl,by rw [hn]⟩⟩
  ·cases h
theorem Qzi {f g:Fsy} {c:Chg} (h:c∈Qbr f g):¬ atF f c.ino=atF g c.ino:=by
 obtain ⟨i,hi,hc⟩:=List.mem_filterMap.1 h;obtain ⟨e,_⟩:=Qfz hc;rw [e];intro he;cases hg:atF g i with
 | none=>
  rcases Qhf.1 hi with h1 | h1
  ·obtain ⟨n,hn⟩:=Qom.1 h1;rw [he,hg] at hn;cases hn
  ·obtain ⟨n,hn⟩:=Qom.1 h1;rw [hg] at hn;cases hn
 | some n=>
  have:=Qxf.2 ⟨n,hg,he.trans hg⟩;rw [this] at hc;cases hc
def maxD (a b:Int):Int:=if b>a then b else a
structure ApOk (c:Chg):Prop where
 no:c.n.ino<1152921504606846977
 node:OkN c.n
theorem Qip (f g:Fsy):(Qbr f g).length≤f.l.length+g.l.length:=by
 have h1:=List.length_filterMap_le (chgD f g) (Qcp f g);have h2:=Qlo [] f.l;have h3:=Qlo (Qnv [] f.l) g.l;unfold Qbr;unfold Qcp at h1 ⊢;simp at h2;omega
theorem Qsn (a b:List Nod) (h:a.length+b.length≤100000):Qai prog 108 [.sl 1 false ([a.map nodA,b.map nodA].map pc5)] (.sl 5 false ((a++b).map nodA)):=by
 have:=Qgf [a.map nodA,b.map nodA] (by simp) (by simp;omega);rw [List.map_append];simpa using this
theorem Qsb (f g:Fsy) (h:f.l.length+g.l.length≤100000):Qai prog 97 [.sl 1 false (((f.l++g.l).map Nod.ino).map intA)] (.sl 1 false ((Qcp f g).map intA)):=by
 rw [← Ziu];exact Qsc _ (by simp;omega)
theorem Qpo (f g:Fsy) (okf:OkF f) (okg:OkF g) (hf:f.l.length≤1000) (hg:g.l.length≤1000) (hr:Qbs f.l) (hrg:Qbs g.l):Qai prog 59 [.agg (fsyA f),.agg (fsyA g)] (.sl 7 false ((Qbr f g).map chgA)):=by
 have hal:(Qcp f g).length≤f.l.length+g.l.length:=by have h1:=Qlo [] f.l;have h2:=Qlo (Qnv [] f.l) g.l;unfold Qcp;simp at h1;omega
 exact Qad func59 (
 .new fun b1=>.new fun b2=>.r 1<|.r 1<|.rowNil 5 5 3 1<|.u 5 [b1,b2]<|
 .cs (args0:=[.sl 1 true ([[.sl 5 false (f.l.map nodA)],[.sl 5 false (g.l.map nodA)]])]) (Qsn f.l g.l (by omega)) ⟨pcs2 _ _,trivial⟩<|
 .r 1<|.lm 21 (f.l++g.l) nodA<|.r 1<|let L1:Lp (Nat × Value):=⟨fun a1=>⟨[(2,.ptr 2 b1 0),(3,.ptr 3 b2 0),(22,aI (a1.1:Int)),(5,.rw 5 a1.2 ((((f.l++g.l).take a1.1).map Nod.ino).length)),(20,.sl 5 false ((f.l++g.l).map nodA)),(21,aI ((f.l++g.l).length:Int))],[(2,.box b1 28 (fsyA f)),(3,.box b2 28 (fsyA g)),(5,.row a1.2 3 1 ((((f.l++g.l).take a1.1).map Nod.ino).map intA))]⟩,fun a1=>(f.l++g.l).length-a1.1,fun a1=>a1.1≤(f.l++g.l).length⟩
 .lp L1 (0,.slice none 0 0) (show 0≤(f.l++g.l).length from Nat.zero_le _) [(22,aI 0),(5,.rw 5 (.slice none 0 0) 0)] [(5,.row (.slice none 0 0) 3 1 ([]))] ⟨sR,sR,sO,sR,sR,sR,trivial⟩ bb3 fun a1 ha1=>
 (fun (k:Nat) (V:Value) (hH1:k≤(f.l++g.l).length)=>have hfg:(f.l++g.l).length=f.l.length+g.l.length:=List.length_append;.r 1<|.bd 23 ((k:Int)<((f.l++g.l).length:Int)) (fun p1=>.idxM (f.l++g.l) nodA k (m:=(k:Int)) rfl (by omega) fun x1 hx1=>
 .r 1<|.new fun b3=>.u 1 [b3]<|
 .u 4 [b3]<|
 .app 8 V ((((f.l++g.l).take k).map Nod.ino).map intA) ([[aI x1.ino]]) (by first | (have:=Qha f g m;simp only [List.length_map,List.length_cons,List.length_nil];omega) | (simp only [List.length_map,List.length_cons,List.length_nil,List.length_take,List.length_append];omega)) (by first | (have:=Qha f g m;simp only [List.length_map,List.length_cons,List.length_nil];omega) | (simp only [List.length_map,List.length_cons,List.length_nil,List.length_take,List.length_append];omega)) fun V1=>
 .r 1<|.run 2 [rng .i64 ((k:Int)+1)] ⟨Qam (by omega) (by omega),trivial⟩<|
 .bk L1 (k,V) ((k+1),V1) (show (k+1)≤(f.l++g.l).length from (by show _≤_;omega)) (show (f.l++g.l).length-(k+1)<(f.l++g.l).length-k from (by omega)) [(22,aI ((k:Int)+1)),(5,.rw 5 V1 (((((f.l++g.l).take k).map Nod.ino).map intA).length+([[aI x1.ino]]:List (List AV)).length))] [(5,.row V1 3 1 (((((f.l++g.l).take k).map Nod.ino).map intA)++([[aI x1.ino]])))] ⟨sR,sR,sO,Sub.of_eq (congrArg (AV.rw 5 V1) (by rw [Qap hx1];simp)),sR,sR,trivial⟩ ⟨sB,sB,⟨_,rfl,SubB.of_eq (by rw [Qap hx1];simp [intA])⟩,trivial⟩)
 <| fun p1=>.r 1<|.frz 5 [2,3,5,8,23] [2,3] [V=V,(((f.l++g.l).take k).map Nod.ino).length=((((f.l++g.l).take k).map Nod.ino).map intA).length] ⟨rfl,(by first | rfl | (simp;done) | (simp;omega)),trivial⟩<|
 .rowNil 8 8 152 7<|.r 1<|.cs (args0:=[.sl 1 false ((((f.l++g.l).take k).map Nod.ino).map intA)]) (Qsb f g (by omega)) ⟨Sub.of_eq (by rw [Qaw (by omega)]),trivial⟩<|
 .r 1<|.lm 34 (Qcp f g) intA<|.r 1<|let L2:Lp (Nat × Value):=⟨fun a2=>⟨[(2,.ptr 2 b1 0),(3,.ptr 3 b2 0),(34,aI ((Qcp f g).length:Int)),(35,aI (a2.1:Int)),(8,.rw 8 a2.2 ((chgL f g a2.1).length)),(33,.sl 1 false ((Qcp f g).map intA))],[(2,.box b1 28 (fsyA f)),(3,.box b2 28 (fsyA g)),(8,.row a2.2 152 7 ((chgL f g a2.1).map chgR))]⟩,fun a2=>(Qcp f g).length-a2.1,fun a2=>a2.1≤(Qcp f g).length⟩
 .lp L2 (0,.slice none 0 0) (show 0≤(Qcp f g).length from Nat.zero_le _) [(35,aI 0),(8,.rw 8 (.slice none 0 0) 0)] [(8,.row (.slice none 0 0) 152 7 ([]))] ⟨sR,sR,sR,sO,sR,sR,trivial⟩ bb3 fun a2 ha2=>
 (fun (m:Nat) (V:Value) (hH2:m≤(Qcp f g).length)=>.r 1<|.bd 36 ((m:Int)<((Qcp f g).length:Int)) (fun p2=>.idxM (Qcp f g) intA m (m:=(m:Int)) rfl (by omega) fun x2 hx2=>
 .r 2<|.u 2 [b1]<|
 .call (Qcc f x2 (by omega) hr)<|
 .r 3<|.new fun b4=>.u 2 [b4]<|
 .u 2 [b2]<|
 .call (Qcc g x2 (by omega) hrg)<|
 .r 3<|.new fun b5=>.u 2 [b5]<|
 .r 3<|.br 51 (!(Qau g x2)) (fun q3=>have q3:=notT q3;have p3:=booF q3;.r 4<|.app 80 V ((chgL f g m).map chgR) ([[aI x2,aB true,aI 0,aI 0,aI 0,aS ([]),aN]]) (by first | (have:=Qha f g m;simp only [List.length_map,List.length_cons,List.length_nil];omega) | (simp only [List.length_map,List.length_cons,List.length_nil,List.length_take,List.length_append];omega)) (by first | (have:=Qha f g m;simp only [List.length_map,List.length_cons,List.length_nil];omega) | (simp only [List.length_map,List.length_cons,List.length_nil,List.length_take,List.length_append];omega)) fun V2=>
 .r 1<|.run 2 [rng .i64 ((m:Int)+1)] ⟨Qam (by omega) (by omega),trivial⟩<|
 .bk L2 (m,V) ((m+1),V2) (show (m+1)≤(Qcp f g).length from (by show _≤_;omega)) (show (Qcp f g).length-(m+1)<(Qcp f g).length-m from (by omega)) [(35,aI ((m:Int)+1)),(8,.rw 8 V2 (((chgL f g m).map chgR).length+([[aI x2,aB true,aI 0,aI 0,aI 0,aS ([]),aN]]:List (List AV)).length))] [(8,.row V2 152 7 (((chgL f g m).map chgR)++([[aI x2,aB true,aI 0,aI 0,aI 0,aS ([]),aN]])))] ⟨sR,sR,sR,sO,Sub.of_eq (congrArg (AV.rw 8 V2) (by rw [Qh5 hx2 (show chgD f g x2=some ⟨x2,true,nod0⟩ from by unfold chgD;rw [if_pos q3])];simp)),sR,trivial⟩ ⟨sB,sB,⟨_,rfl,SubB.of_eq (by rw [Qh5 hx2 (show chgD f g x2=some ⟨x2,true,nod0⟩ from by unfold chgD;rw [if_pos q3])];simp [chgR,nod0])⟩,trivial⟩)
 <| fun q3=>have q3:=notF q3;have p3:=booT q3;.r 3<|.br 62 (!(Qau f x2)) (fun q4=>have q4:=notT q4;have p4:=booF q4;.r 6<|.u 5 [b5]<|
 .app 80 V ((chgL f g m).map chgR) ([[aI x2,aB false,aI ((Qaa g x2).ino),aI ((Qaa g x2).kind),aI ((Qaa g x2).links),aS ((Qaa g x2).text),.sl 2 false ((Qaa g x2).l.map entA)]]) (by first | (have:=Qha f g m;simp only [List.length_map,List.length_cons,List.length_nil];omega) | (simp only [List.length_map,List.length_cons,List.length_nil,List.length_take,List.length_append];omega)) (by first | (have:=Qha f g m;simp only [List.length_map,List.length_cons,List.length_nil];omega) | (simp only [List.length_map,List.length_cons,List.length_nil,List.length_take,List.length_append];omega)) fun V3=>
 .r 1<|.run 2 [rng .i64 ((m:Int)+1)] ⟨Qam (by omega) (by omega),trivial⟩<|
 .bk L2 (m,V) ((m+1),V3) (show (m+1)≤(Qcp f g).length from (by show _≤_;omega)) (show (Qcp f g).length-(m+1)<(Qcp f g).length-m from (by omega)) [(35,aI ((m:Int)+1)),(8,.rw 8 V3 (((chgL f g m).map chgR).length+([[aI x2,aB false,aI ((Qaa g x2).ino),aI ((Qaa g x2).kind),aI ((Qaa g x2).links),aS ((Qaa g x2).text),.sl 2 false ((Qaa g x2).l.map entA)]]:List (List AV)).length))] [(8,.row V3 152 7 (((chgL f g m).map chgR)++([[aI x2,aB false,aI ((Qaa g x2).ino),aI ((Qaa g x2).kind),aI ((Qaa g x2).links),aS ((Qaa g x2).text),.sl 2 false ((Qaa g x2).l.map entA)]])))] ⟨sR,sR,sR,sO,Sub.of_eq (congrArg (AV.rw 8 V3) (by rw [Qh5 hx2 (show chgD f g x2=some ⟨x2,false,Qaa g x2⟩ from by unfold chgD;rw [if_neg (by simp [q3]),if_pos (.inl q4)])];simp)),sR,trivial⟩ ⟨sB,sB,⟨_,rfl,SubB.of_eq (by rw [Qh5 hx2 (show chgD f g x2=some ⟨x2,false,Qaa g x2⟩ from by unfold chgD;rw [if_neg (by simp [q3]),if_pos (.inl q4)])];simp [chgR])⟩,trivial⟩)
 <| fun q4=>have q4:=notF q4;have p4:=booT q4;.u 2 [b4,b5]<|
 .call (Qog (Qaa f x2) (Qaa g x2) (Qgc okf _) (Qgc okg _))<|
 .r 3<|.br 59 (!(dP ((Qaa f x2)=(Qaa g x2)))) (fun q5=>have q5:=notT q5;have p5:=booF q5;.u 5 [b5]<|
 .app 80 V ((chgL f g m).map chgR) ([[aI x2,aB false,aI ((Qaa g x2).ino),aI ((Qaa g x2).kind),aI ((Qaa g x2).links),aS ((Qaa g x2).text),.sl 2 false ((Qaa g x2).l.map entA)]]) (by first | (have:=Qha f g m;simp only [List.length_map,List.length_cons,List.length_nil];omega) | (simp only [List.length_map,List.length_cons,List.length_nil,List.length_take,List.length_append];omega)) (by first | (have:=Qha f g m;simp only [List.length_map,List.length_cons,List.length_nil];omega) | (simp only [List.length_map,List.length_cons,List.length_nil,List.length_take,List.length_append];omega)) fun V4=>
 .r 1<|.run 2 [rng .i64 ((m:Int)+1)] ⟨Qam (by omega) (by omega),trivial⟩<|
 .bk L2 (m,V) ((m+1),V4) (show (m+1)≤(Qcp f g).length from (by show _≤_;omega)) (show (Qcp f g).length-(m+1)<(Qcp f g).length-m from (by omega)) [(35,aI ((m:Int)+1)),(8,.rw 8 V4 (((chgL f g m).map chgR).length+([[aI x2,aB false,aI ((Qaa g x2).ino),aI ((Qaa g x2).kind),aI ((Qaa g x2).links),aS ((Qaa g x2).text),.sl 2 false ((Qaa g x2).l.map entA)]]:List (List AV)).length))] [(8,.row V4 152 7 (((chgL f g m).map chgR)++([[aI x2,aB false,aI ((Qaa g x2).ino),aI ((Qaa g x2).kind),aI ((Qaa g x2).links),aS ((Qaa g x2).text),.sl 2 false ((Qaa g x2).l.map entA)]])))] ⟨sR,sR,sR,sO,Sub.of_eq (congrArg (AV.rw 8 V4) (by rw [Qh5 hx2 (show chgD f g x2=some ⟨x2,false,Qaa g x2⟩ from by unfold chgD;rw [if_neg (by simp [q3]),if_pos (.inr (Qac.1 q5))])];simp)),sR,trivial⟩ ⟨sB,sB,⟨_,rfl,SubB.of_eq (by rw [Qh5 hx2 (show chgD f g x2=some ⟨x2,false,Qaa g x2⟩ from by unfold chgD;rw [if_neg (by simp [q3]),if_pos (.inr (Qac.1 q5))])];simp [chgR])⟩,trivial⟩)
 <| fun q5=>have q5:=notF q5;have p5:=booT q5;.run 2 [rng .i64 ((m:Int)+1)] ⟨Qam (by omega) (by omega),trivial⟩<|
 .bk L2 (m,V) ((m+1),V) (show (m+1)≤(Qcp f g).length from (by show _≤_;omega)) (show (Qcp f g).length-(m+1)<(Qcp f g).length-m from (by omega)) [(35,aI ((m:Int)+1)),(8,.rw 8 V ((chgL f g m).length))] [(8,.row V 152 7 ((chgL f g m).map chgR))] ⟨sR,sR,sR,sO,Sub.of_eq (congrArg (AV.rw 8 V) (by rw [Zes hx2 (show chgD f g x2=none from by unfold chgD;rw [if_neg (by simp [q3]),if_neg (fun h=>h.elim (fun h=>by rw [q4] at h;cases h) (fun h=>h (Qa0.1 q5)))])])),sR,trivial⟩ ⟨sB,sB,⟨_,rfl,SubB.of_eq (by rw [Zes hx2 (show chgD f g x2=none from by unfold chgD;rw [if_neg (by simp [q3]),if_neg (fun h=>h.elim (fun h=>by rw [q4] at h;cases h) (fun h=>h (Qa0.1 q5)))])])⟩,trivial⟩)
 <| fun p2=>.r 2<|.frz 8 [4] [] [V=V,(chgL f g m).length=((chgL f g m).map chgR).length] ⟨rfl,(by first | rfl | (simp;done) | (simp;omega)),trivial⟩<|
 .f (.sl 7 false ((Qbr f g).map chgA)) [] (.sl 7 false ((chgL f g m).map chgR)) (by
  rw [Zih (by omega)];exact Zl2 Qsr)) a2.1 a2.2 ha2) a1.1 a1.2 ha1)
end Go.Proofs.YtahlldgocpabjaaGreat

namespace Go.Proofs.YtahlldgocpabjaaGreat
open Go Go.RowKit Copyhold Go.Proofs.Tryz
open Copyhold.Name (Srt insE delE getE isAt)
theorem i0:I64 0:=⟨by decide,by decide⟩
theorem Qwl {k:Int} (h:0≤k) (h2:k≤1000000):I64 k:=⟨by omega,by omega⟩
def cA:Cal:=⟨6,1,0,0,0,[97],[],[]⟩
theorem cA_ok:OkCal cA:=⟨Qwl (by decide) (by decide),Qwl (by decide) (by decide),i0,i0,i0,by show 1≤_;omega,Nat.zero_le _,Nat.zero_le _⟩
noncomputable def fA:Fsy:=addF newF 1 [97] (addN newF Qlb)
theorem doA1:doF newF cA=(fA,⟨0,2,0,0,[],[]⟩):=by
 refine Qev (x:=(fA,⟨0,2,0,0,[],[]⟩)) ?_ rfl;rw [Qsk rfl];show addO newF cA Qlb=_;unfold addO;show ((if Qas newF 1 [97] Qlb=0 then _ else _),(⟨Qas newF 1 [97] Qlb,_,_,_,_,_⟩:Rep))=_;rw [Qkv,if_pos rfl];rfl
theorem Qh0:Qaq fA∧OkF fA∧fA.next=3∧(∃ d,atF fA 1=some d∧d.kind=2∧d.l=[⟨[97],2⟩])∧(fA.l.length:Int)=2:=by
 have hb:=Qoz Qeu Qkv;have ho:=Zjv (n:=Qlb) (s:=[97]) Qpq Qeu Zhp (by decide) Qkv (by decide);refine ⟨hb.1,ho,?_,?_,?_⟩
 ·obtain ⟨d,A⟩:=Qqm Qkv;have hr:=Qaf Qeu;have hroot:atF newF 1=some Qib:=rfl;unfold fA addF;rw [show (addN newF Qlb).ino=2 from rfl,Qdt hroot];rw [Qmb]
  ·rw [show (setL newF Qib (entL Qib.l [97] 2)).next=2 from Qlk (by decide)];rfl
  ·rw [show (setL newF Qib (entL Qib.l [97] 2)).next=2 from Qlk (by decide)];rfl
 ·have hroot:atF newF 1=some Qib:=rfl;have he:entE Qib.l [97] 2=0:=Qdk Zl1 (by decide) rfl (by decide);have hl:entL Qib.l [97] 2=[⟨[97],2⟩]:=by unfold entL;rw [if_pos he];rfl
  have hk:rowP Qib.l:=Qb8;obtain ⟨s1,s2,s3,s4⟩:=Qet Qeu hroot rfl (Qqb (n:=2) hk Zl1 (by decide) rfl (by decide));refine ⟨Qbm Qib (entL Qib.l [97] 2),?_,rfl,hl⟩;unfold fA addF;rw [show (addN newF Qlb).ino=2 from rfl,Qdt hroot,Qnl (Qaf s1),if_neg (by decide),s4,if_pos rfl]
 ·have:=Zl8;rw [if_pos Qkv] at this;exact this
end Go.Proofs.YtahlldgocpabjaaGreat

namespace Go.Proofs.YtahlldgocpabjaaGreat
open Go Go.RowKit Copyhold Go.Proofs.Tryz
theorem Qkh (f:Fsy) (c:Cal):(Qal f c).length≤6:=by
 unfold Qal
 split
 ·simp
 ·exact Nat.le_trans (Qiy _) (Qmn f c).2
theorem Zak {l:List Cal} (h:Qfm l) {c:Cal} (hc:c∈l):c.name.length≤2000∧c.name2.length≤2000∧c.text.length≤2000:=by
 have h1:=h.1;have:txC c≤((l.take l.length).map txC).sum:=by rw [List.take_length];exact Qj7 hc
 unfold smS at h1;have e:txC c=c.name.length+c.name2.length+c.text.length:=rfl;omega
end Go.Proofs.YtahlldgocpabjaaGreat

namespace Go.Proofs.YtahlldgocpabjaaGreat
open Go Go.RowKit Copyhold Go.Proofs.Tryz
section
variable {α:Type}
def cutV (f:α→Int) (st:Int):List α→Nat
 | []=>0
 | x :: r=>if cutV f st r=0 then (if f x≤st then 1 else 0) else cutV f st r+1
theorem Qg9 (f:α→Int) (st:Int):∀ l:List α,cutV f st l≤l.length
 | []=>Nat.le_refl _
 | x :: r=>by
  have:=Qg9 f st r;simp only [cutV,List.length_cons]
  split
  ·split<;>omega
  ·omega
theorem Qfy (f:α→Int) (st:Int):∀ (l:List α) (k:Nat),k≤l.length→(∀ j x,k≤j→l[j]?=some x→st<f x)→(k=0∨∃ x,l[k-1]?=some x∧f x≤st)→cutV f st l=k
 | [],k,hk,_,_=>by simp at hk;subst hk;rfl
 | x :: r,0,_,ha,_=>by
  have h1:=Qfy f st r 0 (Nat.zero_le _) (fun j y _ hy=>ha (j+1) y (Nat.zero_le _) (by simpa using hy)) (.inl rfl);have h2:=ha 0 x (Nat.zero_le _) rfl;simp only [cutV,h1,if_true];rw [if_neg (by omega)]
 | x :: r,k+1,hk,ha,he=>by
  simp only [List.length_cons] at hk;have ha':∀ j y,k≤j→r[j]?=some y→st<f y:=fun j y hj hy=>ha (j+1) y (by omega) (by simpa using hy);rcases he with he | ⟨y,hy,hle⟩
  ·omega
  ·cases k with
   | zero=>
    have h1:=Qfy f st r 0 (Nat.zero_le _) ha' (.inl rfl);simp at hy;subst hy;simp only [cutV,h1,if_true,if_pos hle]
   | succ k=>
    have h1:=Qfy f st r (k+1) (by omega) ha' (.inr ⟨y,by simpa using hy,hle⟩);simp only [cutV,h1];rfl
theorem Zf7 (f:α→Int) (st:Int) (l:List α):l.length≤l.length∧∀ j y,l.length≤j→l[j]?=some y→st<f y:=⟨Nat.le_refl _,fun j y hj hy=>by have:=Qao hy;omega⟩
theorem Zf6 {f:α→Int} {st:Int} {l:List α} {k:Nat} {x:α} (hx:l[k-1]?=some x) (hk:k≤l.length) (h:∀ j y,k≤j→l[j]?=some y→st<f y) (hg:st<f x):k-1≤l.length∧∀ j y,k-1≤j→l[j]?=some y→st<f y:=
 ⟨by omega,fun j y hj hy=>by
  by_cases e:j=k-1
  ·subst e;rw [hx] at hy;obtain rfl:=Option.some.inj hy;exact hg
  ·exact h j y (by omega) hy⟩
def atD (f:α→Int) (st:Int) (l:List α):Option α:=if cutV f st l=0 then none else l[cutV f st l-1]?
def Zaf (f:α→Int) (most:Int) (l:List α) (i:Nat) (x:α):Prop:=1≤f x∧f x≤most∧∀ d,0<i→l[i-1]?=some d→f d<f x
def Qnr (f:α→Int) (most:Int) (l:List α):Prop:=1≤l.length∧AllQ (Zaf f most l) l
def Qqp (f:α→Int) (l:List α) (k:Nat) (last:Int):Prop:=(k=0∧last=0)∨∃ d,0<k∧l[k-1]?=some d∧last=f d∧1≤last
theorem Qqp.pos {f:α→Int} {l:List α} {k:Nat} {last:Int} (h:Qqp f l k last):0≤last:=by
 rcases h with ⟨_,h⟩ | ⟨d,_,_,_,h⟩<;>omega
theorem Qqp.step {f:α→Int} {l:List α} {k:Nat} {last:Int} {x:α} (h:Qqp f l k last) (hx:l[k]?=some x) (hgt:¬ f x≤last):Qqp f l (k+1) (f x):=
 .inr ⟨x,by omega,by simpa using hx,rfl,by have:=h.pos;omega⟩
theorem Qqp.lt {f:α→Int} {l:List α} {k:Nat} {last:Int} (h:Qqp f l k last) {v:Int} (hgt:¬ v≤last):1≤v∧∀ d,0<k→l[k-1]?=some d→f d<v:=by
 refine ⟨by have:=h.pos;omega,fun d h0 hd=>?_⟩;rcases h with ⟨h,_⟩ | ⟨e,_,he,h1,_⟩
 ·omega
 ·rw [hd] at he;obtain rfl:=Option.some.inj he;omega
theorem Qqp.not {f:α→Int} {l:List α} {k:Nat} {last:Int} (h:Qqp f l k last) {v:Int} (hle:v≤last):¬ (1≤v∧∀ d,0<k→l[k-1]?=some d→f d<v):=by
 rintro ⟨h1,h2⟩;rcases h with ⟨_,h⟩ | ⟨e,h0,he,h3,_⟩
 ·omega
 ·have:=h2 e h0 he;omega
end
def verP (ino:Int) (v:Ver):Prop:=(v.gone=true→v.n=nod0)∧(v.gone=false→nodP v.n∧v.n.ino=ino)
def Qox (most:Int) (c:Chn):Prop:=1≤c.ino∧Qnr Ver.stamp most c.l∧AllQ (fun _ v=>verP c.ino v) c.l
def Zl0 (s:Sto) (i:Nat) (c:Chn):Prop:=Qox s.stamp c∧∀ d,0<i→s.l[i-1]?=some d→d.ino<c.ino
def Qce (s:Sto):Prop:=1≤s.stamp∧Qnr Cnt.stamp s.stamp s.nexts∧AllQ (fun _ (c:Cnt)=>1≤c.next) s.nexts∧AllQ (Zl0 s) s.l
def Qb4 (st:Int) (c:Chn):Option Nod:=match atD Ver.stamp st c.l with
 | some v=>if v.gone then none else some v.n
 | none=>none
def Qja (s:Sto) (st:Int):Int:=match atD Cnt.stamp st s.nexts with
 | some c=>c.next
 | none=>1
def Qcm (s:Sto) (st:Int):Fsy:=⟨s.l.filterMap (Qb4 st),Qja s st⟩
theorem Qej {st:Int} {c:Chn} {v:Ver} (h0:¬ cutV Ver.stamp st c.l=0) (hv:c.l[cutV Ver.stamp st c.l-1]?=some v):Qb4 st c=if v.gone then none else some v.n:=by
 unfold Qb4 atD;rw [if_neg h0,hv]
theorem Qhj {st:Int} {c:Chn} (h0:cutV Ver.stamp st c.l=0):Qb4 st c=none:=by
 unfold Qb4 atD;rw [if_pos h0]
theorem Qv7 {s:Sto} {st:Int} {c:Cnt} (h0:¬ cutV Cnt.stamp st s.nexts=0) (hc:s.nexts[cutV Cnt.stamp st s.nexts-1]?=some c):Qja s st=c.next:=by
 unfold Qja atD;rw [if_neg h0,hc]
theorem Qoi {s:Sto} {st:Int} (h0:cutV Cnt.stamp st s.nexts=0):Qja s st=1:=by
 unfold Qja atD;rw [if_pos h0]
def Qck (s:Sto) (st:Int) (k:Nat):List Nod:=(s.l.take k).filterMap (Qb4 st)
theorem Qi0 {s:Sto} {st:Int} {k:Nat} {c:Chn} {n:Nod} (hc:s.l[k]?=some c) (h:Qb4 st c=some n):Qck s st (k+1)=Qck s st k++[n]:=by
 unfold Qck;rw [Qap hc,List.filterMap_append];simp [h]
theorem Qez {s:Sto} {st:Int} {k:Nat} {c:Chn} (hc:s.l[k]?=some c) (h:Qb4 st c=none):Qck s st (k+1)=Qck s st k:=by
 unfold Qck;rw [Qap hc,List.filterMap_append];simp [h]
theorem Qlh (s:Sto) (st:Int) (k:Nat):(Qck s st k).length≤k:=by
 have:=List.length_filterMap_le (Qb4 st) (s.l.take k);rw [List.length_take] at this;unfold Qck;omega
theorem Qi1 {s:Sto} {st:Int} {k:Nat} (h:s.l.length≤k):Qck s st k=s.l.filterMap (Qb4 st):=by unfold Qck;rw [Qaw h]
def Qk5 (st:Int) (c:Chn):Bool:=c.l.any fun v=>decide (v.stamp>st)
def Qb7 (s:Sto) (st:Int) (k:Nat):List Int:=((s.l.take k).filter (Qk5 st)).map Chn.ino
def Zg1 (s:Sto) (st:Int):Bool:=s.nexts.any fun c=>decide (c.stamp>st)
def Qdf (s:Sto) (st:Int):List Int:=if 1≤(Qb7 s st s.l.length).length∨Zg1 s st=true then 0 :: Qb7 s st s.l.length else []
theorem Qoo {s:Sto} {st:Int} {k:Nat} {c:Chn} (hc:s.l[k]?=some c) (h:Qk5 st c=true):Qb7 s st (k+1)=Qb7 s st k++[c.ino]:=by
 unfold Qb7;rw [Qap hc,List.filter_append,List.map_append];simp [h]
theorem Qr0 {s:Sto} {st:Int} {k:Nat} {c:Chn} (hc:s.l[k]?=some c) (h:Qk5 st c=false):Qb7 s st (k+1)=Qb7 s st k:=by
 unfold Qb7;rw [Qap hc,List.filter_append,List.map_append];simp [h]
theorem Qmt (s:Sto) (st:Int) (k:Nat):(Qb7 s st k).length≤k:=by
 have:=List.length_filter_le (Qk5 st) (s.l.take k);rw [List.length_take] at this;unfold Qb7;rw [List.length_map];omega
theorem Qkj {s:Sto} {st:Int} {k:Nat} (h:s.l.length≤k):Qb7 s st k=Qb7 s st s.l.length:=by unfold Qb7;rw [Qaw h,Qaw (Nat.le_refl _)]
section
variable {α:Type}
def idxF (p:α→Bool):List α→Int
 | []=>-1
 | x :: r=>if p x then 0 else if idxF p r<0 then -1 else idxF p r+1
theorem Qpy (p:α→Bool):∀ l:List α,decide (idxF p l≥0)=l.any p
 | []=>rfl
 | x :: r=>by
  have:=Qpy p r;simp only [idxF,List.any_cons,← this];by_cases hp:p x=true
  ·simp [hp]
  ·simp only [Bool.not_eq_true] at hp;simp only [hp,Bool.false_or,Bool.false_eq_true,if_false]
   split<;>simp<;>omega
theorem Qm0 (p:α→Bool):∀ l:List α,AllQ (fun _ x=>p x=false) l→idxF p l = -1
 | [],_=>rfl
 | x :: r,h=>by
  have h1:=h 0 x rfl;have h2:=Qm0 p r fun i e he=>h (i+1) e (by simpa using he);simp [idxF,h1,h2]
theorem Qun (p:α→Bool):∀ (l:List α) (k:Nat) (x:α),Qa6 (fun _ x=>p x=false) l k→l[k]?=some x→p x=true→idxF p l=k
 | y :: r,0,x,_,hx,hp=>by
  simp at hx;subst hx;simp [idxF,hp]
 | y :: r,k+1,x,h,hx,hp=>by
  have h1:=h 0 y (by omega) rfl;have h2:=Qun p r k x (fun i e hi he=>h (i+1) e (by omega) (by simpa using he)) (by simpa using hx) hp;simp [idxF,h1,h2];omega
end
end Go.Proofs.YtahlldgocpabjaaGreat
