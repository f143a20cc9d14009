import Derived.Test.YtahlldgocpabjaaGreatMrgAF
import Derived.Test.YtahlldgocpabjaaGreatMrgM
import Derived.Test.YtahlldgocpabjaaGreatMrgJ
set_option maxRecDepth 100000
set_option maxHeartbeats 8000000
set_option linter.unusedVariables false
set_option linter.unusedSimpArgs false
namespace Go.Proofs.YtahlldgocpabjaaGreat
open Go Go.RowKit Copyhold Go.Proofs.Tryz
structure Chg where
 ino:Int
 gone:Bool
 n:Nod
 deriving DecidableEq
def chgA (c:Chg):List AV:=[aI c.ino,aB c.gone,aI c.n.ino,aI c.n.kind,aI c.n.links,aS c.n.text,.sl 2 false (c.n.l.map entA)]
def chgR (c:Chg):List AV:=[aI c.ino,aB c.gone,aI c.n.ino,aI c.n.kind,aI c.n.links,aS c.n.text,bif c.gone then aN else .sl 2 false (c.n.l.map entA)]
theorem Zgl {l:List Chg} {t:Bool} (h:∀ c∈l,c.gone=true→c.n.l=[]):Sub (.sl 7 t (l.map chgR)) (.sl 7 false (l.map chgA)):=
 (Sub.sl2 (xs:=l.map chgR) (ys:=l.map chgA) (by simp) (fun i a b ha hb=>by
  rw [List.getElem?_map] at ha hb;cases hc:l[i]? with
  | none=>rw [hc] at ha;cases ha
  | some c=>
   rw [hc] at ha hb;obtain rfl:=Option.some.inj ha;obtain rfl:=Option.some.inj hb;refine ⟨sR,sR,sR,sR,sR,sR,?_,trivial⟩;cases hg:c.gone with
   | false=>exact sR
   | true=>
    rw [h c (List.mem_of_getElem? hc) hg];exact Sub.nil _ _)).trans (Sub.loose _ _ _)
def Qee (l:List Int) (ns:List Nod):List Int:=ns.foldl (fun l n=>Qcx l n.ino) l
theorem Qpe {l:List Int} {ns:List Nod} {k:Nat} {x:Nod} (h:ns[k]?=some x):Qee l (ns.take (k+1))=Qcx (Qee l (ns.take k)) x.ino:=by
 unfold Qee;rw [Qam h,List.foldl_append];rfl
theorem Qex (l:List Int):∀ (ns:List Nod) ,(Qee l ns).length≤l.length+ns.length:=by
 intro ns
 induction ns generalizing l with
 | nil=>exact Nat.le_refl _
 | cons n r ih=>
  have:=ih (Qcx l n.ino);have:=Qh9 l n.ino;show (Qee (Qcx l n.ino) r).length≤_;simp only [List.length_cons];omega
def Qba (a b:Fsy):List Int:=Qee (Qee [] a.l) b.l
def chgD (a b:Fsy) (i:Int):Option Chg:=if Qav b i=false then some ⟨i,true,nod0⟩ else if Qav a i=false∨¬ Qaa a i=Qaa b i then some ⟨i,false,Qaa b i⟩ else none
def chgL (a b:Fsy) (k:Nat):List Chg:=((Qba a b).take k).filterMap (chgD a b)
def Qbj (a b:Fsy):List Chg:=(Qba a b).filterMap (chgD a b)
theorem Qcg {a b:Fsy} {k:Nat} {i:Int} {c:Chg} (hx:(Qba a b)[k]?=some i) (h:chgD a b i=some c):chgL a b (k+1)=chgL a b k++[c]:=by
 unfold chgL;rw [Qam hx,List.filterMap_append];simp [h]
theorem Qli {a b:Fsy} {k:Nat} {i:Int} (hx:(Qba a b)[k]?=some i) (h:chgD a b i=none):chgL a b (k+1)=chgL a b k:=by
 unfold chgL;rw [Qam hx,List.filterMap_append];simp [h]
theorem Qcs (a b:Fsy) (k:Nat):(chgL a b k).length≤k:=by
 have:=List.length_filterMap_le (chgD a b) ((Qba a b).take k);rw [List.length_take] at this;unfold chgL;omega
theorem Qyw {a b:Fsy} {k:Nat} (h:(Qba a b).length≤k):chgL a b k=Qbj a b:=by unfold chgL;rw [Qat h];rfl
theorem Ql0 {a b:Fsy}:∀ c∈Qbj a b,c.gone=true→c.n.l=[]:=fun c hc hg=>by
 obtain ⟨i,_,h⟩:=List.mem_filterMap.1 hc;unfold chgD at h
 split at h
 ·obtain rfl:=Option.some.inj h;rfl
 ·split at h
  ·obtain rfl:=Option.some.inj h;cases hg
  ·cases h
theorem Qnd {x:Int}:∀ {ns:List Nod} {l:List Int},x∈Qee l ns↔x∈l∨x∈ns.map Nod.ino
 | [],l=>by simp [Qee]
 | n :: r,l=>by
  show x∈Qee (Qcx l n.ino) r↔_;rw [Qnd,Qjk,List.map_cons,List.mem_cons];constructor
  ·rintro ((h | h) | h)
   ·exact .inr (.inl h)
   ·exact .inl h
   ·exact .inr (.inr h)
  ·rintro (h | h | h)
   ·exact .inl (.inr h)
   ·exact .inl (.inl h)
   ·exact .inr h
theorem Qne:∀ {ns:List Nod} {l:List Int},Asc l→Asc (Qee l ns)
 | [],_,h=>h
 | n :: r,l,h=>Qne (ns:=r) (Qjl h n.ino)
theorem Qul (f g:Fsy):Asc (Qba f g):=Qne (Qne List.Pairwise.nil)
theorem Qh6 {f g:Fsy} {x:Int}:x∈Qba f g↔x∈f.l.map Nod.ino∨x∈g.l.map Nod.ino:=by
 unfold Qba;rw [Qnd,Qnd];simp
theorem Zko (f g:Fsy):Qdg ((f.l++g.l).map Nod.ino)=Qba f g:=Qlm (Qf5 _) (Qul f g) fun x=>by
 rw [Qhi,Qh6,List.map_append,List.mem_append]
theorem Qpk {f:Fsy} {x:Int}:x∈f.l.map Nod.ino↔∃ n,atF f x=some n:=by
 constructor
 ·intro h;obtain ⟨n,hn,rfl⟩:=List.mem_map.1 h;cases hc:atF f n.ino with
  | some m=>exact ⟨m,rfl⟩
  | none=>
   have:=List.find?_eq_none.1 hc n hn;simp [isNo] at this
 ·rintro ⟨n,hn⟩;exact List.mem_map.2 ⟨n,Qdm hn,Qc9 hn⟩
theorem no_mem {f g:Fsy} {x:Int} (h:¬ x∈Qba f g):atF f x=none∧atF g x=none:=by
 rw [Qh6,Qpk,Qpk] at h;constructor
 ·cases hc:atF f x with
  | none=>rfl
  | some n=>exact absurd (.inl ⟨n,hc⟩) h
 ·cases hc:atF g x with
  | none=>rfl
  | some n=>exact absurd (.inr ⟨n,hc⟩) h
theorem Qyx {f g:Fsy} {i:Int}:chgD f g i=none↔(∃ n,atF g i=some n∧atF f i=some n):=by
 unfold chgD;rw [at_B,at_B,at_N,at_N];cases hg:atF g i with
 | none=>simp
 | some n=>
  cases hf:atF f i with
  | none=>simp
  | some m=>simp
theorem Qgo {f g:Fsy} {i:Int} {c:Chg} (h:chgD f g i=some c):c.ino=i∧((c.gone=true∧atF g i=none)∨(c.gone=false∧atF g i=some c.n)):=by
 unfold chgD at h;rw [at_B,at_B] at h;cases hg:atF g i with
 | none=>
  rw [hg] at h;simp at h;subst h;exact ⟨rfl,.inl ⟨rfl,rfl⟩⟩
 | some n=>
  rw [hg] at h;have hn:Qaa g i=n:=by rw [at_N,hg];rfl
  simp only [Option.isSome_some,Bool.true_eq_false,if_false] at h
  split at h
  ·obtain rfl:=Option.some.inj h;exact ⟨rfl,.inr ⟨rfl,by rw [hn]⟩⟩
  ·cases h
theorem Za5 {f g:Fsy} {c:Chg} (h:c∈Qbj f g):¬ atF f c.ino=atF g c.ino:=by
 obtain ⟨i,hi,hc⟩:=List.mem_filterMap.1 h;obtain ⟨e,_⟩:=Qgo hc;rw [e];intro he;cases hg:atF g i with
 | none=>
  rcases Qh6.1 hi with h1 | h1
  ·obtain ⟨n,hn⟩:=Qpk.1 h1;rw [he,hg] at hn;cases hn
  ·obtain ⟨n,hn⟩:=Qpk.1 h1;rw [hg] at hn;cases hn
 | some n=>
  have:=Qyx.2 ⟨n,hg,he.trans hg⟩;rw [this] at hc;cases hc
def maxD (a b:Int):Int:=if b>a then b else a
structure ApOk (c:Chg):Prop where
 no:c.n.ino<1152921504606846977
 node:OkN c.n
theorem Qfd (f g:Fsy):(Qbj f g).length≤f.l.length+g.l.length:=by
 have h1:=List.length_filterMap_le (chgD f g) (Qba f g);have h2:=Qex [] f.l;have h3:=Qex (Qee [] f.l) g.l;unfold Qbj;unfold Qba at h1 ⊢;simp at h2;omega
theorem Qt4 (a b:List Nod) (h:a.length+b.length≤100000):Qah prog 108 [.sl 1 false ([a.map nodA,b.map nodA].map pc5)] (.sl 5 false ((a++b).map nodA)):=by
 have:=Qg5 [a.map nodA,b.map nodA] (by simp) (by simp;omega);rw [List.map_append];simpa using this
theorem Qto (f g:Fsy) (h:f.l.length+g.l.length≤100000):Qah prog 97 [.sl 1 false (((f.l++g.l).map Nod.ino).map intA)] (.sl 1 false ((Qba f g).map intA)):=by
 rw [← Zko];exact Qtp _ (by simp;omega)
theorem Qqp (f g:Fsy) (okf:OkF f) (okg:OkF g) (hf:f.l.length≤1000) (hg:g.l.length≤1000) (hr:Qbv f.l) (hrg:Qbv g.l):Qah prog 59 [.agg (fsyA f),.agg (fsyA g)] (.sl 7 false ((Qbj f g).map chgA)):=by
 have hal:(Qba f g).length≤f.l.length+g.l.length:=by have h1:=Qex [] f.l;have h2:=Qex (Qee [] f.l) g.l;unfold Qba;simp at h1;omega
 exact Qac func59 (
 .new fun b1=>.new fun b2=>.r 1<|.r 1<|.rowNil 5 5 3 1<|.u 5 [b1,b2]<|
 .cs (args0:=[.sl 1 true ([[.sl 5 false (f.l.map nodA)],[.sl 5 false (g.l.map nodA)]])]) (Qt4 f.l g.l (by omega)) ⟨pcs2 _ _,trivial⟩<|
 .r 1<|.lm 21 (f.l++g.l) nodA<|.r 1<|let L1:Lp (Nat × Value):=⟨fun a1=>⟨[(2,.ptr 2 b1 0),(3,.ptr 3 b2 0),(22,aI (a1.1:Int)),(5,.rw 5 a1.2 ((((f.l++g.l).take a1.1).map Nod.ino).length)),(20,.sl 5 false ((f.l++g.l).map nodA)),(21,aI ((f.l++g.l).length:Int))],[(2,.box b1 28 (fsyA f)),(3,.box b2 28 (fsyA g)),(5,.row a1.2 3 1 ((((f.l++g.l).take a1.1).map Nod.ino).map intA))]⟩,fun a1=>(f.l++g.l).length-a1.1,fun a1=>a1.1≤(f.l++g.l).length⟩
 .lp L1 (0,.slice none 0 0) (show 0≤(f.l++g.l).length from Nat.zero_le _) [(22,aI 0),(5,.rw 5 (.slice none 0 0) 0)] [(5,.row (.slice none 0 0) 3 1 ([]))] ⟨sR,sR,sO,sR,sR,sR,trivial⟩ bb3 fun a1 ha1=>
 (fun (k:Nat) (V:Value) (hH1:k≤(f.l++g.l).length)=>have hfg:(f.l++g.l).length=f.l.length+g.l.length:=List.length_append;.r 1<|.bd 23 ((k:Int)<((f.l++g.l).length:Int)) (fun p1=>.idxM (f.l++g.l) nodA k (m:=(k:Int)) rfl (by omega) fun x1 hx1=>
 .r 1<|.new fun b3=>.u 1 [b3]<|
 .u 4 [b3]<|
 .app 8 V ((((f.l++g.l).take k).map Nod.ino).map intA) ([[aI x1.ino]]) (by first | (have:=Qcs f g m;simp only [List.length_map,List.length_cons,List.length_nil];omega) | (simp only [List.length_map,List.length_cons,List.length_nil,List.length_take,List.length_append];omega)) (by first | (have:=Qcs f g m;simp only [List.length_map,List.length_cons,List.length_nil];omega) | (simp only [List.length_map,List.length_cons,List.length_nil,List.length_take,List.length_append];omega)) fun V1=>
 .r 1<|.run 2 [rng .i64 ((k:Int)+1)] ⟨Qai (by omega) (by omega),trivial⟩<|
 .bk L1 (k,V) ((k+1),V1) (show (k+1)≤(f.l++g.l).length from (by show _≤_;omega)) (show (f.l++g.l).length-(k+1)<(f.l++g.l).length-k from (by omega)) [(22,aI ((k:Int)+1)),(5,.rw 5 V1 (((((f.l++g.l).take k).map Nod.ino).map intA).length+([[aI x1.ino]]:List (List AV)).length))] [(5,.row V1 3 1 (((((f.l++g.l).take k).map Nod.ino).map intA)++([[aI x1.ino]])))] ⟨sR,sR,sO,Sub.of_eq (congrArg (AV.rw 5 V1) (by rw [Qam hx1];simp)),sR,sR,trivial⟩ ⟨sB,sB,⟨_,rfl,SubB.of_eq (by rw [Qam hx1];simp [intA])⟩,trivial⟩)
 <| fun p1=>.r 1<|.frz 5 [2,3,5,8,23] [2,3] [V=V,(((f.l++g.l).take k).map Nod.ino).length=((((f.l++g.l).take k).map Nod.ino).map intA).length] ⟨rfl,(by first | rfl | (simp;done) | (simp;omega)),trivial⟩<|
 .rowNil 8 8 152 7<|.r 1<|.cs (args0:=[.sl 1 false ((((f.l++g.l).take k).map Nod.ino).map intA)]) (Qto f g (by omega)) ⟨Sub.of_eq (by rw [Qat (by omega)]),trivial⟩<|
 .r 1<|.lm 34 (Qba f g) intA<|.r 1<|let L2:Lp (Nat × Value):=⟨fun a2=>⟨[(2,.ptr 2 b1 0),(3,.ptr 3 b2 0),(34,aI ((Qba f g).length:Int)),(35,aI (a2.1:Int)),(8,.rw 8 a2.2 ((chgL f g a2.1).length)),(33,.sl 1 false ((Qba f g).map intA))],[(2,.box b1 28 (fsyA f)),(3,.box b2 28 (fsyA g)),(8,.row a2.2 152 7 ((chgL f g a2.1).map chgR))]⟩,fun a2=>(Qba f g).length-a2.1,fun a2=>a2.1≤(Qba f g).length⟩
 .lp L2 (0,.slice none 0 0) (show 0≤(Qba f g).length from Nat.zero_le _) [(35,aI 0),(8,.rw 8 (.slice none 0 0) 0)] [(8,.row (.slice none 0 0) 152 7 ([]))] ⟨sR,sR,sR,sO,sR,sR,trivial⟩ bb3 fun a2 ha2=>
 (fun (m:Nat) (V:Value) (hH2:m≤(Qba f g).length)=>.r 1<|.bd 36 ((m:Int)<((Qba f g).length:Int)) (fun p2=>.idxM (Qba f g) intA m (m:=(m:Int)) rfl (by omega) fun x2 hx2=>
 .r 2<|.u 2 [b1]<|
 .call (Qcl f x2 (by omega) hr)<|
 .r 3<|.new fun b4=>.u 2 [b4]<|
 .u 2 [b2]<|
 .call (Qcl g x2 (by omega) hrg)<|
 .r 3<|.new fun b5=>.u 2 [b5]<|
 .r 3<|.br 51 (!(Qav g x2)) (fun q3=>have q3:=notT q3;have p3:=booF q3;.r 4<|.app 80 V ((chgL f g m).map chgR) ([[aI x2,aB true,aI 0,aI 0,aI 0,aS ([]),aN]]) (by first | (have:=Qcs f g m;simp only [List.length_map,List.length_cons,List.length_nil];omega) | (simp only [List.length_map,List.length_cons,List.length_nil,List.length_take,List.length_append];omega)) (by first | (have:=Qcs f g m;simp only [List.length_map,List.length_cons,List.length_nil];omega) | (simp only [List.length_map,List.length_cons,List.length_nil,List.length_take,List.length_append];omega)) fun V2=>
 .r 1<|.run 2 [rng .i64 ((m:Int)+1)] ⟨Qai (by omega) (by omega),trivial⟩<|
 .bk L2 (m,V) ((m+1),V2) (show (m+1)≤(Qba f g).length from (by show _≤_;omega)) (show (Qba f g).length-(m+1)<(Qba f g).length-m from (by omega)) [(35,aI ((m:Int)+1)),(8,.rw 8 V2 (((chgL f g m).map chgR).length+([[aI x2,aB true,aI 0,aI 0,aI 0,aS ([]),aN]]:List (List AV)).length))] [(8,.row V2 152 7 (((chgL f g m).map chgR)++([[aI x2,aB true,aI 0,aI 0,aI 0,aS ([]),aN]])))] ⟨sR,sR,sR,sO,Sub.of_eq (congrArg (AV.rw 8 V2) (by rw [Qcg hx2 (show chgD f g x2=some ⟨x2,true,nod0⟩ from by unfold chgD;rw [if_pos q3])];simp)),sR,trivial⟩ ⟨sB,sB,⟨_,rfl,SubB.of_eq (by rw [Qcg hx2 (show chgD f g x2=some ⟨x2,true,nod0⟩ from by unfold chgD;rw [if_pos q3])];simp [chgR,nod0])⟩,trivial⟩)
 <| fun q3=>have q3:=notF q3;have p3:=booT q3;.r 3<|.br 62 (!(Qav f x2)) (fun q4=>have q4:=notT q4;have p4:=booF q4;.r 6<|.u 5 [b5]<|
 .app 80 V ((chgL f g m).map chgR) ([[aI x2,aB false,aI ((Qaa g x2).ino),aI ((Qaa g x2).kind),aI ((Qaa g x2).links),aS ((Qaa g x2).text),.sl 2 false ((Qaa g x2).l.map entA)]]) (by first | (have:=Qcs f g m;simp only [List.length_map,List.length_cons,List.length_nil];omega) | (simp only [List.length_map,List.length_cons,List.length_nil,List.length_take,List.length_append];omega)) (by first | (have:=Qcs f g m;simp only [List.length_map,List.length_cons,List.length_nil];omega) | (simp only [List.length_map,List.length_cons,List.length_nil,List.length_take,List.length_append];omega)) fun V3=>
 .r 1<|.run 2 [rng .i64 ((m:Int)+1)] ⟨Qai (by omega) (by omega),trivial⟩<|
 .bk L2 (m,V) ((m+1),V3) (show (m+1)≤(Qba f g).length from (by show _≤_;omega)) (show (Qba f g).length-(m+1)<(Qba f g).length-m from (by omega)) [(35,aI ((m:Int)+1)),(8,.rw 8 V3 (((chgL f g m).map chgR).length+([[aI x2,aB false,aI ((Qaa g x2).ino),aI ((Qaa g x2).kind),aI ((Qaa g x2).links),aS ((Qaa g x2).text),.sl 2 false ((Qaa g x2).l.map entA)]]:List (List AV)).length))] [(8,.row V3 152 7 (((chgL f g m).map chgR)++([[aI x2,aB false,aI ((Qaa g x2).ino),aI ((Qaa g x2).kind),aI ((Qaa g x2).links),aS ((Qaa g x2).text),.sl 2 false ((Qaa g x2).l.map entA)]])))] ⟨sR,sR,sR,sO,Sub.of_eq (congrArg (AV.rw 8 V3) (by rw [Qcg hx2 (show chgD f g x2=some ⟨x2,false,Qaa g x2⟩ from by unfold chgD;rw [if_neg (by simp [q3]),if_pos (.inl q4)])];simp)),sR,trivial⟩ ⟨sB,sB,⟨_,rfl,SubB.of_eq (by rw [Qcg hx2 (show chgD f g x2=some ⟨x2,false,Qaa g x2⟩ from by unfold chgD;rw [if_neg (by simp [q3]),if_pos (.inl q4)])];simp [chgR])⟩,trivial⟩)
 <| fun q4=>have q4:=notF q4;have p4:=booT q4;.u 2 [b4,b5]<|
 .call (Qpd (Qaa f x2) (Qaa g x2) (Qd4 okf _) (Qd4 okg _))<|
 .r 3<|.br 59 (!(dP ((Qaa f x2)=(Qaa g x2)))) (fun q5=>have q5:=notT q5;have p5:=booF q5;.u 5 [b5]<|
 .app 80 V ((chgL f g m).map chgR) ([[aI x2,aB false,aI ((Qaa g x2).ino),aI ((Qaa g x2).kind),aI ((Qaa g x2).links),aS ((Qaa g x2).text),.sl 2 false ((Qaa g x2).l.map entA)]]) (by first | (have:=Qcs f g m;simp only [List.length_map,List.length_cons,List.length_nil];omega) | (simp only [List.length_map,List.length_cons,List.length_nil,List.length_take,List.length_append];omega)) (by first | (have:=Qcs f g m;simp only [List.length_map,List.length_cons,List.length_nil];omega) | (simp only [List.length_map,List.length_cons,List.length_nil,List.length_take,List.length_append];omega)) fun V4=>
 .r 1<|.run 2 [rng .i64 ((m:Int)+1)] ⟨Qai (by omega) (by omega),trivial⟩<|
 .bk L2 (m,V) ((m+1),V4) (show (m+1)≤(Qba f g).length from (by show _≤_;omega)) (show (Qba f g).length-(m+1)<(Qba f g).length-m from (by omega)) [(35,aI ((m:Int)+1)),(8,.rw 8 V4 (((chgL f g m).map chgR).length+([[aI x2,aB false,aI ((Qaa g x2).ino),aI ((Qaa g x2).kind),aI ((Qaa g x2).links),aS ((Qaa g x2).text),.sl 2 false ((Qaa g x2).l.map entA)]]:List (List AV)).length))] [(8,.row V4 152 7 (((chgL f g m).map chgR)++([[aI x2,aB false,aI ((Qaa g x2).ino),aI ((Qaa g x2).kind),aI ((Qaa g x2).links),aS ((Qaa g x2).text),.sl 2 false ((Qaa g x2).l.map entA)]])))] ⟨sR,sR,sR,sO,Sub.of_eq (congrArg (AV.rw 8 V4) (by rw [Qcg hx2 (show chgD f g x2=some ⟨x2,false,Qaa g x2⟩ from by unfold chgD;rw [if_neg (by simp [q3]),if_pos (.inr (Qab.1 q5))])];simp)),sR,trivial⟩ ⟨sB,sB,⟨_,rfl,SubB.of_eq (by rw [Qcg hx2 (show chgD f g x2=some ⟨x2,false,Qaa g x2⟩ from by unfold chgD;rw [if_neg (by simp [q3]),if_pos (.inr (Qab.1 q5))])];simp [chgR])⟩,trivial⟩)
 <| fun q5=>have q5:=notF q5;have p5:=booT q5;.run 2 [rng .i64 ((m:Int)+1)] ⟨Qai (by omega) (by omega),trivial⟩<|
 .bk L2 (m,V) ((m+1),V) (show (m+1)≤(Qba f g).length from (by show _≤_;omega)) (show (Qba f g).length-(m+1)<(Qba f g).length-m from (by omega)) [(35,aI ((m:Int)+1)),(8,.rw 8 V ((chgL f g m).length))] [(8,.row V 152 7 ((chgL f g m).map chgR))] ⟨sR,sR,sR,sO,Sub.of_eq (congrArg (AV.rw 8 V) (by rw [Qli hx2 (show chgD f g x2=none from by unfold chgD;rw [if_neg (by simp [q3]),if_neg (fun h=>h.elim (fun h=>by rw [q4] at h;cases h) (fun h=>h (Qaw.1 q5)))])])),sR,trivial⟩ ⟨sB,sB,⟨_,rfl,SubB.of_eq (by rw [Qli hx2 (show chgD f g x2=none from by unfold chgD;rw [if_neg (by simp [q3]),if_neg (fun h=>h.elim (fun h=>by rw [q4] at h;cases h) (fun h=>h (Qaw.1 q5)))])])⟩,trivial⟩)
 <| fun p2=>.r 2<|.frz 8 [4] [] [V=V,(chgL f g m).length=((chgL f g m).map chgR).length] ⟨rfl,(by first | rfl | (simp;done) | (simp;omega)),trivial⟩<|
 .f (.sl 7 false ((Qbj f g).map chgA)) [] (.sl 7 false ((chgL f g m).map chgR)) (by
  rw [Qyw (by omega)];exact Zgl Ql0)) a2.1 a2.2 ha2) a1.1 a1.2 ha1)
theorem Qqh (f g:Fsy) (okf:OkF f) (okg:OkF g) (hf:f.l.length≤1000) (hg:g.l.length≤1000):Qah prog 61 [.agg (fsyA f),.agg (fsyA g)] (.sl 7 false ((Qbj f g).map chgA)):=by
 have hal:(Qba f g).length≤f.l.length+g.l.length:=by have h1:=Qex [] f.l;have h2:=Qex (Qee [] f.l) g.l;unfold Qba;simp at h1;omega
 exact Qac func61 (
 .new fun b1=>.new fun b2=>.r 1<|.r 1<|.r 1<|let L1:Lp (Nat):=⟨fun a1=>⟨[(2,.ptr 2 b1 0),(3,.ptr 3 b2 0),(6,aI (a1:Int)),(5,.sl 1 false ((Qee [] (f.l.take a1)).map intA))],[(2,.box b1 28 (fsyA f)),(3,.box b2 28 (fsyA g))]⟩,fun a1=>f.l.length-a1,fun a1=>a1≤f.l.length⟩
 .lp L1 0 (show 0≤f.l.length from Nat.zero_le _) [(6,aI 0),(5,aN)] [] ⟨sR,sR,sO,Sub.nil _ _,trivial⟩ bb2 fun a1 ha1=>
 (fun (k:Nat) (hH1:k≤f.l.length)=>.u 4 [b1]<|
 .lm 18 f.l nodA<|.r 1<|.bd 19 ((k:Int)<(f.l.length:Int)) (fun p1=>.u 4 [b1]<|
 .idxM f.l nodA k (m:=(k:Int)) rfl (by omega) fun x1 hx1=>
 .r 2<|.call (Qcw (Qee [] (f.l.take k)) x1.ino (by have:=Qex [] (f.l.take k);simp at this;omega))<|
 .r 1<|.run 3 [rng .i64 ((k:Int)+1)] ⟨Qai (by omega) (by omega),trivial⟩<|
 .bk L1 k (k+1) (show (k+1)≤f.l.length from (by show _≤_;omega)) (show f.l.length-(k+1)<f.l.length-k from (by omega)) [(6,aI ((k:Int)+1)),(5,.sl 1 false ((Qcx (Qee [] (f.l.take k)) x1.ino).map intA))] [] ⟨sR,sR,sO,Sub.of_eq (by rw [Qpe hx1];rfl),trivial⟩ bb2)
 <| fun p1=>.r 1<|let L2:Lp (Nat):=⟨fun a2=>⟨[(2,.ptr 2 b1 0),(3,.ptr 3 b2 0),(7,aI (a2:Int)),(5,.sl 1 false ((Qee (Qee [] f.l) (g.l.take a2)).map intA))],[(2,.box b1 28 (fsyA f)),(3,.box b2 28 (fsyA g))]⟩,fun a2=>g.l.length-a2,fun a2=>a2≤g.l.length⟩
 .lp L2 0 (show 0≤g.l.length from Nat.zero_le _) [(7,aI 0),(5,.sl 1 false ((Qee [] (f.l.take k)).map intA))] [] ⟨sR,sR,sO,Sub.of_eq (by rw [Qat (by omega)];rfl),trivial⟩ bb2 fun a2 ha2=>
 (fun (j:Nat) (hH2:j≤g.l.length)=>.u 4 [b2]<|
 .lm 33 g.l nodA<|.r 1<|.bd 34 ((j:Int)<(g.l.length:Int)) (fun p2=>.u 4 [b2]<|
 .idxM g.l nodA j (m:=(j:Int)) rfl (by omega) fun x2 hx2=>
 .r 2<|.call (Qcw (Qee (Qee [] f.l) (g.l.take j)) x2.ino (by have h1:=Qex [] f.l;have h2:=Qex (Qee [] f.l) (g.l.take j);simp at h1 h2;omega))<|
 .r 1<|.run 3 [rng .i64 ((j:Int)+1)] ⟨Qai (by omega) (by omega),trivial⟩<|
 .bk L2 j (j+1) (show (j+1)≤g.l.length from (by show _≤_;omega)) (show g.l.length-(j+1)<g.l.length-j from (by omega)) [(7,aI ((j:Int)+1)),(5,.sl 1 false ((Qcx (Qee (Qee [] f.l) (g.l.take j)) x2.ino).map intA))] [] ⟨sR,sR,sO,Sub.of_eq (by rw [Qpe hx2];rfl),trivial⟩ bb2)
 <| fun p2=>.r 1<|.rowNil 8 8 152 7<|.r 1<|let L3:Lp (Nat × Value):=⟨fun a3=>⟨[(2,.ptr 2 b1 0),(3,.ptr 3 b2 0),(9,aI (a3.1:Int)),(8,.rw 8 a3.2 ((chgL f g a3.1).length)),(5,.sl 1 false ((Qba f g).map intA))],[(2,.box b1 28 (fsyA f)),(3,.box b2 28 (fsyA g)),(8,.row a3.2 152 7 ((chgL f g a3.1).map chgR))]⟩,fun a3=>(Qba f g).length-a3.1,fun a3=>a3.1≤(Qba f g).length⟩
 .lp L3 (0,.slice none 0 0) (show 0≤(Qba f g).length from Nat.zero_le _) [(9,aI 0),(8,.rw 8 (.slice none 0 0) 0),(5,.sl 1 false ((Qee (Qee [] f.l) (g.l.take j)).map intA))] [(8,.row (.slice none 0 0) 152 7 ([]))] ⟨sR,sR,sO,sR,Sub.of_eq (by rw [Qat (by omega)];rfl),trivial⟩ bb3 fun a3 ha3=>
 (fun (m:Nat) (V:Value) (hH3:m≤(Qba f g).length)=>.r 3<|.lm 47 (Qba f g) intA<|.r 1<|.bd 48 ((m:Int)<((Qba f g).length:Int)) (fun p3=>.pick [0,1,2,3,4]<|.u 3 [b1]<|
 .idxM (Qba f g) intA m (m:=(m:Int)) rfl (by omega) fun x3 hx3=>
 .r 1<|.fork<|.alt (.call (Qa1 f x3 (by omega))<|
 .pick [6,7,8,9,10,11]<|.r 3<|.new fun b3=>.u 2 [b3]<|
 let J1:Jn (Nat):=⟨fun j1=>⟨[(2,.ptr 2 b1 0),(3,.ptr 3 b2 0),(9,aI (m:Int)),(8,.rw 8 V ((chgL f g m).length)),(5,.sl 1 false ((Qba f g).map intA)),(45,aI (m:Int)),(46,.sl 1 false ((Qba f g).map intA)),(47,aI ((Qba f g).length:Int)),(48,aB true),(52,.agg (fsyA f)),(53,.sl 1 false ((Qba f g).map intA)),(54,aI (m:Int)),(55,.dptr [aI x3]),(56,aI x3),(57,.tup [.agg [aI ((Qaa f x3).ino),aI ((Qaa f x3).kind),aI ((Qaa f x3).links),aS ((Qaa f x3).text),.sl 2 false ((Qaa f x3).l.map entA)],aB (Qav f x3)]),(51,.tup [.agg [aI ((Qaa f x3).ino),aI ((Qaa f x3).kind),aI ((Qaa f x3).links),aS ((Qaa f x3).text),.sl 2 false ((Qaa f x3).l.map entA)],aB (Qav f x3)]),(58,.agg [aI ((Qaa f x3).ino),aI ((Qaa f x3).kind),aI ((Qaa f x3).links),aS ((Qaa f x3).text),.sl 2 false ((Qaa f x3).l.map entA)]),(59,aB (Qav f x3)),(10,.ptr 10 b3 0),(11,aB (Qav f x3)),(61,.agg (fsyA g)),(62,.sl 1 false ((Qba f g).map intA)),(63,aI (m:Int)),(64,.dptr [aI x3]),(65,aI x3),(66,.tup [.agg [aI ((Qaa g x3).ino),aI ((Qaa g x3).kind),aI ((Qaa g x3).links),aS ((Qaa g x3).text),.sl 2 false ((Qaa g x3).l.map entA)],aB (Qav g x3)]),(60,.tup [.agg [aI ((Qaa g x3).ino),aI ((Qaa g x3).kind),aI ((Qaa g x3).links),aS ((Qaa g x3).text),.sl 2 false ((Qaa g x3).l.map entA)],aB (Qav g x3)]),(67,.agg [aI ((Qaa g x3).ino),aI ((Qaa g x3).kind),aI ((Qaa g x3).links),aS ((Qaa g x3).text),.sl 2 false ((Qaa g x3).l.map entA)]),(68,aB (Qav g x3)),(12,.ptr 12 j1 0),(13,aB (Qav g x3))],[(2,.box b1 28 (fsyA f)),(3,.box b2 28 (fsyA g)),(8,.row V 152 7 ((chgL f g m).map chgR)),(10,.box b3 84 [aI ((Qaa f x3).ino),aI ((Qaa f x3).kind),aI ((Qaa f x3).links),aS ((Qaa f x3).text),.sl 2 false ((Qaa f x3).l.map entA)]),(12,.box j1 84 [aI ((Qaa g x3).ino),aI ((Qaa g x3).kind),aI ((Qaa g x3).links),aS ((Qaa g x3).text),.sl 2 false ((Qaa g x3).l.map entA)])]⟩,fun _=>True⟩
 .cut J1 (.pick [0,1,2,3,4]<|.u 3 [b2]<|
 .idx m (m:=(m:Int)) (xs:=(Qba f g).map intA) (e:=intA x3) rfl (map_some hx3)<|
 .r 1<|.fork<|.alt (.call (Qa1 g x3 (by omega))<|
 .pick [6,7,8,9,10,11]<|.r 3<|.new fun b4=>.u 2 [b4]<|
 .jo J1 b4 [] [] ⟨sR,sR,sR,sR,sR,sR,sR,sR,sR,sR,sR,sR,sR,sR,sR,sR,sR,sR,sR,sR,sR,sR,sR,sR,sR,sR,sR,sR,sR,sR,sR,trivial⟩ bb5)
 <| .new fun b5=>.pick [5,6,7,8,10,11]<|.call (Qa1 g x3 (by omega))<|
 .u 5 [b5]<|
 .jo J1 b5 [] [] ⟨sR,sR,sR,sR,sR,sR,sR,sR,sR,sR,sR,sR,sR,sR,sR,sR,sR,sR,sR,sR,sR,sR,sR,sR,sR,sR,sR,sR,sR,sR,sR,trivial⟩ bb5)
 <| fun j1 _=>(fun (b6:Nat)=>.u 2 [b3,b6]<|
 .call (Qea (Qaa f x3) (Qaa g x3) (Qd4 okf _) (Qd4 okg _))<|
 .r 1<|.r 2<|.br 73 (!(Qav g x3)) (fun q4=>have q4:=notT q4;have p4:=booF q4;.r 3<|.idx m (m:=(m:Int)) (xs:=(Qba f g).map intA) (e:=intA x3) rfl (map_some hx3)<|
 .r 3<|.app 80 V ((chgL f g m).map chgR) ([[aI x3,aB true,aI 0,aI 0,aI 0,aS ([]),aN]]) (by have:=Qcs f g m;simp only [List.length_map,List.length_cons,List.length_nil];omega) (by have:=Qcs f g m;simp only [List.length_map,List.length_cons,List.length_nil];omega) fun V1=>
 .r 1<|.run 3 [rng .i64 ((m:Int)+1)] ⟨Qai (by omega) (by omega),trivial⟩<|
 .bk L3 (m,V) ((m+1),V1) (show (m+1)≤(Qba f g).length from (by show _≤_;omega)) (show (Qba f g).length-(m+1)<(Qba f g).length-m from (by omega)) [(9,aI ((m:Int)+1)),(8,.rw 8 V1 (((chgL f g m).map chgR).length+([[aI x3,aB true,aI 0,aI 0,aI 0,aS ([]),aN]]:List (List AV)).length))] [(8,.row V1 152 7 (((chgL f g m).map chgR)++([[aI x3,aB true,aI 0,aI 0,aI 0,aS ([]),aN]])))] ⟨sR,sR,sO,Sub.of_eq (congrArg (AV.rw 8 V1) (by rw [Qcg hx3 (show chgD f g x3=some ⟨x3,true,nod0⟩ from by unfold chgD;rw [if_pos q4])];simp)),sR,trivial⟩ ⟨sB,sB,⟨_,rfl,SubB.of_eq (by rw [Qcg hx3 (show chgD f g x3=some ⟨x3,true,nod0⟩ from by unfold chgD;rw [if_pos q4])];simp [chgR,nod0])⟩,trivial⟩)
 <| fun q4=>have q4:=notF q4;have p4:=booT q4;.r 3<|.br 84 (!(Qav f x3)) (fun q5=>have q5:=notT q5;have p5:=booF q5;.r 3<|.ord [0,1,2,3,4,5,6,7,8,9]<|.r 3<|.idx m (m:=(m:Int)) (xs:=(Qba f g).map intA) (e:=intA x3) rfl (map_some hx3)<|
 .u 4 [b6]<|
 .app 80 V ((chgL f g m).map chgR) ([[aI x3,aB false,aI ((Qaa g x3).ino),aI ((Qaa g x3).kind),aI ((Qaa g x3).links),aS ((Qaa g x3).text),.sl 2 false ((Qaa g x3).l.map entA)]]) (by have:=Qcs f g m;simp only [List.length_map,List.length_cons,List.length_nil];omega) (by have:=Qcs f g m;simp only [List.length_map,List.length_cons,List.length_nil];omega) fun V2=>
 .r 1<|.run 3 [rng .i64 ((m:Int)+1)] ⟨Qai (by omega) (by omega),trivial⟩<|
 .bk L3 (m,V) ((m+1),V2) (show (m+1)≤(Qba f g).length from (by show _≤_;omega)) (show (Qba f g).length-(m+1)<(Qba f g).length-m from (by omega)) [(9,aI ((m:Int)+1)),(8,.rw 8 V2 (((chgL f g m).map chgR).length+([[aI x3,aB false,aI ((Qaa g x3).ino),aI ((Qaa g x3).kind),aI ((Qaa g x3).links),aS ((Qaa g x3).text),.sl 2 false ((Qaa g x3).l.map entA)]]:List (List AV)).length))] [(8,.row V2 152 7 (((chgL f g m).map chgR)++([[aI x3,aB false,aI ((Qaa g x3).ino),aI ((Qaa g x3).kind),aI ((Qaa g x3).links),aS ((Qaa g x3).text),.sl 2 false ((Qaa g x3).l.map entA)]])))] ⟨sR,sR,sO,Sub.of_eq (congrArg (AV.rw 8 V2) (by rw [Qcg hx3 (show chgD f g x3=some ⟨x3,false,Qaa g x3⟩ from by unfold chgD;rw [if_neg (by simp [q4]),if_pos (.inl q5)])];simp)),sR,trivial⟩ ⟨sB,sB,⟨_,rfl,SubB.of_eq (by rw [Qcg hx3 (show chgD f g x3=some ⟨x3,false,Qaa g x3⟩ from by unfold chgD;rw [if_neg (by simp [q4]),if_pos (.inl q5)])];simp [chgR])⟩,trivial⟩)
 <| fun q5=>have q5:=notF q5;have p5:=booT q5;.r 3<|.br 87 (!(dP ((Qaa f x3)=(Qaa g x3)))) (fun q6=>have q6:=notT q6;have p6:=booF q6;.ord [0,1,2,3,4,5,6,7,8,9]<|.r 3<|.idx m (m:=(m:Int)) (xs:=(Qba f g).map intA) (e:=intA x3) rfl (map_some hx3)<|
 .u 4 [b6]<|
 .app 80 V ((chgL f g m).map chgR) ([[aI x3,aB false,aI ((Qaa g x3).ino),aI ((Qaa g x3).kind),aI ((Qaa g x3).links),aS ((Qaa g x3).text),.sl 2 false ((Qaa g x3).l.map entA)]]) (by have:=Qcs f g m;simp only [List.length_map,List.length_cons,List.length_nil];omega) (by have:=Qcs f g m;simp only [List.length_map,List.length_cons,List.length_nil];omega) fun V3=>
 .r 1<|.run 3 [rng .i64 ((m:Int)+1)] ⟨Qai (by omega) (by omega),trivial⟩<|
 .bk L3 (m,V) ((m+1),V3) (show (m+1)≤(Qba f g).length from (by show _≤_;omega)) (show (Qba f g).length-(m+1)<(Qba f g).length-m from (by omega)) [(9,aI ((m:Int)+1)),(8,.rw 8 V3 (((chgL f g m).map chgR).length+([[aI x3,aB false,aI ((Qaa g x3).ino),aI ((Qaa g x3).kind),aI ((Qaa g x3).links),aS ((Qaa g x3).text),.sl 2 false ((Qaa g x3).l.map entA)]]:List (List AV)).length))] [(8,.row V3 152 7 (((chgL f g m).map chgR)++([[aI x3,aB false,aI ((Qaa g x3).ino),aI ((Qaa g x3).kind),aI ((Qaa g x3).links),aS ((Qaa g x3).text),.sl 2 false ((Qaa g x3).l.map entA)]])))] ⟨sR,sR,sO,Sub.of_eq (congrArg (AV.rw 8 V3) (by rw [Qcg hx3 (show chgD f g x3=some ⟨x3,false,Qaa g x3⟩ from by unfold chgD;rw [if_neg (by simp [q4]),if_pos (.inr (Qab.1 q6))])];simp)),sR,trivial⟩ ⟨sB,sB,⟨_,rfl,SubB.of_eq (by rw [Qcg hx3 (show chgD f g x3=some ⟨x3,false,Qaa g x3⟩ from by unfold chgD;rw [if_neg (by simp [q4]),if_pos (.inr (Qab.1 q6))])];simp [chgR])⟩,trivial⟩)
 <| fun q6=>have q6:=notF q6;have p6:=booT q6;.run 3 [rng .i64 ((m:Int)+1)] ⟨Qai (by omega) (by omega),trivial⟩<|
 .bk L3 (m,V) ((m+1),V) (show (m+1)≤(Qba f g).length from (by show _≤_;omega)) (show (Qba f g).length-(m+1)<(Qba f g).length-m from (by omega)) [(9,aI ((m:Int)+1)),(8,.rw 8 V ((chgL f g m).length))] [(8,.row V 152 7 ((chgL f g m).map chgR))] ⟨sR,sR,sO,Sub.of_eq (congrArg (AV.rw 8 V) (by rw [Qli hx3 (show chgD f g x3=none from by unfold chgD;rw [if_neg (by simp [q4]),if_neg (fun h=>h.elim (fun h=>by rw [q5] at h;cases h) (fun h=>h (Qaw.1 q6)))])])),sR,trivial⟩ ⟨sB,sB,⟨_,rfl,SubB.of_eq (by rw [Qli hx3 (show chgD f g x3=none from by unfold chgD;rw [if_neg (by simp [q4]),if_neg (fun h=>h.elim (fun h=>by rw [q5] at h;cases h) (fun h=>h (Qaw.1 q6)))])])⟩,trivial⟩) j1)
 <| .new fun b7=>.pick [5,6,7,8,10,11]<|.call (Qa1 f x3 (by omega))<|
 .u 5 [b7]<|
 let J2:Jn (Nat):=⟨fun j2=>⟨[(2,.ptr 2 b1 0),(3,.ptr 3 b2 0),(9,aI (m:Int)),(8,.rw 8 V ((chgL f g m).length)),(5,.sl 1 false ((Qba f g).map intA)),(45,aI (m:Int)),(46,.sl 1 false ((Qba f g).map intA)),(47,aI ((Qba f g).length:Int)),(48,aB true),(52,.agg (fsyA f)),(53,.sl 1 false ((Qba f g).map intA)),(54,aI (m:Int)),(55,.dptr [aI x3]),(56,aI x3),(10,.ptr 10 b7 0),(57,.tup [.agg [aI ((Qaa f x3).ino),aI ((Qaa f x3).kind),aI ((Qaa f x3).links),aS ((Qaa f x3).text),.sl 2 false ((Qaa f x3).l.map entA)],aB (Qav f x3)]),(51,.tup [.agg [aI ((Qaa f x3).ino),aI ((Qaa f x3).kind),aI ((Qaa f x3).links),aS ((Qaa f x3).text),.sl 2 false ((Qaa f x3).l.map entA)],aB (Qav f x3)]),(58,.agg [aI ((Qaa f x3).ino),aI ((Qaa f x3).kind),aI ((Qaa f x3).links),aS ((Qaa f x3).text),.sl 2 false ((Qaa f x3).l.map entA)]),(59,aB (Qav f x3)),(11,aB (Qav f x3)),(61,.agg (fsyA g)),(62,.sl 1 false ((Qba f g).map intA)),(63,aI (m:Int)),(64,.dptr [aI x3]),(65,aI x3),(66,.tup [.agg [aI ((Qaa g x3).ino),aI ((Qaa g x3).kind),aI ((Qaa g x3).links),aS ((Qaa g x3).text),.sl 2 false ((Qaa g x3).l.map entA)],aB (Qav g x3)]),(60,.tup [.agg [aI ((Qaa g x3).ino),aI ((Qaa g x3).kind),aI ((Qaa g x3).links),aS ((Qaa g x3).text),.sl 2 false ((Qaa g x3).l.map entA)],aB (Qav g x3)]),(67,.agg [aI ((Qaa g x3).ino),aI ((Qaa g x3).kind),aI ((Qaa g x3).links),aS ((Qaa g x3).text),.sl 2 false ((Qaa g x3).l.map entA)]),(68,aB (Qav g x3)),(12,.ptr 12 j2 0),(13,aB (Qav g x3))],[(2,.box b1 28 (fsyA f)),(3,.box b2 28 (fsyA g)),(8,.row V 152 7 ((chgL f g m).map chgR)),(10,.box b7 84 [aI ((Qaa f x3).ino),aI ((Qaa f x3).kind),aI ((Qaa f x3).links),aS ((Qaa f x3).text),.sl 2 false ((Qaa f x3).l.map entA)]),(12,.box j2 84 [aI ((Qaa g x3).ino),aI ((Qaa g x3).kind),aI ((Qaa g x3).links),aS ((Qaa g x3).text),.sl 2 false ((Qaa g x3).l.map entA)])]⟩,fun _=>True⟩
 .cut J2 (.pick [0,1,2,3,4]<|.u 3 [b2]<|
 .idx m (m:=(m:Int)) (xs:=(Qba f g).map intA) (e:=intA x3) rfl (map_some hx3)<|
 .r 1<|.fork<|.alt (.call (Qa1 g x3 (by omega))<|
 .pick [6,7,8,9,10,11]<|.r 3<|.new fun b8=>.u 2 [b8]<|
 .jo J2 b8 [] [] ⟨sR,sR,sR,sR,sR,sR,sR,sR,sR,sR,sR,sR,sR,sR,sR,sR,sR,sR,sR,sR,sR,sR,sR,sR,sR,sR,sR,sR,sR,sR,sR,trivial⟩ bb5)
 <| .new fun b9=>.pick [5,6,7,8,10,11]<|.call (Qa1 g x3 (by omega))<|
 .u 5 [b9]<|
 .jo J2 b9 [] [] ⟨sR,sR,sR,sR,sR,sR,sR,sR,sR,sR,sR,sR,sR,sR,sR,sR,sR,sR,sR,sR,sR,sR,sR,sR,sR,sR,sR,sR,sR,sR,sR,trivial⟩ bb5)
 <| fun j2 _=>(fun (b10:Nat)=>.u 2 [b7,b10]<|
 .call (Qea (Qaa f x3) (Qaa g x3) (Qd4 okf _) (Qd4 okg _))<|
 .r 1<|.r 2<|.br 73 (!(Qav g x3)) (fun q7=>have q7:=notT q7;have p7:=booF q7;.r 3<|.idx m (m:=(m:Int)) (xs:=(Qba f g).map intA) (e:=intA x3) rfl (map_some hx3)<|
 .r 3<|.app 80 V ((chgL f g m).map chgR) ([[aI x3,aB true,aI 0,aI 0,aI 0,aS ([]),aN]]) (by have:=Qcs f g m;simp only [List.length_map,List.length_cons,List.length_nil];omega) (by have:=Qcs f g m;simp only [List.length_map,List.length_cons,List.length_nil];omega) fun V4=>
 .r 1<|.run 3 [rng .i64 ((m:Int)+1)] ⟨Qai (by omega) (by omega),trivial⟩<|
 .bk L3 (m,V) ((m+1),V4) (show (m+1)≤(Qba f g).length from (by show _≤_;omega)) (show (Qba f g).length-(m+1)<(Qba f g).length-m from (by omega)) [(9,aI ((m:Int)+1)),(8,.rw 8 V4 (((chgL f g m).map chgR).length+([[aI x3,aB true,aI 0,aI 0,aI 0,aS ([]),aN]]:List (List AV)).length))] [(8,.row V4 152 7 (((chgL f g m).map chgR)++([[aI x3,aB true,aI 0,aI 0,aI 0,aS ([]),aN]])))] ⟨sR,sR,sO,Sub.of_eq (congrArg (AV.rw 8 V4) (by rw [Qcg hx3 (show chgD f g x3=some ⟨x3,true,nod0⟩ from by unfold chgD;rw [if_pos q7])];simp)),sR,trivial⟩ ⟨sB,sB,⟨_,rfl,SubB.of_eq (by rw [Qcg hx3 (show chgD f g x3=some ⟨x3,true,nod0⟩ from by unfold chgD;rw [if_pos q7])];simp [chgR,nod0])⟩,trivial⟩)
 <| fun q7=>have q7:=notF q7;have p7:=booT q7;.r 3<|.br 84 (!(Qav f x3)) (fun q8=>have q8:=notT q8;have p8:=booF q8;.r 3<|.ord [0,1,2,3,4,5,6,7,8,9]<|.r 3<|.idx m (m:=(m:Int)) (xs:=(Qba f g).map intA) (e:=intA x3) rfl (map_some hx3)<|
 .u 4 [b10]<|
 .app 80 V ((chgL f g m).map chgR) ([[aI x3,aB false,aI ((Qaa g x3).ino),aI ((Qaa g x3).kind),aI ((Qaa g x3).links),aS ((Qaa g x3).text),.sl 2 false ((Qaa g x3).l.map entA)]]) (by have:=Qcs f g m;simp only [List.length_map,List.length_cons,List.length_nil];omega) (by have:=Qcs f g m;simp only [List.length_map,List.length_cons,List.length_nil];omega) fun V5=>
 .r 1<|.run 3 [rng .i64 ((m:Int)+1)] ⟨Qai (by omega) (by omega),trivial⟩<|
 .bk L3 (m,V) ((m+1),V5) (show (m+1)≤(Qba f g).length from (by show _≤_;omega)) (show (Qba f g).length-(m+1)<(Qba f g).length-m from (by omega)) [(9,aI ((m:Int)+1)),(8,.rw 8 V5 (((chgL f g m).map chgR).length+([[aI x3,aB false,aI ((Qaa g x3).ino),aI ((Qaa g x3).kind),aI ((Qaa g x3).links),aS ((Qaa g x3).text),.sl 2 false ((Qaa g x3).l.map entA)]]:List (List AV)).length))] [(8,.row V5 152 7 (((chgL f g m).map chgR)++([[aI x3,aB false,aI ((Qaa g x3).ino),aI ((Qaa g x3).kind),aI ((Qaa g x3).links),aS ((Qaa g x3).text),.sl 2 false ((Qaa g x3).l.map entA)]])))] ⟨sR,sR,sO,Sub.of_eq (congrArg (AV.rw 8 V5) (by rw [Qcg hx3 (show chgD f g x3=some ⟨x3,false,Qaa g x3⟩ from by unfold chgD;rw [if_neg (by simp [q7]),if_pos (.inl q8)])];simp)),sR,trivial⟩ ⟨sB,sB,⟨_,rfl,SubB.of_eq (by rw [Qcg hx3 (show chgD f g x3=some ⟨x3,false,Qaa g x3⟩ from by unfold chgD;rw [if_neg (by simp [q7]),if_pos (.inl q8)])];simp [chgR])⟩,trivial⟩)
 <| fun q8=>have q8:=notF q8;have p8:=booT q8;.r 3<|.br 87 (!(dP ((Qaa f x3)=(Qaa g x3)))) (fun q9=>have q9:=notT q9;have p9:=booF q9;.ord [0,1,2,3,4,5,6,7,8,9]<|.r 3<|.idx m (m:=(m:Int)) (xs:=(Qba f g).map intA) (e:=intA x3) rfl (map_some hx3)<|
 .u 4 [b10]<|
 .app 80 V ((chgL f g m).map chgR) ([[aI x3,aB false,aI ((Qaa g x3).ino),aI ((Qaa g x3).kind),aI ((Qaa g x3).links),aS ((Qaa g x3).text),.sl 2 false ((Qaa g x3).l.map entA)]]) (by have:=Qcs f g m;simp only [List.length_map,List.length_cons,List.length_nil];omega) (by have:=Qcs f g m;simp only [List.length_map,List.length_cons,List.length_nil];omega) fun V6=>
 .r 1<|.run 3 [rng .i64 ((m:Int)+1)] ⟨Qai (by omega) (by omega),trivial⟩<|
 .bk L3 (m,V) ((m+1),V6) (show (m+1)≤(Qba f g).length from (by show _≤_;omega)) (show (Qba f g).length-(m+1)<(Qba f g).length-m from (by omega)) [(9,aI ((m:Int)+1)),(8,.rw 8 V6 (((chgL f g m).map chgR).length+([[aI x3,aB false,aI ((Qaa g x3).ino),aI ((Qaa g x3).kind),aI ((Qaa g x3).links),aS ((Qaa g x3).text),.sl 2 false ((Qaa g x3).l.map entA)]]:List (List AV)).length))] [(8,.row V6 152 7 (((chgL f g m).map chgR)++([[aI x3,aB false,aI ((Qaa g x3).ino),aI ((Qaa g x3).kind),aI ((Qaa g x3).links),aS ((Qaa g x3).text),.sl 2 false ((Qaa g x3).l.map entA)]])))] ⟨sR,sR,sO,Sub.of_eq (congrArg (AV.rw 8 V6) (by rw [Qcg hx3 (show chgD f g x3=some ⟨x3,false,Qaa g x3⟩ from by unfold chgD;rw [if_neg (by simp [q7]),if_pos (.inr (Qab.1 q9))])];simp)),sR,trivial⟩ ⟨sB,sB,⟨_,rfl,SubB.of_eq (by rw [Qcg hx3 (show chgD f g x3=some ⟨x3,false,Qaa g x3⟩ from by unfold chgD;rw [if_neg (by simp [q7]),if_pos (.inr (Qab.1 q9))])];simp [chgR])⟩,trivial⟩)
 <| fun q9=>have q9:=notF q9;have p9:=booT q9;.run 3 [rng .i64 ((m:Int)+1)] ⟨Qai (by omega) (by omega),trivial⟩<|
 .bk L3 (m,V) ((m+1),V) (show (m+1)≤(Qba f g).length from (by show _≤_;omega)) (show (Qba f g).length-(m+1)<(Qba f g).length-m from (by omega)) [(9,aI ((m:Int)+1)),(8,.rw 8 V ((chgL f g m).length))] [(8,.row V 152 7 ((chgL f g m).map chgR))] ⟨sR,sR,sO,Sub.of_eq (congrArg (AV.rw 8 V) (by rw [Qli hx3 (show chgD f g x3=none from by unfold chgD;rw [if_neg (by simp [q7]),if_neg (fun h=>h.elim (fun h=>by rw [q8] at h;cases h) (fun h=>h (Qaw.1 q9)))])])),sR,trivial⟩ ⟨sB,sB,⟨_,rfl,SubB.of_eq (by rw [Qli hx3 (show chgD f g x3=none from by unfold chgD;rw [if_neg (by simp [q7]),if_neg (fun h=>h.elim (fun h=>by rw [q8] at h;cases h) (fun h=>h (Qaw.1 q9)))])])⟩,trivial⟩) j2)
 <| fun p3=>.r 2<|.frz 8 [4] [] [V=V,(chgL f g m).length=((chgL f g m).map chgR).length] ⟨rfl,(by first | rfl | (simp;done) | (simp;omega)),trivial⟩<|
 .f (.sl 7 false ((Qbj f g).map chgA)) [] (.sl 7 false ((chgL f g m).map chgR)) (by
  rw [Qyw (by omega)];exact Zgl Ql0)) a3.1 a3.2 ha3) a2 ha2) a1 ha1)
end Go.Proofs.YtahlldgocpabjaaGreat
