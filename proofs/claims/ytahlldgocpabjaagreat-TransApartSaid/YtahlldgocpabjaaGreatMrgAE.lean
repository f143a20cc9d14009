import Derived.Test.YtahlldgocpabjaaGreatMrgAD
import Derived.Test.YtahlldgocpabjaaGreatMrgL
import Derived.Test.YtahlldgocpabjaaGreatMrgJ
import Derived.Test.YtahlldgocpabjaaGreatMrgY
import Derived.Test.YtahlldgocpabjaaGreatMrgAB
import Derived.Test.YtahlldgocpabjaaGreatMrgX
import Derived.Test.YtahlldgocpabjaaGreatMrgAC
set_option maxRecDepth 100000
set_option maxHeartbeats 8000000
set_option linter.unusedVariables false
set_option linter.unusedSimpArgs false
namespace Go.Proofs.YtahlldgocpabjaaGreat
open Go Go.RowKit Copyhold Go.Proofs.Tryz
theorem Qvl (f:Fsy) (c:Cal) (okf:OkF f) (okc:OkCal c) (hp:Qal f):Qaj prog 53 [.agg (fsyA f),.agg (calA c)] (.sl 1 false ((Qam f c).map intA)):=by
 have hl:=hp.1;have hr:=Qae hp;have hcn:=okc.name;have hcn2:=okc.name2;have hct:=okc.text;exact Qad func53 (
 .new fun b1=>.new fun b2=>.r 1<|.u 3 [b2]<|
 .br 16 (c.kind==15) (fun q1=>have p1:=beqT q1;.r 2<|.f (.sl 1 false ((Qam f c).map intA)) [] (.sl 1 true ([[aI 0]])) (by
  rw [show Qam f c=_ from if_pos (by omega)];exact Sub.loose _ _ _))
 <| fun q1=>have p1:=beqF q1;.u 4 [b2,b2]<|
 .litN fun V1=>.r 1<|.u 7 [b2,b2]<|
 let L1:Lp (Nat × Value):=⟨fun a1=>⟨[(2,.ptr 2 b1 0),(3,.ptr 3 b2 0),(29,aI (a1.1:Int)),(27,.sl 1 false ([c.ino,c.to].map intA)),(28,aI 2),(5,.rw 22 a1.2 ((lk0 f c ([c.ino,c.to].take a1.1)).length))],[(2,.box b1 28 (fsyA f)),(3,.box b2 33 (calA c)),(22,.row a1.2 3 1 ((lk0 f c ([c.ino,c.to].take a1.1)).map intA))]⟩,fun a1=>2-a1.1,fun a1=>a1.1≤2⟩
 .lp L1 (0,V1) (show 0≤2 from (by show 0≤2;omega)) [(29,aI 0),(27,.sl 1 true ([[aI c.ino],[aI c.to]])),(28,aI (([[aI c.ino],[aI c.to]]).length:Int)),(5,.rw 22 V1 2)] [(22,.row V1 3 1 ([[aI c.ino],[aI c.to]]))] ⟨sR,sR,sO,(Qph _ _),sR,sR,trivial⟩ ⟨sB,sB,⟨_,rfl,SubB.of_eq rfl⟩,trivial⟩ fun a1 ha1=>
 (fun (k:Nat) (V:Value) (hH1:k≤2)=>have hk0:=Qvo f c ([c.ino,c.to].take k) [c.ino,c.to];have hk1:(lk0 f c ([c.ino,c.to].take k)).length≤6:=(by have h2:([c.ino,c.to].take k).length≤2:=(by rw [List.length_take];simp only [List.length_cons,List.length_nil];omega);have h3:=hk0.2;unfold lk0;simp only [List.length_cons,List.length_nil] at h3;omega);.r 1<|.br 30 (decide ((k:Int)<2)) (fun q2=>have p2:=decT q2;.idxM ([c.ino,c.to]) intA k (m:=(k:Int)) rfl (by simp only [List.length_cons,List.length_nil];omega) fun x1 hx1=>
 .r 2<|.u 2 [b1]<|
 .call (Qin f x1 hp)<|
 .r 3<|.new fun b3=>.u 2 [b3]<|
 .r 2<|.br 40 ((dirE f x1) != 0) (fun q3=>have p3:=bneT q3;.run 2 [rng .i64 ((k:Int)+1)] ⟨Qaq (by omega) (by omega),trivial⟩<|
 .bk L1 (k,V) ((k+1),V) (show (k+1)≤2 from (by show _≤2;omega)) (show 2-(k+1)<2-k from (by omega)) [(29,aI ((k:Int)+1)),(5,.rw 22 V ((lk0 f c ([c.ino,c.to].take k)).length))] [(22,.row V 3 1 ((lk0 f c ([c.ino,c.to].take k)).map intA))] ⟨sR,sR,sO,sR,sR,Sub.of_eq (congrArg (AV.rw 22 V) (by rw [show lk0 f c ([c.ino,c.to].take (k+1))=lk0 f c ([c.ino,c.to].take k) from by rw [Qmf hx1];unfold lk1;rw [if_neg (bneT q3)]])),trivial⟩ ⟨sB,sB,⟨_,rfl,SubB.of_eq (by rw [show lk0 f c ([c.ino,c.to].take (k+1))=lk0 f c ([c.ino,c.to].take k) from by rw [Qmf hx1];unfold lk1;rw [if_neg (bneT q3)]])⟩,trivial⟩)
 <| fun q3=>have p3:=bneF q3;.u 7 [b2,b2]<|
 let L2:Lp (Nat × Value):=⟨fun a2=>⟨[(2,.ptr 2 b1 0),(3,.ptr 3 b2 0),(29,aI (k:Int)),(27,.sl 1 false ([c.ino,c.to].map intA)),(28,aI 2),(8,.ptr 8 b3 0),(47,aI (a2.1:Int)),(45,.sl 1 false ([c.name,c.name2].map txA)),(46,aI 2),(5,.rw 22 a2.2 ((lk2 (dirN f x1).l ([c.name,c.name2].take a2.1) (lk0 f c ([c.ino,c.to].take k))).length))],[(2,.box b1 28 (fsyA f)),(3,.box b2 33 (calA c)),(8,.box b3 84 [aI ((dirN f x1).ino),aI ((dirN f x1).kind),aI ((dirN f x1).links),aS ((dirN f x1).text),.sl 2 false ((dirN f x1).l.map entA)]),(22,.row a2.2 3 1 ((lk2 (dirN f x1).l ([c.name,c.name2].take a2.1) (lk0 f c ([c.ino,c.to].take k))).map intA))]⟩,fun a2=>2-a2.1,fun a2=>a2.1≤2⟩
 .lp L2 (0,V) (show 0≤2 from (by show 0≤2;omega)) [(47,aI 0),(45,.sl 1 true ([[aS c.name],[aS c.name2]])),(46,aI (([[aS c.name],[aS c.name2]]).length:Int)),(5,.rw 22 V ((lk0 f c ([c.ino,c.to].take k)).length))] [(22,.row V 3 1 ((lk0 f c ([c.ino,c.to].take k)).map intA))] ⟨sR,sR,sR,sR,sR,sR,sO,(Zaj _ _),sR,sR,trivial⟩ ⟨sB,sB,sB,⟨_,rfl,SubB.of_eq rfl⟩,trivial⟩ fun a2 ha2=>
 (fun (j:Nat) (Y:Value) (hH2:j≤2)=>have hj0:=(Qvn (dirN f x1).l ([c.name,c.name2].take j) (lk0 f c ([c.ino,c.to].take k))).2;have hj1:([c.name,c.name2].take j).length≤2:=(by rw [List.length_take];simp only [List.length_cons,List.length_nil];omega);.r 1<|.br 48 (decide ((j:Int)<2)) (fun q4=>have p4:=decT q4;.idxM ([c.name,c.name2]) txA j (m:=(j:Int)) rfl (by simp only [List.length_cons,List.length_nil];omega) fun x2 hx2=>
 have nlx2:x2.length≤1000000:=(by have h9:=List.mem_of_getElem? hx2;simp only [List.mem_cons,List.not_mem_nil,or_false] at h9;rcases h9 with e | e<;>rw [e]<;>assumption);.r 2<|.u 3 [b3]<|
 .call (Qf8 ((dirN f x1).l) x2 (by have:=(Qdi hp x1).2;omega) (Qdi hp x1).1)<|
 .r 5<|.r 1<|.br 58 (isB ((dirN f x1).l) x2) (fun q5=>have p5:=booT q5;.r 3<|.app 8 Y ((lk2 (dirN f x1).l ([c.name,c.name2].take j) (lk0 f c ([c.ino,c.to].take k))).map intA) ([[aI (getI ((dirN f x1).l) x2)]]) (by simp only [List.length_map,List.length_cons,List.length_nil];omega) (by simp only [List.length_map,List.length_cons,List.length_nil];omega) fun V2=>
 .r 1<|.run 2 [rng .i64 ((j:Int)+1)] ⟨Qaq (by omega) (by omega),trivial⟩<|
 .bk L2 (j,Y) ((j+1),V2) (show (j+1)≤2 from (by show _≤2;omega)) (show 2-(j+1)<2-j from (by omega)) [(47,aI ((j:Int)+1)),(5,.rw 22 V2 (((lk2 (dirN f x1).l ([c.name,c.name2].take j) (lk0 f c ([c.ino,c.to].take k))).map intA).length+([[aI (getI ((dirN f x1).l) x2)]]:List (List AV)).length))] [(22,.row V2 3 1 (((lk2 (dirN f x1).l ([c.name,c.name2].take j) (lk0 f c ([c.ino,c.to].take k))).map intA)++([[aI (getI ((dirN f x1).l) x2)]])))] ⟨sR,sR,sR,sR,sR,sR,sO,sR,sR,Sub.of_eq (congrArg (AV.rw 22 V2) (by rw [Zdw hx2 q5];simp)),trivial⟩ ⟨sB,sB,sB,⟨_,rfl,SubB.of_eq (by rw [Zdw hx2 q5];simp [intA])⟩,trivial⟩)
 <| fun q5=>have p5:=booF q5;.run 2 [rng .i64 ((j:Int)+1)] ⟨Qaq (by omega) (by omega),trivial⟩<|
 .bk L2 (j,Y) ((j+1),Y) (show (j+1)≤2 from (by show _≤2;omega)) (show 2-(j+1)<2-j from (by omega)) [(47,aI ((j:Int)+1)),(5,.rw 22 Y ((lk2 (dirN f x1).l ([c.name,c.name2].take j) (lk0 f c ([c.ino,c.to].take k))).length))] [(22,.row Y 3 1 ((lk2 (dirN f x1).l ([c.name,c.name2].take j) (lk0 f c ([c.ino,c.to].take k))).map intA))] ⟨sR,sR,sR,sR,sR,sR,sO,sR,sR,Sub.of_eq (congrArg (AV.rw 22 Y) (by rw [Zj6 hx2 q5])),trivial⟩ ⟨sB,sB,sB,⟨_,rfl,SubB.of_eq (by rw [Zj6 hx2 q5])⟩,trivial⟩)
 <| fun q4=>have p4:=decF q4;.run 2 [rng .i64 ((k:Int)+1)] ⟨Qaq (by omega) (by omega),trivial⟩<|
 .bk L1 (k,V) ((k+1),Y) (show (k+1)≤2 from (by show _≤2;omega)) (show 2-(k+1)<2-k from (by omega)) [(29,aI ((k:Int)+1)),(5,.rw 22 Y ((lk2 (dirN f x1).l ([c.name,c.name2].take j) (lk0 f c ([c.ino,c.to].take k))).length))] [(22,.row Y 3 1 ((lk2 (dirN f x1).l ([c.name,c.name2].take j) (lk0 f c ([c.ino,c.to].take k))).map intA))] ⟨sR,sR,sO,sR,sR,Sub.of_eq (congrArg (AV.rw 22 Y) (by rw [show lk0 f c ([c.ino,c.to].take (k+1))=lk2 (dirN f x1).l ([c.name,c.name2].take j) (lk0 f c ([c.ino,c.to].take k)) from by rw [Qmf hx1];unfold lk1;rw [if_pos (bneF q3),show j=2 from by omega];rfl])),trivial⟩ ⟨sB,sB,⟨_,rfl,SubB.of_eq (by rw [show lk0 f c ([c.ino,c.to].take (k+1))=lk2 (dirN f x1).l ([c.name,c.name2].take j) (lk0 f c ([c.ino,c.to].take k)) from by rw [Qmf hx1];unfold lk1;rw [if_pos (bneF q3),show j=2 from by omega];rfl])⟩,trivial⟩) a2.1 a2.2 ha2)
 <| fun q2=>have p2:=decF q2;.frz 22 [5,30] [] [V=V,(lk0 f c ([c.ino,c.to].take k)).length=((lk0 f c ([c.ino,c.to].take k)).map intA).length] ⟨rfl,(by first | rfl | (simp;done) | (simp;omega)),trivial⟩<|
 .r 1<|.cs (args0:=[.sl 1 false ((lk0 f c ([c.ino,c.to].take k)).map intA)]) (Qly (Qe8 f c) (by have:=Qnh f c;omega) (by have:=Qnh f c;omega)) ⟨Sub.of_eq (congrArg (AV.sl 1 false) (by rw [show k=2 from by omega];rfl)),trivial⟩<|
 .r 1<|.f (.sl 1 false ((Qam f c).map intA)) [] (.sl 1 false ((Qda (Qe8 f c)).map intA)) (by
  rw [show Qam f c=_ from if_neg (by omega)];exact sR)) a1.1 a1.2 ha1)
structure Chg where
 ino:Int
 gone:Bool
 n:Nod
 deriving DecidableEq
def chgA (c:Chg):List AV:=[aI c.ino,aB c.gone,aI c.n.ino,aI c.n.kind,aI c.n.links,aS c.n.text,.sl 2 false (c.n.l.map entA)]
def chgR (c:Chg):List AV:=[aI c.ino,aB c.gone,aI c.n.ino,aI c.n.kind,aI c.n.links,aS c.n.text,bif c.gone then aN else .sl 2 false (c.n.l.map entA)]
theorem Zmy {l:List Chg} {t:Bool} (h:∀ c∈l,c.gone=true→c.n.l=[]):Sub (.sl 7 t (l.map chgR)) (.sl 7 false (l.map chgA)):=
 (Sub.sl2 (xs:=l.map chgR) (ys:=l.map chgA) (by simp) (fun i a b ha hb=>by
  rw [List.getElem?_map] at ha hb;cases hc:l[i]? with
  | none=>rw [hc] at ha;cases ha
  | some c=>
   rw [hc] at ha hb;obtain rfl:=Option.some.inj ha;obtain rfl:=Option.some.inj hb;refine ⟨sR,sR,sR,sR,sR,sR,?_,trivial⟩;cases hg:c.gone with
   | false=>exact sR
   | true=>
    rw [h c (List.mem_of_getElem? hc) hg];exact Sub.nil _ _)).trans (Sub.loose _ _ _)
def Qnd (l:List Int) (ns:List Nod):List Int:=ns.foldl (fun l n=>Qcw l n.ino) l
theorem Qme (l:List Int):∀ (ns:List Nod) ,(Qnd l ns).length≤l.length+ns.length:=by
 intro ns
 induction ns generalizing l with
 | nil=>exact Nat.le_refl _
 | cons n r ih=>
  have:=ih (Qcw l n.ino);have:=Qhz l n.ino;show (Qnd (Qcw l n.ino) r).length≤_;simp only [List.length_cons];omega
theorem Qng {x:Int}:∀ {ns:List Nod} {l:List Int},x∈Qnd l ns→x∈l∨∃ n∈ns,n.ino=x
 | [],l,h=>.inl h
 | n :: r,l,h=>by
  rcases Qng (ns:=r) (l:=Qcw l n.ino) h with h | ⟨m,hm,e⟩
  ·rcases Qhy.1 h with h | h
   ·exact .inr ⟨n,by simp,h.symm⟩
   ·exact .inl h
  ·exact .inr ⟨m,by simp [hm],e⟩
def Qcu (a b:Fsy):List Int:=Qnd (Qnd [] a.l) b.l
def chgD (a b:Fsy) (i:Int):Option Chg:=if Qau b i=false then some ⟨i,true,nod0⟩ else if Qau a i=false∨¬ Qaa a i=Qaa b i then some ⟨i,false,Qaa b i⟩ else none
def chgL (a b:Fsy) (k:Nat):List Chg:=((Qcu a b).take k).filterMap (chgD a b)
def Qbn (a b:Fsy):List Chg:=(Qcu a b).filterMap (chgD a b)
theorem Qip {a b:Fsy} {k:Nat} {i:Int} {c:Chg} (hx:(Qcu a b)[k]?=some i) (h:chgD a b i=some c):chgL a b (k+1)=chgL a b k++[c]:=by
 unfold chgL;rw [Qas hx,List.filterMap_append];simp [h]
theorem Zfx {a b:Fsy} {k:Nat} {i:Int} (hx:(Qcu a b)[k]?=some i) (h:chgD a b i=none):chgL a b (k+1)=chgL a b k:=by
 unfold chgL;rw [Qas hx,List.filterMap_append];simp [h]
theorem Qhr (a b:Fsy) (k:Nat):(chgL a b k).length≤k:=by
 have:=List.length_filterMap_le (chgD a b) ((Qcu a b).take k);rw [List.length_take] at this;unfold chgL;omega
theorem Zje {a b:Fsy} {k:Nat} (h:(Qcu a b).length≤k):chgL a b k=Qbn a b:=by unfold chgL;rw [Qa0 h];rfl
theorem Qtq {a b:Fsy}:∀ c∈Qbn a b,c.gone=true→c.n.l=[]:=fun c hc hg=>by
 obtain ⟨i,_,h⟩:=List.mem_filterMap.1 hc;unfold chgD at h
 split at h
 ·obtain rfl:=Option.some.inj h;rfl
 ·split at h
  ·obtain rfl:=Option.some.inj h;cases hg
  ·cases h
theorem Qnb {x:Int}:∀ {ns:List Nod} {l:List Int},x∈Qnd l ns↔x∈l∨x∈ns.map Nod.ino
 | [],l=>by simp [Qnd]
 | n :: r,l=>by
  show x∈Qnd (Qcw l n.ino) r↔_;rw [Qnb,Qhy,List.map_cons,List.mem_cons];constructor
  ·rintro ((h | h) | h)
   ·exact .inr (.inl h)
   ·exact .inl h
   ·exact .inr (.inr h)
  ·rintro (h | h | h)
   ·exact .inl (.inr h)
   ·exact .inl (.inl h)
   ·exact .inr h
theorem Qnc:∀ {ns:List Nod} {l:List Int},Asc l→Asc (Qnd l ns)
 | [],_,h=>h
 | n :: r,l,h=>Qnc (ns:=r) (Qjg h n.ino)
theorem Qt7 (f g:Fsy):Asc (Qcu f g):=Qnc (Qnc List.Pairwise.nil)
theorem Qhv {f g:Fsy} {x:Int}:x∈Qcu f g↔x∈f.l.map Nod.ino∨x∈g.l.map Nod.ino:=by
 unfold Qcu;rw [Qnb,Qnb];simp
theorem Zjr (f g:Fsy):Qda ((f.l++g.l).map Nod.ino)=Qcu f g:=Qlm (Qf0 _) (Qt7 f g) fun x=>by
 rw [Qel,Qhv,List.map_append,List.mem_append]
theorem Qpc {f:Fsy} {x:Int}:x∈f.l.map Nod.ino↔∃ n,atF f x=some n:=by
 constructor
 ·intro h;obtain ⟨n,hn,rfl⟩:=List.mem_map.1 h;cases hc:atF f n.ino with
  | some m=>exact ⟨m,rfl⟩
  | none=>
   have:=List.find?_eq_none.1 hc n hn;simp [isNo] at this
 ·rintro ⟨n,hn⟩;exact List.mem_map.2 ⟨n,Qc7 hn,Qct hn⟩
theorem no_mem {f g:Fsy} {x:Int} (h:¬ x∈Qcu f g):atF f x=none∧atF g x=none:=by
 rw [Qhv,Qpc,Qpc] at h;constructor
 ·cases hc:atF f x with
  | none=>rfl
  | some n=>exact absurd (.inl ⟨n,hc⟩) h
 ·cases hc:atF g x with
  | none=>rfl
  | some n=>exact absurd (.inr ⟨n,hc⟩) h
theorem Qyq {f g:Fsy} {i:Int}:chgD f g i=none↔(∃ n,atF g i=some n∧atF f i=some n):=by
 unfold chgD;rw [at_B,at_B,at_N,at_N];cases hg:atF g i with
 | none=>simp
 | some n=>
  cases hf:atF f i with
  | none=>simp
  | some m=>simp
theorem Qge {f g:Fsy} {i:Int} {c:Chg} (h:chgD f g i=some c):c.ino=i∧((c.gone=true∧atF g i=none)∨(c.gone=false∧atF g i=some c.n)):=by
 unfold chgD at h;rw [at_B,at_B] at h;cases hg:atF g i with
 | none=>
  rw [hg] at h;simp at h;subst h;exact ⟨rfl,.inl ⟨rfl,rfl⟩⟩
 | some n=>
  rw [hg] at h;have hn:Qaa g i=n:=by rw [at_N,hg];rfl
  simp only [Option.isSome_some,Bool.true_eq_false,if_false] at h
  split at h
  ·obtain rfl:=Option.some.inj h;exact ⟨rfl,.inr ⟨rfl,by rw [hn]⟩⟩
  ·cases h
theorem Zau {f g:Fsy} {c:Chg} (h:c∈Qbn f g):¬ atF f c.ino=atF g c.ino:=by
 obtain ⟨i,hi,hc⟩:=List.mem_filterMap.1 h;obtain ⟨e,_⟩:=Qge hc;rw [e];intro he;cases hg:atF g i with
 | none=>
  rcases Qhv.1 hi with h1 | h1
  ·obtain ⟨n,hn⟩:=Qpc.1 h1;rw [he,hg] at hn;cases hn
  ·obtain ⟨n,hn⟩:=Qpc.1 h1;rw [hg] at hn;cases hn
 | some n=>
  have:=Qyq.2 ⟨n,hg,he.trans hg⟩;rw [this] at hc;cases hc
def maxD (a b:Int):Int:=if b>a then b else a
structure ApOk (c:Chg):Prop where
 no:c.n.ino<1152921504606846977
 node:OkN c.n
theorem Qgw (f g:Fsy):(Qbn f g).length≤f.l.length+g.l.length:=by
 have h1:=List.length_filterMap_le (chgD f g) (Qcu f g);have h2:=Qme [] f.l;have h3:=Qme (Qnd [] f.l) g.l;unfold Qbn;unfold Qcu at h1 ⊢;simp at h2;omega
theorem Qtn (a b:List Nod) (h:a.length+b.length≤100000):Qaj prog 108 [.sl 1 false ([a.map nodA,b.map nodA].map pc5)] (.sl 5 false ((a++b).map nodA)):=by
 have:=Qgu [a.map nodA,b.map nodA] (by simp) (by simp;omega);rw [List.map_append];simpa using this
theorem Qtd (f g:Fsy) (h:f.l.length+g.l.length≤100000):Qaj prog 97 [.sl 1 false (((f.l++g.l).map Nod.ino).map intA)] (.sl 1 false ((Qcu f g).map intA)):=by
 rw [← Zjr];exact Qte _ (by simp;omega)
theorem Qqm (f g:Fsy) (okf:OkF f) (okg:OkF g) (hf:f.l.length≤1000) (hg:g.l.length≤1000) (hr:Qbu f.l) (hrg:Qbu g.l):Qaj prog 59 [.agg (fsyA f),.agg (fsyA g)] (.sl 7 false ((Qbn f g).map chgA)):=by
 have hal:(Qcu f g).length≤f.l.length+g.l.length:=by have h1:=Qme [] f.l;have h2:=Qme (Qnd [] f.l) g.l;unfold Qcu;simp at h1;omega
 exact Qad func59 (
 .new fun b1=>.new fun b2=>.r 1<|.r 1<|.rowNil 5 5 3 1<|.u 5 [b1,b2]<|
 .cs (args0:=[.sl 1 true ([[.sl 5 false (f.l.map nodA)],[.sl 5 false (g.l.map nodA)]])]) (Qtn f.l g.l (by omega)) ⟨pcs2 _ _,trivial⟩<|
 .r 1<|.lm 21 (f.l++g.l) nodA<|.r 1<|let L1:Lp (Nat × Value):=⟨fun a1=>⟨[(2,.ptr 2 b1 0),(3,.ptr 3 b2 0),(22,aI (a1.1:Int)),(5,.rw 5 a1.2 ((((f.l++g.l).take a1.1).map Nod.ino).length)),(20,.sl 5 false ((f.l++g.l).map nodA)),(21,aI ((f.l++g.l).length:Int))],[(2,.box b1 28 (fsyA f)),(3,.box b2 28 (fsyA g)),(5,.row a1.2 3 1 ((((f.l++g.l).take a1.1).map Nod.ino).map intA))]⟩,fun a1=>(f.l++g.l).length-a1.1,fun a1=>a1.1≤(f.l++g.l).length⟩
 .lp L1 (0,.slice none 0 0) (show 0≤(f.l++g.l).length from Nat.zero_le _) [(22,aI 0),(5,.rw 5 (.slice none 0 0) 0)] [(5,.row (.slice none 0 0) 3 1 ([]))] ⟨sR,sR,sO,sR,sR,sR,trivial⟩ bb3 fun a1 ha1=>
 (fun (k:Nat) (V:Value) (hH1:k≤(f.l++g.l).length)=>have hfg:(f.l++g.l).length=f.l.length+g.l.length:=List.length_append;.r 1<|.bd 23 ((k:Int)<((f.l++g.l).length:Int)) (fun p1=>.idxM (f.l++g.l) nodA k (m:=(k:Int)) rfl (by omega) fun x1 hx1=>
 .r 1<|.new fun b3=>.u 1 [b3]<|
 .u 4 [b3]<|
 .app 8 V ((((f.l++g.l).take k).map Nod.ino).map intA) ([[aI x1.ino]]) (by first | (have:=Qhr f g m;simp only [List.length_map,List.length_cons,List.length_nil];omega) | (simp only [List.length_map,List.length_cons,List.length_nil,List.length_take,List.length_append];omega)) (by first | (have:=Qhr f g m;simp only [List.length_map,List.length_cons,List.length_nil];omega) | (simp only [List.length_map,List.length_cons,List.length_nil,List.length_take,List.length_append];omega)) fun V1=>
 .r 1<|.run 2 [rng .i64 ((k:Int)+1)] ⟨Qaq (by omega) (by omega),trivial⟩<|
 .bk L1 (k,V) ((k+1),V1) (show (k+1)≤(f.l++g.l).length from (by show _≤_;omega)) (show (f.l++g.l).length-(k+1)<(f.l++g.l).length-k from (by omega)) [(22,aI ((k:Int)+1)),(5,.rw 5 V1 (((((f.l++g.l).take k).map Nod.ino).map intA).length+([[aI x1.ino]]:List (List AV)).length))] [(5,.row V1 3 1 (((((f.l++g.l).take k).map Nod.ino).map intA)++([[aI x1.ino]])))] ⟨sR,sR,sO,Sub.of_eq (congrArg (AV.rw 5 V1) (by rw [Qas hx1];simp)),sR,sR,trivial⟩ ⟨sB,sB,⟨_,rfl,SubB.of_eq (by rw [Qas hx1];simp [intA])⟩,trivial⟩)
 <| fun p1=>.r 1<|.frz 5 [2,3,5,8,23] [2,3] [V=V,(((f.l++g.l).take k).map Nod.ino).length=((((f.l++g.l).take k).map Nod.ino).map intA).length] ⟨rfl,(by first | rfl | (simp;done) | (simp;omega)),trivial⟩<|
 .rowNil 8 8 152 7<|.r 1<|.cs (args0:=[.sl 1 false ((((f.l++g.l).take k).map Nod.ino).map intA)]) (Qtd f g (by omega)) ⟨Sub.of_eq (by rw [Qa0 (by omega)]),trivial⟩<|
 .r 1<|.lm 34 (Qcu f g) intA<|.r 1<|let L2:Lp (Nat × Value):=⟨fun a2=>⟨[(2,.ptr 2 b1 0),(3,.ptr 3 b2 0),(34,aI ((Qcu f g).length:Int)),(35,aI (a2.1:Int)),(8,.rw 8 a2.2 ((chgL f g a2.1).length)),(33,.sl 1 false ((Qcu f g).map intA))],[(2,.box b1 28 (fsyA f)),(3,.box b2 28 (fsyA g)),(8,.row a2.2 152 7 ((chgL f g a2.1).map chgR))]⟩,fun a2=>(Qcu f g).length-a2.1,fun a2=>a2.1≤(Qcu f g).length⟩
 .lp L2 (0,.slice none 0 0) (show 0≤(Qcu f g).length from Nat.zero_le _) [(35,aI 0),(8,.rw 8 (.slice none 0 0) 0)] [(8,.row (.slice none 0 0) 152 7 ([]))] ⟨sR,sR,sR,sO,sR,sR,trivial⟩ bb3 fun a2 ha2=>
 (fun (m:Nat) (V:Value) (hH2:m≤(Qcu f g).length)=>.r 1<|.bd 36 ((m:Int)<((Qcu f g).length:Int)) (fun p2=>.idxM (Qcu f g) intA m (m:=(m:Int)) rfl (by omega) fun x2 hx2=>
 .r 2<|.u 2 [b1]<|
 .call (Qcg f x2 (by omega) hr)<|
 .r 3<|.new fun b4=>.u 2 [b4]<|
 .u 2 [b2]<|
 .call (Qcg g x2 (by omega) hrg)<|
 .r 3<|.new fun b5=>.u 2 [b5]<|
 .r 3<|.br 51 (!(Qau g x2)) (fun q3=>have q3:=notT q3;have p3:=booF q3;.r 4<|.app 80 V ((chgL f g m).map chgR) ([[aI x2,aB true,aI 0,aI 0,aI 0,aS ([]),aN]]) (by first | (have:=Qhr f g m;simp only [List.length_map,List.length_cons,List.length_nil];omega) | (simp only [List.length_map,List.length_cons,List.length_nil,List.length_take,List.length_append];omega)) (by first | (have:=Qhr f g m;simp only [List.length_map,List.length_cons,List.length_nil];omega) | (simp only [List.length_map,List.length_cons,List.length_nil,List.length_take,List.length_append];omega)) fun V2=>
 .r 1<|.run 2 [rng .i64 ((m:Int)+1)] ⟨Qaq (by omega) (by omega),trivial⟩<|
 .bk L2 (m,V) ((m+1),V2) (show (m+1)≤(Qcu f g).length from (by show _≤_;omega)) (show (Qcu f g).length-(m+1)<(Qcu f g).length-m from (by omega)) [(35,aI ((m:Int)+1)),(8,.rw 8 V2 (((chgL f g m).map chgR).length+([[aI x2,aB true,aI 0,aI 0,aI 0,aS ([]),aN]]:List (List AV)).length))] [(8,.row V2 152 7 (((chgL f g m).map chgR)++([[aI x2,aB true,aI 0,aI 0,aI 0,aS ([]),aN]])))] ⟨sR,sR,sR,sO,Sub.of_eq (congrArg (AV.rw 8 V2) (by rw [Qip hx2 (show chgD f g x2=some ⟨x2,true,nod0⟩ from by unfold chgD;rw [if_pos q3])];simp)),sR,trivial⟩ ⟨sB,sB,⟨_,rfl,SubB.of_eq (by rw [Qip hx2 (show chgD f g x2=some ⟨x2,true,nod0⟩ from by unfold chgD;rw [if_pos q3])];simp [chgR,nod0])⟩,trivial⟩)
 <| fun q3=>have q3:=notF q3;have p3:=booT q3;.r 3<|.br 62 (!(Qau f x2)) (fun q4=>have q4:=notT q4;have p4:=booF q4;.r 6<|.u 5 [b5]<|
 .app 80 V ((chgL f g m).map chgR) ([[aI x2,aB false,aI ((Qaa g x2).ino),aI ((Qaa g x2).kind),aI ((Qaa g x2).links),aS ((Qaa g x2).text),.sl 2 false ((Qaa g x2).l.map entA)]]) (by first | (have:=Qhr f g m;simp only [List.length_map,List.length_cons,List.length_nil];omega) | (simp only [List.length_map,List.length_cons,List.length_nil,List.length_take,List.length_append];omega)) (by first | (have:=Qhr f g m;simp only [List.length_map,List.length_cons,List.length_nil];omega) | (simp only [List.length_map,List.length_cons,List.length_nil,List.length_take,List.length_append];omega)) fun V3=>
 .r 1<|.run 2 [rng .i64 ((m:Int)+1)] ⟨Qaq (by omega) (by omega),trivial⟩<|
 .bk L2 (m,V) ((m+1),V3) (show (m+1)≤(Qcu f g).length from (by show _≤_;omega)) (show (Qcu f g).length-(m+1)<(Qcu f g).length-m from (by omega)) [(35,aI ((m:Int)+1)),(8,.rw 8 V3 (((chgL f g m).map chgR).length+([[aI x2,aB false,aI ((Qaa g x2).ino),aI ((Qaa g x2).kind),aI ((Qaa g x2).links),aS ((Qaa g x2).text),.sl 2 false ((Qaa g x2).l.map entA)]]:List (List AV)).length))] [(8,.row V3 152 7 (((chgL f g m).map chgR)++([[aI x2,aB false,aI ((Qaa g x2).ino),aI ((Qaa g x2).kind),aI ((Qaa g x2).links),aS ((Qaa g x2).text),.sl 2 false ((Qaa g x2).l.map entA)]])))] ⟨sR,sR,sR,sO,Sub.of_eq (congrArg (AV.rw 8 V3) (by rw [Qip hx2 (show chgD f g x2=some ⟨x2,false,Qaa g x2⟩ from by unfold chgD;rw [if_neg (by simp [q3]),if_pos (.inl q4)])];simp)),sR,trivial⟩ ⟨sB,sB,⟨_,rfl,SubB.of_eq (by rw [Qip hx2 (show chgD f g x2=some ⟨x2,false,Qaa g x2⟩ from by unfold chgD;rw [if_neg (by simp [q3]),if_pos (.inl q4)])];simp [chgR])⟩,trivial⟩)
 <| fun q4=>have q4:=notF q4;have p4:=booT q4;.u 2 [b4,b5]<|
 .call (Qo7 (Qaa f x2) (Qaa g x2) (Qgr okf _) (Qgr okg _))<|
 .r 3<|.br 59 (!(dP ((Qaa f x2)=(Qaa g x2)))) (fun q5=>have q5:=notT q5;have p5:=booF q5;.u 5 [b5]<|
 .app 80 V ((chgL f g m).map chgR) ([[aI x2,aB false,aI ((Qaa g x2).ino),aI ((Qaa g x2).kind),aI ((Qaa g x2).links),aS ((Qaa g x2).text),.sl 2 false ((Qaa g x2).l.map entA)]]) (by first | (have:=Qhr f g m;simp only [List.length_map,List.length_cons,List.length_nil];omega) | (simp only [List.length_map,List.length_cons,List.length_nil,List.length_take,List.length_append];omega)) (by first | (have:=Qhr f g m;simp only [List.length_map,List.length_cons,List.length_nil];omega) | (simp only [List.length_map,List.length_cons,List.length_nil,List.length_take,List.length_append];omega)) fun V4=>
 .r 1<|.run 2 [rng .i64 ((m:Int)+1)] ⟨Qaq (by omega) (by omega),trivial⟩<|
 .bk L2 (m,V) ((m+1),V4) (show (m+1)≤(Qcu f g).length from (by show _≤_;omega)) (show (Qcu f g).length-(m+1)<(Qcu f g).length-m from (by omega)) [(35,aI ((m:Int)+1)),(8,.rw 8 V4 (((chgL f g m).map chgR).length+([[aI x2,aB false,aI ((Qaa g x2).ino),aI ((Qaa g x2).kind),aI ((Qaa g x2).links),aS ((Qaa g x2).text),.sl 2 false ((Qaa g x2).l.map entA)]]:List (List AV)).length))] [(8,.row V4 152 7 (((chgL f g m).map chgR)++([[aI x2,aB false,aI ((Qaa g x2).ino),aI ((Qaa g x2).kind),aI ((Qaa g x2).links),aS ((Qaa g x2).text),.sl 2 false ((Qaa g x2).l.map entA)]])))] ⟨sR,sR,sR,sO,Sub.of_eq (congrArg (AV.rw 8 V4) (by rw [Qip hx2 (show chgD f g x2=some ⟨x2,false,Qaa g x2⟩ from by unfold chgD;rw [if_neg (by simp [q3]),if_pos (.inr (Qac.1 q5))])];simp)),sR,trivial⟩ ⟨sB,sB,⟨_,rfl,SubB.of_eq (by rw [Qip hx2 (show chgD f g x2=some ⟨x2,false,Qaa g x2⟩ from by unfold chgD;rw [if_neg (by simp [q3]),if_pos (.inr (Qac.1 q5))])];simp [chgR])⟩,trivial⟩)
 <| fun q5=>have q5:=notF q5;have p5:=booT q5;.run 2 [rng .i64 ((m:Int)+1)] ⟨Qaq (by omega) (by omega),trivial⟩<|
 .bk L2 (m,V) ((m+1),V) (show (m+1)≤(Qcu f g).length from (by show _≤_;omega)) (show (Qcu f g).length-(m+1)<(Qcu f g).length-m from (by omega)) [(35,aI ((m:Int)+1)),(8,.rw 8 V ((chgL f g m).length))] [(8,.row V 152 7 ((chgL f g m).map chgR))] ⟨sR,sR,sR,sO,Sub.of_eq (congrArg (AV.rw 8 V) (by rw [Zfx hx2 (show chgD f g x2=none from by unfold chgD;rw [if_neg (by simp [q3]),if_neg (fun h=>h.elim (fun h=>by rw [q4] at h;cases h) (fun h=>h (Qaw.1 q5)))])])),sR,trivial⟩ ⟨sB,sB,⟨_,rfl,SubB.of_eq (by rw [Zfx hx2 (show chgD f g x2=none from by unfold chgD;rw [if_neg (by simp [q3]),if_neg (fun h=>h.elim (fun h=>by rw [q4] at h;cases h) (fun h=>h (Qaw.1 q5)))])])⟩,trivial⟩)
 <| fun p2=>.r 2<|.frz 8 [4] [] [V=V,(chgL f g m).length=((chgL f g m).map chgR).length] ⟨rfl,(by first | rfl | (simp;done) | (simp;omega)),trivial⟩<|
 .f (.sl 7 false ((Qbn f g).map chgA)) [] (.sl 7 false ((chgL f g m).map chgR)) (by
  rw [Zje (by omega)];exact Zmy Qtq)) a2.1 a2.2 ha2) a1.1 a1.2 ha1)
end Go.Proofs.YtahlldgocpabjaaGreat

namespace Go.Proofs.YtahlldgocpabjaaGreat
open Go Go.RowKit Copyhold Go.Proofs.Tryz
open Copyhold.Name (Srt insE delE getE isAt)
theorem i0:I64 0:=⟨by decide,by decide⟩
theorem Qxt {k:Int} (h:0≤k) (h2:k≤1000000):I64 k:=⟨by omega,by omega⟩
def cA:Cal:=⟨6,1,0,0,0,[97],[],[]⟩
theorem cA_ok:OkCal cA:=⟨Qxt (by decide) (by decide),Qxt (by decide) (by decide),i0,i0,i0,by show 1≤_;omega,Nat.zero_le _,Nat.zero_le _⟩
noncomputable def fA:Fsy:=addF newF 1 [97] (addN newF Ql1)
theorem doA1:doF newF cA=(fA,⟨0,2,0,0,[],[]⟩):=by
 refine Qd3 (x:=(fA,⟨0,2,0,0,[],[]⟩)) ?_ rfl;rw [Qtk rfl];show addO newF cA Ql1=_;unfold addO;show ((if Qat newF 1 [97] Ql1=0 then _ else _),(⟨Qat newF 1 [97] Ql1,_,_,_,_,_⟩:Rep))=_;rw [Qlo,if_pos rfl];rfl
theorem Qij:Qal fA∧OkF fA∧fA.next=3∧(∃ d,atF fA 1=some d∧d.kind=2∧d.l=[⟨[97],2⟩])∧(fA.l.length:Int)=2:=by
 have hb:=Qpr Qe7 Qlo;have ho:=Zku (n:=Ql1) (s:=[97]) Qqp Qe7 Zil (by decide) Qlo (by decide);refine ⟨hb.1,ho,?_,?_,?_⟩
 ·obtain ⟨d,A⟩:=Qrm Qlo;have hr:=Qae Qe7;have hroot:atF newF 1=some Qiw:=rfl;unfold fA addF;rw [show (addN newF Ql1).ino=2 from rfl,Qd2 hroot];rw [Qm2]
  ·rw [show (setL newF Qiw (entL Qiw.l [97] 2)).next=2 from Qjt (by decide)];rfl
  ·rw [show (setL newF Qiw (entL Qiw.l [97] 2)).next=2 from Qjt (by decide)];rfl
 ·have hroot:atF newF 1=some Qiw:=rfl;have he:entE Qiw.l [97] 2=0:=Qdq Zmx (by decide) rfl (by decide);have hl:entL Qiw.l [97] 2=[⟨[97],2⟩]:=by unfold entL;rw [if_pos he];rfl
  have hk:rowP Qiw.l:=Qca;obtain ⟨s1,s2,s3,s4⟩:=Qe5 Qe7 hroot rfl (Qrb (n:=2) hk Zmx (by decide) rfl (by decide));refine ⟨Qbj Qiw (entL Qiw.l [97] 2),?_,rfl,hl⟩;unfold fA addF;rw [show (addN newF Ql1).ino=2 from rfl,Qd2 hroot,Qlz (Qae s1),if_neg (by decide),s4,if_pos rfl]
 ·have:=Zm4;rw [if_pos Qlo] at this;exact this
end Go.Proofs.YtahlldgocpabjaaGreat

namespace Go.Proofs.YtahlldgocpabjaaGreat
open Go Go.RowKit Copyhold Go.Proofs.Tryz
theorem Qla (f:Fsy) (c:Cal):(Qam f c).length≤6:=by
 unfold Qam
 split
 ·simp
 ·exact Nat.le_trans (Qjl _) (Qnh f c).2
theorem Qr8 {l:List Cal} (h:Qff l) {c:Cal} (hc:c∈l):c.name.length≤2000∧c.name2.length≤2000∧c.text.length≤2000:=by
 have h1:=h.1;have:txC c≤((l.take l.length).map txC).sum:=by rw [List.take_length];exact Qkw hc
 unfold smS at h1;have e:txC c=c.name.length+c.name2.length+c.text.length:=rfl;omega
end Go.Proofs.YtahlldgocpabjaaGreat

namespace Go.Proofs.YtahlldgocpabjaaGreat
open Go Go.RowKit Copyhold Go.Proofs.Tryz
section
variable {α:Type}
def cutV (f:α→Int) (st:Int):List α→Nat
 | []=>0
 | x :: r=>if cutV f st r=0 then (if f x≤st then 1 else 0) else cutV f st r+1
theorem Qgc (f:α→Int) (st:Int):∀ l:List α,cutV f st l≤l.length
 | []=>Nat.le_refl _
 | x :: r=>by
  have:=Qgc f st r;simp only [cutV,List.length_cons]
  split
  ·split<;>omega
  ·omega
theorem Qgd (f:α→Int) (st:Int):∀ (l:List α) (k:Nat),k≤l.length→(∀ j x,k≤j→l[j]?=some x→st<f x)→(k=0∨∃ x,l[k-1]?=some x∧f x≤st)→cutV f st l=k
 | [],k,hk,_,_=>by simp at hk;subst hk;rfl
 | x :: r,0,_,ha,_=>by
  have h1:=Qgd f st r 0 (Nat.zero_le _) (fun j y _ hy=>ha (j+1) y (Nat.zero_le _) (by simpa using hy)) (.inl rfl);have h2:=ha 0 x (Nat.zero_le _) rfl;simp only [cutV,h1,if_true];rw [if_neg (by omega)]
 | x :: r,k+1,hk,ha,he=>by
  simp only [List.length_cons] at hk;have ha':∀ j y,k≤j→r[j]?=some y→st<f y:=fun j y hj hy=>ha (j+1) y (by omega) (by simpa using hy);rcases he with he | ⟨y,hy,hle⟩
  ·omega
  ·cases k with
   | zero=>
    have h1:=Qgd f st r 0 (Nat.zero_le _) ha' (.inl rfl);simp at hy;subst hy;simp only [cutV,h1,if_true,if_pos hle]
   | succ k=>
    have h1:=Qgd f st r (k+1) (by omega) ha' (.inr ⟨y,by simpa using hy,hle⟩);simp only [cutV,h1];rfl
theorem Zg7 (f:α→Int) (st:Int) (l:List α):l.length≤l.length∧∀ j y,l.length≤j→l[j]?=some y→st<f y:=⟨Nat.le_refl _,fun j y hj hy=>by have:=Qap hy;omega⟩
theorem Zg6 {f:α→Int} {st:Int} {l:List α} {k:Nat} {x:α} (hx:l[k-1]?=some x) (hk:k≤l.length) (h:∀ j y,k≤j→l[j]?=some y→st<f y) (hg:st<f x):k-1≤l.length∧∀ j y,k-1≤j→l[j]?=some y→st<f y:=
 ⟨by omega,fun j y hj hy=>by
  by_cases e:j=k-1
  ·subst e;rw [hx] at hy;obtain rfl:=Option.some.inj hy;exact hg
  ·exact h j y (by omega) hy⟩
def atD (f:α→Int) (st:Int) (l:List α):Option α:=if cutV f st l=0 then none else l[cutV f st l-1]?
def Zbp (f:α→Int) (most:Int) (l:List α) (i:Nat) (x:α):Prop:=1≤f x∧f x≤most∧∀ d,0<i→l[i-1]?=some d→f d<f x
def Qok (f:α→Int) (most:Int) (l:List α):Prop:=1≤l.length∧AllQ (Zbp f most l) l
def Qrp (f:α→Int) (l:List α) (k:Nat) (last:Int):Prop:=(k=0∧last=0)∨∃ d,0<k∧l[k-1]?=some d∧last=f d∧1≤last
theorem Qrp.pos {f:α→Int} {l:List α} {k:Nat} {last:Int} (h:Qrp f l k last):0≤last:=by
 rcases h with ⟨_,h⟩ | ⟨d,_,_,_,h⟩<;>omega
theorem Qrp.step {f:α→Int} {l:List α} {k:Nat} {last:Int} {x:α} (h:Qrp f l k last) (hx:l[k]?=some x) (hgt:¬ f x≤last):Qrp f l (k+1) (f x):=
 .inr ⟨x,by omega,by simpa using hx,rfl,by have:=h.pos;omega⟩
theorem Qrp.lt {f:α→Int} {l:List α} {k:Nat} {last:Int} (h:Qrp f l k last) {v:Int} (hgt:¬ v≤last):1≤v∧∀ d,0<k→l[k-1]?=some d→f d<v:=by
 refine ⟨by have:=h.pos;omega,fun d h0 hd=>?_⟩;rcases h with ⟨h,_⟩ | ⟨e,_,he,h1,_⟩
 ·omega
 ·rw [hd] at he;obtain rfl:=Option.some.inj he;omega
theorem Qrp.not {f:α→Int} {l:List α} {k:Nat} {last:Int} (h:Qrp f l k last) {v:Int} (hle:v≤last):¬ (1≤v∧∀ d,0<k→l[k-1]?=some d→f d<v):=by
 rintro ⟨h1,h2⟩;rcases h with ⟨_,h⟩ | ⟨e,h0,he,h3,_⟩
 ·omega
 ·have:=h2 e h0 he;omega
end
def verP (ino:Int) (v:Ver):Prop:=(v.gone=true→v.n=nod0)∧(v.gone=false→nodP v.n∧v.n.ino=ino)
def Qpp (most:Int) (c:Chn):Prop:=1≤c.ino∧Qok Ver.stamp most c.l∧AllQ (fun _ v=>verP c.ino v) c.l
def Zmw (s:Sto) (i:Nat) (c:Chn):Prop:=Qpp s.stamp c∧∀ d,0<i→s.l[i-1]?=some d→d.ino<c.ino
def Qcc (s:Sto):Prop:=1≤s.stamp∧Qok Cnt.stamp s.stamp s.nexts∧AllQ (fun _ (c:Cnt)=>1≤c.next) s.nexts∧AllQ (Zmw s) s.l
def Qbs (st:Int) (c:Chn):Option Nod:=match atD Ver.stamp st c.l with
 | some v=>if v.gone then none else some v.n
 | none=>none
def Qe6 (s:Sto) (st:Int):Int:=match atD Cnt.stamp st s.nexts with
 | some c=>c.next
 | none=>1
def Qbq (s:Sto) (st:Int):Fsy:=⟨s.l.filterMap (Qbs st),Qe6 s st⟩
theorem Qeu {st:Int} {c:Chn} {v:Ver} (h0:¬ cutV Ver.stamp st c.l=0) (hv:c.l[cutV Ver.stamp st c.l-1]?=some v):Qbs st c=if v.gone then none else some v.n:=by
 unfold Qbs atD;rw [if_neg h0,hv]
theorem Qh0 {st:Int} {c:Chn} (h0:cutV Ver.stamp st c.l=0):Qbs st c=none:=by
 unfold Qbs atD;rw [if_pos h0]
theorem Qxf {s:Sto} {st:Int} {c:Cnt} (h0:¬ cutV Cnt.stamp st s.nexts=0) (hc:s.nexts[cutV Cnt.stamp st s.nexts-1]?=some c):Qe6 s st=c.next:=by
 unfold Qe6 atD;rw [if_neg h0,hc]
theorem Qo8 {s:Sto} {st:Int} (h0:cutV Cnt.stamp st s.nexts=0):Qe6 s st=1:=by
 unfold Qe6 atD;rw [if_pos h0]
def Qcn (s:Sto) (st:Int) (k:Nat):List Nod:=(s.l.take k).filterMap (Qbs st)
theorem Qjn {s:Sto} {st:Int} {k:Nat} {c:Chn} {n:Nod} (hc:s.l[k]?=some c) (h:Qbs st c=some n):Qcn s st (k+1)=Qcn s st k++[n]:=by
 unfold Qcn;rw [Qas hc,List.filterMap_append];simp [h]
theorem Qfg {s:Sto} {st:Int} {k:Nat} {c:Chn} (hc:s.l[k]?=some c) (h:Qbs st c=none):Qcn s st (k+1)=Qcn s st k:=by
 unfold Qcn;rw [Qas hc,List.filterMap_append];simp [h]
theorem Ql8 (s:Sto) (st:Int) (k:Nat):(Qcn s st k).length≤k:=by
 have:=List.length_filterMap_le (Qbs st) (s.l.take k);rw [List.length_take] at this;unfold Qcn;omega
theorem Qjo {s:Sto} {st:Int} {k:Nat} (h:s.l.length≤k):Qcn s st k=s.l.filterMap (Qbs st):=by unfold Qcn;rw [Qa0 h]
def Qi0 (st:Int) (c:Chn):Bool:=c.l.any fun v=>decide (v.stamp>st)
def Qb1 (s:Sto) (st:Int) (k:Nat):List Int:=((s.l.take k).filter (Qi0 st)).map Chn.ino
def Qz8 (s:Sto) (st:Int):Bool:=s.nexts.any fun c=>decide (c.stamp>st)
def Qcf (s:Sto) (st:Int):List Int:=if 1≤(Qb1 s st s.l.length).length∨Qz8 s st=true then 0 :: Qb1 s st s.l.length else []
theorem Qpf {s:Sto} {st:Int} {k:Nat} {c:Chn} (hc:s.l[k]?=some c) (h:Qi0 st c=true):Qb1 s st (k+1)=Qb1 s st k++[c.ino]:=by
 unfold Qb1;rw [Qas hc,List.filter_append,List.map_append];simp [h]
theorem Qs1 {s:Sto} {st:Int} {k:Nat} {c:Chn} (hc:s.l[k]?=some c) (h:Qi0 st c=false):Qb1 s st (k+1)=Qb1 s st k:=by
 unfold Qb1;rw [Qas hc,List.filter_append,List.map_append];simp [h]
theorem Qnn (s:Sto) (st:Int) (k:Nat):(Qb1 s st k).length≤k:=by
 have:=List.length_filter_le (Qi0 st) (s.l.take k);rw [List.length_take] at this;unfold Qb1;rw [List.length_map];omega
theorem Qlc {s:Sto} {st:Int} {k:Nat} (h:s.l.length≤k):Qb1 s st k=Qb1 s st s.l.length:=by unfold Qb1;rw [Qa0 h,Qa0 (Nat.le_refl _)]
section
variable {α:Type}
def idxF (p:α→Bool):List α→Int
 | []=>-1
 | x :: r=>if p x then 0 else if idxF p r<0 then -1 else idxF p r+1
theorem Qqz (p:α→Bool):∀ l:List α,decide (idxF p l≥0)=l.any p
 | []=>rfl
 | x :: r=>by
  have:=Qqz p r;simp only [idxF,List.any_cons,← this];by_cases hp:p x=true
  ·simp [hp]
  ·simp only [Bool.not_eq_true] at hp;simp only [hp,Bool.false_or,Bool.false_eq_true,if_false]
   split<;>simp<;>omega
theorem Qnv (p:α→Bool):∀ l:List α,AllQ (fun _ x=>p x=false) l→idxF p l = -1
 | [],_=>rfl
 | x :: r,h=>by
  have h1:=h 0 x rfl;have h2:=Qnv p r fun i e he=>h (i+1) e (by simpa using he);simp [idxF,h1,h2]
theorem Qvt (p:α→Bool):∀ (l:List α) (k:Nat) (x:α),Qa7 (fun _ x=>p x=false) l k→l[k]?=some x→p x=true→idxF p l=k
 | y :: r,0,x,_,hx,hp=>by
  simp at hx;subst hx;simp [idxF,hp]
 | y :: r,k+1,x,h,hx,hp=>by
  have h1:=h 0 y (by omega) rfl;have h2:=Qvt p r k x (fun i e hi he=>h (i+1) e (by omega) (by simpa using he)) (by simpa using hx) hp;simp [idxF,h1,h2];omega
end
end Go.Proofs.YtahlldgocpabjaaGreat
