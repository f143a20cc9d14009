import Derived.Test.YtkhodpknpligpaaGreatAl
import Derived.Test.YtkhodpknpligpaaGreatMrgM
import Derived.Test.YtkhodpknpligpaaGreatMrgL
import Derived.Test.YtkhodpknpligpaaGreatMrgG
set_option maxRecDepth 100000
set_option maxHeartbeats 8000000
set_option linter.unusedVariables false
set_option linter.unusedSimpArgs false
namespace Go.Proofs.YtkhodpknpligpaaGreat
open Go Go.RowKit Copyhold Copyhold.Name
abbrev NEnt:=Copyhold.Name.Ent
def entO (x:NEnt):Ent:=⟨x.1,x.2⟩
def lI (l:List Ent):List NEnt:=l.map fun e=>((e.name,e.ino):NEnt)
theorem lI_O (l:List Ent):(lI l).map entO=l:=by
 unfold lI;rw [List.map_map];have:(entO ∘ fun e:Ent=>((e.name,e.ino):NEnt))=id:=by funext e;rfl
 rw [this,List.map_id]
theorem Qkb {s:Txt}:okN s=true↔Qni s:=by
 simp only [okN,Qni,W0r,Bool.not_eq_true',W2m,beq_eq_false_iff_ne,ne_eq];constructor
 ·rintro ⟨⟨⟨⟨⟨h1,h2⟩,h3⟩,h4⟩,h5⟩,h6⟩;exact ⟨h1,h2,h3,h4,by simpa using h5,by simpa using h6⟩
 ·rintro ⟨h1,h2,h3,h4,h5,h6⟩;exact ⟨⟨⟨⟨⟨h1,h2⟩,h3⟩,h4⟩,by simpa using h5⟩,by simpa using h6⟩
theorem Qwg (l:List NEnt):rightE l=true↔rowP (l.map entO):=by
 simp only [rightE,rowP,W0r,W2m,W1z,List.mem_range,W0a];refine and_congr_right fun _=>⟨fun h i e he=>?_,fun h i hi=>?_⟩
 ·rw [W0v] at he;cases hx:l[i]? with
  | none=>rw [hx] at he;cases he
  | some x=>
   rw [hx] at he;obtain rfl:=W0c he;have:=h i (Qan hx);simp only [okAt,hx,W0r,okE,W2m] at this;refine ⟨Qkb.1 this.1.1,this.1.2,fun d h0 hd=>?_⟩;rw [W0v] at hd;cases hy:l[i-1]? with
   | none=>rw [hy] at hd;cases hd
   | some y=>
    rw [hy] at hd;obtain rfl:=W0c hd;have hu:=this.2;simp only [upAt,hy,W15,beq_iff_eq,W2m] at hu;show Op.bytesLess y.1 x.1=true;rw [Qp6];exact decide_eq_true (hu.resolve_left (by omega))
 ·have hx:=W0d hi;have:=h i (entO l[i]) (by rw [W0v,hx];rfl);simp only [okAt,hx,W0r,okE,W2m];refine ⟨⟨Qkb.2 this.1,this.2.1⟩,?_⟩;simp only [upAt,W15,beq_iff_eq];by_cases h0:i=0
  ·exact .inl h0
  ·have hy:=W0d (l:=l) (i:=i-1) (by omega);right;rw [hy];have h2:=this.2.2 (entO l[i-1]) (by omega) (by rw [W0v,hy];rfl);have h3:Op.bytesLess l[i-1].1 l[i].1=true:=h2;rw [Qp6] at h3;exact h3
theorem Zk1 {D:Nat→Prop} {w:World} {vals us:List Value} (hl:us.length=vals.length) (h:∀ (j:Nat) (a:AV) (u:Value),(vals.map AV.val)[j]?=some a→us[j]?=some u→Ra D w a u):us=vals:=by
 apply List.ext_getElem?;intro j;by_cases hj:j<vals.length
 ·have h1:=W0d hj;have h2:=W0d (l:=us) (i:=j) (by omega);have:=h j (.val vals[j]) us[j] (by rw [W0v,h1];rfl) h2;rw [h1,h2];generalize us[j]=u at this;cases this;rfl
 ·rw [W1h (by omega),W1h (by omega)]
theorem Zee (l:List Ent):(l.map entA).flatten=((l.map fun e=>((e.name,e.ino):NEnt)).flatMap Copyhold.Name.entC).map AV.val:=by
 induction l with
 | nil=>rfl
 | cons e r ih=>
  simp only [W1t,W1f,List.flatMap_cons,W1r,ih];rfl
theorem Qc4 {l:List Ent} (h:rowP l):Srt (lI l):=Zbu ((Qwg (lI l)).2 (by rw [lI_O];exact h))
def getI (l:List Ent) (s:Txt):Int:=(getE (lI l) s).getD 0
def isB (l:List Ent) (s:Txt):Bool:=isAt (lI l) s
theorem Zic {l:List Ent} {s:Txt} (h:isB l s=false):getI l s=0:=by
 unfold getI isB at *;unfold isAt at h;unfold getE;rw [W10.2 fun x hx=>by simpa using W2c.1 h x hx];rfl
theorem Qj9 {D:Nat→Prop} {w:World} {t:Bool} {l:List Ent} {v:Value} (h:Ra D w (.sl 2 t (l.map entA)) v):∃ A c,v=.slice A (lI l).length c∧Ents w v (lI l):=by
 obtain ⟨us,hsl,hus,hru⟩:=Qhb h;rw [Zee] at hru;have hsl0:=hsl;obtain ⟨A,cc,rfl,hc,hl,hh⟩:=hsl0;have hlen:∀ l:List NEnt,(l.flatMap Copyhold.Name.entC).length=l.length*2:=fun l=>by
  induction l with
  | nil=>rfl
  | cons y r ih=>simp only [List.flatMap_cons,W0e,ih,W0b];simp [Copyhold.Name.entC];omega
 have e:=Zk1 (by rw [hlen,hl];simp) hru;subst e;simp only [W0a] at hsl ⊢;have hn:(lI l).length=l.length:=by simp [lI]
 refine ⟨A,cc,by rw [hn],?_⟩;show Sl w 2 _ (lI l).length _;rw [hn];exact hsl
theorem Qlv (a b:Value) (D:Nat→Prop) (w:World):Ra D w (.tup [.val a,.val b]) (.tuple #[a,b]):=.tup _ _ rfl fun j x v hx hv=>by
 match j,hx,hv with
 | 0,hx,hv=>cases hx;cases hv;exact .val _
 | 1,hx,hv=>cases hx;cases hv;exact .val _
 | j+2,hx,_=>simp at hx
theorem Qdz {P:Program} {f:FuncId} {args:List AV} {r:AV} {v:Value} (hr:∀ D w,Ra D w r v) (h:∀ D w vs,Qc8 D w args vs→Calls P f vs w (fun e w'=>e=.returned v∧Below w.heap.size w w')):Qag P f args r:=fun D w vs hD hv=>
 (h D w vs hv).mono fun e w' ⟨h1,h2⟩=>⟨v,D,h1,h2,fun _ h=>h,fun b hb=>⟨W08 (hD b hb) h2.size,.inl hb⟩,hr D w'⟩
theorem Qfk (l:List Ent) (s:Txt) (hl:l.length≤1000000) (hr:Srt (lI l)):Qag Tryz.prog 282 [.sl 2 false (l.map entA),aS s] (.tup [aI (getI l s),aB (isB l s)]):=Qdz (Qlv _ _) fun D w vs h=>by
 obtain ⟨u,v,rfl,hu,hv⟩:=Qc8.two h;cases hv;obtain ⟨A,c,rfl,he⟩:=Qj9 hu;exact Zcu (lI l) s A c w he (by simp [lI];omega) hr
theorem Zgn {D:Nat→Prop} {w:World} {l:List Txt} {v:Value} (h:Row w v (l.map strV)) (hat:At D v):Ra D w (.sl 1 false (l.map txA)) v:=by
 rcases h with ⟨a,c,rfl,he⟩ | ⟨b,off,cap,rfl,h0,hc,hb,hcell⟩
 ·have:l=[]:=by simpa using he
  subst this;exact .sl 1 false [] a c 0 0 (fun _ _=>undef) (W0j _) (fun h=>by cases h) (fun h=>absurd h (by simp)) (fun i e h=>by simp at h) (fun i e j x h=>by simp at h) (fun i e j x h=>by simp at h)
 ·have key:∀ (i:Nat) (e:List AV) (j:Nat) (x:AV),(l.map txA)[i]?=some e→e[j]?=some x→∃ y,l[i]?=some y∧j=0∧x=aS y:=by
   intro i e j x he hx;rw [W0v] at he;cases hli:l[i]? with
   | none=>rw [hli] at he;cases he
   | some y=>
    rw [hli] at he;obtain rfl:=W0c he
    match j,hx with
    | 0,hx=>obtain rfl:=W0c hx;exact ⟨y,rfl,rfl,rfl⟩
    | j+1,hx=>simp [txA] at hx
  have:=Ra.sl (D:=D) (w:=w) 1 false (l.map txA) (some ⟨b,off,none⟩) cap b off (fun i _=>strV (l.getD i [])) (by simpa using hc) (fun h=>by cases h) (fun _=>⟨rfl,hat h0,hb⟩)
   (fun i e he=>by
    rw [W0v] at he;cases hli:l[i]? with
    | none=>rw [hli] at he;cases he
    | some y=>rw [hli] at he;obtain rfl:=W0c he;rfl)
   (fun i e j x he hx=>by
    obtain ⟨y,h1,rfl,rfl⟩:=key i e j x he hx;simp only [List.getD,h1,W2j];refine ⟨?_,rfl⟩;have:=hcell i (strV y) (by rw [W0v,h1];rfl);rw [show off+(i*1+0)=off+i from by omega];exact this)
   (fun i e j x he hx=>by
    obtain ⟨y,h1,rfl,rfl⟩:=key i e j x he hx;simp only [List.getD,h1,W2j];exact .val _)
  simp only [W0a] at this ⊢;exact this
theorem Zni {D1 D2 D3:Nat→Prop} {v:Value} (h1:At D1 v) (h2:At D2 v) (h:∀ b,D1 b→D2 b→D3 b):At D3 v:=by
 unfold At at h1 h2 ⊢
 split
 ·exact fun h0=>h _ (h1 h0) (h2 h0)
 ·trivial
end Go.Proofs.YtkhodpknpligpaaGreat

namespace Go.Proofs.YtkhodpknpligpaaGreat
open Go Go.RowKit Copyhold Go.Proofs.Tryz
def Qar (l:List Int):Int:=(l.find? fun z=>z != 0).getD 0
def Qae (b:Bool) (e:Int):Int:=if b then e else 0
theorem Zii {l:List Int} (h:AllQ (fun _ z=>(z != 0)=false) l):Qar l=0:=by
 unfold Qar;rw [W10.2 fun x hx=>by obtain ⟨j,hj⟩:=W0w hx;rw [h j x hj];simp];rfl
theorem Qxi:∀ {l:List Int} {k:Nat} {x:Int},Qaz (fun _ z=>(z != 0)=false) l k→l[k]?=some x→(x != 0)=true→Qar l=x
 | y :: r,0,x,_,hx,hp=>by simp at hx;subst hx;simp [Qar,hp]
 | y :: r,k+1,x,h,hx,hp=>by
  have h1:=h 0 y (by omega) rfl;have h2:=Qxi (l:=r) (k:=k) (fun j e hj he=>h (j+1) e (by omega) (by simpa using he)) (by simpa using hx) hp;unfold Qar at h2 ⊢;rw [W1e,h1];exact h2
theorem Qm9 {t:Bool} (a b c:Int):Sub (.sl 1 t [[aI a],[aI b],[aI c]]) (.sl 1 false ([a,b,c].map intA)):=W2p _ _ _
theorem Qoz {t:Bool} (a b:Int):Sub (.sl 1 t [[aI a],[aI b]]) (.sl 1 false ([a,b].map intA)):=W2p _ _ _
theorem Zkk {a b:Int}:Qar [a,b]=if a=0 then b else a:=by
 unfold Qar;by_cases h:a=0
 ·by_cases h2:b=0
  ·simp [h,h2]
  ·simp [h,h2]
 ·simp [h]
theorem Qss {a b c:Int}:Qar [a,b,c]=if a=0 then (if b=0 then c else b) else a:=by
 unfold Qar;by_cases h:a=0
 ·by_cases h2:b=0
  ·by_cases h3:c=0
   ·simp [h,h2,h3]
   ·simp [h,h2,h3]
  ·simp [h,h2]
 ·simp [h]
def dirE (f:Fsy) (i:Int):Int:=if Qav f i=true then (if (Qab f i).kind=2 then 0 else 8) else 6
def dirN (f:Fsy) (i:Int):Nod:=if dirE f i=0 then Qab f i else nod0
theorem dirE_6 {f:Fsy} {i:Int} (h:Qav f i=false):dirE f i=6∧dirN f i=nod0:=by
 have e:dirE f i=6:=by unfold dirE;rw [h];rfl
 exact ⟨e,by unfold dirN;rw [e];rfl⟩
theorem dirE_8 {f:Fsy} {i:Int} (h:Qav f i=true) (h2:¬ (Qab f i).kind=2):dirE f i=8∧dirN f i=nod0:=by
 have e:dirE f i=8:=by unfold dirE;rw [W1x h,W1w h2]
 exact ⟨e,by unfold dirN;rw [e];rfl⟩
theorem Zeq {f:Fsy} {i:Int} (h:Qav f i=true) (h2:(Qab f i).kind=2):dirE f i=0∧dirN f i=Qab f i:=by
 have e:dirE f i=0:=by unfold dirE;rw [W1x h,W1x h2]
 exact ⟨e,by unfold dirN;rw [e];rfl⟩
theorem Qe8 {f:Fsy} {i:Int} (h:Qav f i=true):Qab f i∈f.l:=by
 unfold Qav at h;unfold Qab;cases hf:f.l.find? (isNo i) with
 | none=>rw [W10] at hf;obtain ⟨x,hx,hi⟩:=List.any_eq_true.1 h;exact absurd hi (hf x hx)
 | some n=>exact W1n hf
theorem Qws {n:Nod} (h:nodP n):Name.Srt (lI n.l)∧n.l.length≤256:=by
 rcases h.2.2.2 with ⟨_,_,h⟩ | ⟨_,_,h⟩
 ·exact ⟨Qc4 h,h.1⟩
 ·rw [h];exact ⟨List.Pairwise.nil,by decide⟩
theorem Qef {f:Fsy} (h:Qat f) (i:Int):Name.Srt (lI (dirN f i).l)∧(dirN f i).l.length≤256:=by
 unfold dirN
 split
 ·rename_i e;by_cases hb:Qav f i=true
  ·exact Qws ((Qbe.1 h).2.2.1 _ (Qe8 hb)).1
  ·unfold dirE at e;rw [W1w hb] at e;cases e
 ·exact ⟨List.Pairwise.nil,by decide⟩
theorem Zkl {f:Fsy} (h:Qat f):Qav f 0=false:=by
 unfold Qav;rw [W2c];intro n hn;have:=((Qbe.1 h).2.2.1 n hn).1.1;have hne:¬ n.ino=0:=by omega
 simp [isNo,hne]
def Qh7 (f:Fsy) (i:Int) (s:Txt):Int:=getI (dirN f i).l s
noncomputable def Qb8 (f:Fsy) (i:Int) (s:Txt):Int:=Qar [dirE f i,Qaj s,Qae (!(Qav f (Qh7 f i s))) 6]
noncomputable def lookN (f:Fsy) (i:Int) (s:Txt):Nod:=if Qb8 f i s=0 then Qab f (Qh7 f i s) else nod0
theorem Zl9 {f:Fsy} {i:Int} {s:Txt} (h:¬ Qb8 f i s=0):lookN f i s=nod0:=W1w h
theorem Qw0 {f:Fsy} {i:Int} {s:Txt} (h:Qb8 f i s=0):lookN f i s=Qab f (Qh7 f i s):=W1x h
theorem Qi5 {n:Nod} (h:n=nod0):Sub (.agg [aI 0,aI 0,aI 0,aS [],aN]) (.agg (nodA n)):=by
 subst h;exact W2r ⟨sR,sR,sR,sR,Sub.nil _ _,trivial⟩
theorem Qcg (l:List Int) (hl:l.length≤100000):Qag prog 300 [.sl 1 false (l.map intA)] (aI (Qar l)):=by
 exact Qac func300 (
 .r 1<|.r 2<|.lm 6 l intA<|.r 1<|let L1:Lp (Nat):=⟨fun a1=>⟨[(5,.sl 1 false (l.map intA)),(6,aI (l.length:Int)),(7,aI (a1:Int))],[]⟩,fun a1=>l.length-a1,fun a1=>Qaz (fun _ z=>(z != 0)=false) l a1⟩
 .lp L1 0 (show Qaz (fun _ z=>(z != 0)=false) l 0 from Qaz.zero _ _) [(7,aI 0)] [] ⟨sR,sR,sO,trivial⟩ trivial fun a1 ha1=>
 (fun (k:Nat) (hH1:Qaz (fun _ z=>(z != 0)=false) l k)=>.r 1<|.br 8 (decide ((k:Int)<(l.length:Int))) (fun q1=>have p1:=decT q1;.idxM l intA k (m:=(k:Int)) rfl (by omega) fun x1 hx1=>
 .r 2<|.r 2<|.br 12 (x1 != 0) (fun q2=>have p2:=bneT q2;.r 2<|.f (aI (Qar l)) [] (aI x1) (by exact W2n (W1y aI (Qxi hH1 hx1 (by assumption)).symm)))
 <| fun q2=>have p2:=bneF q2;.run 2 [rng .i64 ((k:Int)+1)] ⟨Qal,trivial⟩<|
 .bk L1 k (k+1) (show Qaz (fun _ z=>(z != 0)=false) l (k+1) from (hH1.step hx1 (by assumption))) (show l.length-(k+1)<l.length-k from (by omega)) [(7,aI ((k:Int)+1))] [] ⟨sR,sR,sO,trivial⟩ trivial)
 <| fun q1=>have p1:=decF q1;.r 1<|.f (aI (Qar l)) [] (aI 0) (by exact W2n (W1y aI (Zii (hH1.full (by omega))).symm))) a1 ha1)
theorem Qbc (b:Bool) (e:Int):Qag prog 301 [aB b,aI e] (aI (Qae b e)):=by
 exact Qac func301 (
 .r 1<|.r 1<|.bb 5 b (fun p1=>.r 2<|.f (aI (Qae b e)) [] (aI e) (by exact W2n (W1y aI (by unfold Qae;simp [*]))))
 <| fun p1=>.r 1<|.f (aI (Qae b e)) [] (aI 0) (by exact W2n (W1y aI (by unfold Qae;simp [*]))))
theorem Qhr (f:Fsy) (i:Int) (hp:Qat f):Qag prog 278 [.agg (fsyA f),aI i] (.tup [.agg (nodA (dirN f i)),aI (dirE f i)]):=by
 have hl:=hp.1;have hr:=Qah hp;exact Qac func278 (
 .new fun b1=>.new fun b2=>.r 1<|.u 2 [b1]<|
 .call (Qce f i (by omega) hr)<|
 .r 3<|.new fun b3=>.u 2 [b3]<|
 .r 2<|.br 15 (!(Qav f i)) (fun q1=>have q1:=notT q1;have p1:=booF q1;.u 3 [b2]<|
 .f (.tup [.agg (nodA (dirN f i)),aI (dirE f i)]) [b2] (.tup [.agg [aI 0,aI 0,aI 0,aS ([]),aN],aI 6]) (by
  obtain ⟨e1,e2⟩:=dirE_6 q1;exact W2q ⟨Qi5 e2,W2n (W1y aI e1.symm),trivial⟩))
 <| fun q1=>have q1:=notF q1;have p1:=booT q1;.u 3 [b3]<|
 .br 19 (((Qab f i).kind) != 2) (fun q2=>have p2:=bneT q2;.u 3 [b2]<|
 .f (.tup [.agg (nodA (dirN f i)),aI (dirE f i)]) [b2] (.tup [.agg [aI 0,aI 0,aI 0,aS ([]),aN],aI 8]) (by
  obtain ⟨e1,e2⟩:=dirE_8 q1 (by assumption);exact W2q ⟨Qi5 e2,W2n (W1y aI e1.symm),trivial⟩))
 <| fun q2=>have p2:=bneF q2;.u 3 [b3,b2]<|
 .f (.tup [.agg (nodA (dirN f i)),aI (dirE f i)]) [b2] (.tup [.agg [aI ((Qab f i).ino),aI ((Qab f i).kind),aI ((Qab f i).links),aS ((Qab f i).text),.sl 2 false ((Qab f i).l.map entA)],aI 0]) (by
  obtain ⟨e1,e2⟩:=Zeq q1 (by assumption);rw [e1,e2];exact sR))
theorem Qjb (f:Fsy) (i:Int) (s:Txt) (hp:Qat f) (hs:s.length≤1000000):Qag prog 292 [.agg (fsyA f),aI i,aS s] (.tup [.agg (nodA (lookN f i s)),aI (Qb8 f i s)]):=by
 have hl:=hp.1;have hr:=Qah hp;exact Qac func292 (
 .new fun b1=>.new fun b2=>.r 1<|.u 2 [b1]<|
 .call (Qhr f i hp)<|
 .r 3<|.new fun b3=>.u 2 [b3]<|
 .u 3 [b3]<|
 .call (Qfk ((dirN f i).l) s (by have:=(Qef hp i).2;omega) (Qef hp i).1)<|
 .r 5<|.u 2 [b1]<|
 .call (Qce f (getI ((dirN f i).l) s) (by omega) hr)<|
 .r 3<|.new fun b4=>.u 2 [b4]<|
 .r 2<|.call (Qer s (by omega))<|
 .r 2<|.call (Qbc (!(Qav f (getI ((dirN f i).l) s))) 6)<|
 .r 1<|.cs (args0:=[.sl 1 true ([[aI (dirE f i)],[aI (Qaj s)],[aI (Qae (!(Qav f (getI ((dirN f i).l) s))) 6)]])]) (Qcg [(dirE f i),(Qaj s),(Qae (!(Qav f (getI ((dirN f i).l) s))) 6)] (by simp)) ⟨Qm9 (dirE f i) (Qaj s) (Qae (!(Qav f (getI ((dirN f i).l) s))) 6),trivial⟩<|
 .r 1<|.r 2<|.br 42 ((Qar [(dirE f i),(Qaj s),(Qae (!(Qav f (getI ((dirN f i).l) s))) 6)]) != 0) (fun q1=>have p1:=bneT q1;.u 4 [b2]<|
 .f (.tup [.agg (nodA (lookN f i s)),aI (Qb8 f i s)]) [b2] (.tup [.agg [aI 0,aI 0,aI 0,aS ([]),aN],aI (Qar [(dirE f i),(Qaj s),(Qae (!(Qav f (getI ((dirN f i).l) s))) 6)])]) (by
  have e:¬ Qb8 f i s=0:=by assumption
  exact W2q ⟨Qi5 (Zl9 e),sR,trivial⟩))
 <| fun q1=>have p1:=bneF q1;.u 3 [b4,b2]<|
 .f (.tup [.agg (nodA (lookN f i s)),aI (Qb8 f i s)]) [b2] (.tup [.agg [aI ((Qab f (getI ((dirN f i).l) s)).ino),aI ((Qab f (getI ((dirN f i).l) s)).kind),aI ((Qab f (getI ((dirN f i).l) s)).links),aS ((Qab f (getI ((dirN f i).l) s)).text),.sl 2 false ((Qab f (getI ((dirN f i).l) s)).l.map entA)],aI 0]) (by
  have e:Qb8 f i s=0:=by assumption
  rw [Qw0 e,e];exact sR))
end Go.Proofs.YtkhodpknpligpaaGreat

namespace Go.Proofs.YtkhodpknpligpaaGreat
open Go Go.RowKit Copyhold Go.Proofs.Tryz
open Copyhold.Name in
theorem Qmk (l:List Ent) (s:Txt) (hl:l.length≤1000000) (hr:Srt (lI l)):Qag prog 311 [.sl 2 false (l.map entA),aS s] (.tup [aI (pos (lI l) s:Int),aB (isB l s)]):=Qdz (Qlv _ _) fun D w vs h=>by
 obtain ⟨u,v,rfl,hu,hv⟩:=Qc8.two h;cases hv;obtain ⟨A,c,rfl,he⟩:=Qj9 hu;exact (Qoq (lI l) s A c w he (by simp [lI];omega) hr)
def posI (l:List Ent) (s:Txt):Nat:=Name.pos (lI l) s
theorem Qbx (l:List Ent) (s:Txt):posI l s≤l.length:=by
 have:=Name.pos_le (lI l) s;have h:(lI l).length=l.length:=by simp [lI]
 unfold posI;omega
noncomputable def entE (l:List Ent) (s:Txt) (n:Int):Int:=if (Qaj s != 0)=true then 10 else if n<1 then 1 else if isB l s=true then 7 else if (l.length:Int)≥256 then 12 else 0
noncomputable def entL (l:List Ent) (s:Txt) (n:Int):List Ent:=if entE l s n=0 then l.take (posI l s)++⟨s,n⟩ :: l.drop (posI l s) else l
theorem Qzw (l:List Ent) (s:Txt) (n:Int) (hl:l.length≤256) (hr:Name.Srt (lI l)) (hs:s.length≤1000000) (hn:I64 n):Qag prog 325 [.sl 2 false (l.map entA),aS s,aI n] (.tup [.sl 2 false ((entL l s n).map entA),aI (entE l s n)]):=by
 have hn1:=hn.1;exact Qac func325 (
 .r 2<|.r 2<|.call (Qmk l s (by omega) hr)<|
 .r 5<|.r 1<|.r 1<|.call (Qer s (by omega))<|
 .r 2<|.br 18 ((Qaj s) != 0) (fun q1=>have p1:=bneT q1;.r 1<|.r 2<|.is 32 (show (10 != 0)=true from rfl)<|.r 4<|.f (.tup [.sl 2 false ((entL l s n).map entA),aI (entE l s n)]) [] (.tup [.sl 2 false (l.map entA),aI 10]) (by
  have e:entE l s n=10:=by
   unfold entE;rw [W1x q1]
  have e2:entL l s n=l:=W1w (by omega);rw [e,e2];exact W2q ⟨by first | exact sR | exact W2p _ _ _,sR,trivial⟩))
 <| fun q1=>have p1:=bneF q1;.r 3<|.bd 22 (n<1) (fun p2=>.r 1<|.r 2<|.is 32 (show (1 != 0)=true from rfl)<|.r 4<|.f (.tup [.sl 2 false ((entL l s n).map entA),aI (entE l s n)]) [] (.tup [.sl 2 false (l.map entA),aI 1]) (by
  have e:entE l s n=1:=by
   unfold entE;rw [W1w (by rw [q1];decide)];rw [W1x (by omega)]
  have e2:entL l s n=l:=W1w (by omega);rw [e,e2];exact W2q ⟨by first | exact sR | exact W2p _ _ _,sR,trivial⟩))
 <| fun p2=>.r 2<|.br 25 (isB l s) (fun q3=>have p3:=booT q3;.r 1<|.r 2<|.is 32 (show (7 != 0)=true from rfl)<|.r 4<|.f (.tup [.sl 2 false ((entL l s n).map entA),aI (entE l s n)]) [] (.tup [.sl 2 false (l.map entA),aI 7]) (by
  have e:entE l s n=7:=by
   unfold entE;rw [W1w (by rw [q1];decide)];rw [W1w (by omega)];rw [W1x q3]
  have e2:entL l s n=l:=W1w (by omega);rw [e,e2];exact W2q ⟨by first | exact sR | exact W2p _ _ _,sR,trivial⟩))
 <| fun q3=>have p3:=booF q3;.r 2<|.lm 29 l entA<|.r 2<|.bd 27 ((l.length:Int)≥256) (fun p4=>.r 1<|.r 2<|.is 32 (show (12 != 0)=true from rfl)<|.r 4<|.f (.tup [.sl 2 false ((entL l s n).map entA),aI (entE l s n)]) [] (.tup [.sl 2 false (l.map entA),aI 12]) (by
  have e:entE l s n=12:=by
   unfold entE;rw [W1w (by rw [q1];decide)];rw [W1w (by omega)];rw [W1w (by rw [q3];decide)];rw [W1x (by omega)]
  have e2:entL l s n=l:=W1w (by omega);rw [e,e2];exact W2q ⟨by first | exact sR | exact W2p _ _ _,sR,trivial⟩))
 <| fun p4=>.r 2<|.is 32 (show (0 != 0)=false from rfl)<|.r 2<|.lm 36 l entA<|.run 1 [rng .i64 ((l.length:Int)+1)] ⟨Qal,trivial⟩<|
 .mk0 24 (l.length+1) (show (l.length:Int)+1=((l.length+1:Nat):Int) from by omega) (by have hq:=Qbx l s;simp<;>omega) (by have hq:=Qbx l s;simp<;>omega) fun V1=>
 .r 1<|.r 3<|.slc 2 false (l.map entA) none (some (posI l s:Int)) none 0 (posI l s) false (.inl ⟨rfl,rfl⟩) (.inr rfl) (.inl ⟨rfl,fun h=>by cases h⟩) (by have hq:=Qbx l s;first | omega | (rw [W0a];omega) | (simp<;>omega)) (by have hq:=Qbx l s;first | omega | (rw [W0a];omega) | (simp<;>omega))<|
 .app 24 V1 ([]:List (List AV)) (((l.map entA).take (posI l s)).drop 0) (by have hq:=Qbx l s;simp<;>omega) (by have hq:=Qbx l s;simp<;>omega) fun V2=>
 .r 1<|.r 5<|.app 24 V2 (([]:List (List AV))++(((l.map entA).take (posI l s)).drop 0)) ([[aS s,aI n]]) (by have hq:=Qbx l s;simp<;>omega) (by have hq:=Qbx l s;simp<;>omega) fun V3=>
 .r 1<|.r 3<|.slc 2 false (l.map entA) (some (posI l s:Int)) none none (posI l s) ((l.map entA).length) false (.inr rfl) (.inl ⟨rfl,rfl⟩) (.inl ⟨rfl,fun h=>by cases h⟩) (by have hq:=Qbx l s;first | omega | (rw [W0a];omega) | (simp<;>omega)) (by have hq:=Qbx l s;first | omega | (rw [W0a];omega) | (simp<;>omega))<|
 .app 24 V3 ((([]:List (List AV))++(((l.map entA).take (posI l s)).drop 0))++([[aS s,aI n]])) (((l.map entA).take ((l.map entA).length)).drop (posI l s)) (by have hq:=Qbx l s;simp<;>omega) (by have hq:=Qbx l s;simp<;>omega) fun V4=>
 .r 2<|.frz 38 [6,7] [] [V4=V4,((([]:List (List AV))++(((l.map entA).take (posI l s)).drop 0))++([[aS s,aI n]])).length+(((l.map entA).take ((l.map entA).length)).drop (posI l s)).length=(((([]:List (List AV))++(((l.map entA).take (posI l s)).drop 0))++([[aS s,aI n]]))++(((l.map entA).take ((l.map entA).length)).drop (posI l s))).length] ⟨rfl,(by first | rfl | (simp;done) | (simp;omega)),trivial⟩<|
 .f (.tup [.sl 2 false ((entL l s n).map entA),aI (entE l s n)]) [] (.tup [.sl 2 false (((([]:List (List AV))++(((l.map entA).take (posI l s)).drop 0))++([[aS s,aI n]]))++(((l.map entA).take ((l.map entA).length)).drop (posI l s))),aI 0]) (by
  have e:entE l s n=0:=by
   unfold entE;rw [W1w (by rw [q1];decide)];rw [W1w (by omega)];rw [W1w (by rw [q3];decide)];rw [W1w (by omega)]
  have e2:entL l s n=l.take (posI l s)++⟨s,n⟩ :: l.drop (posI l s):=W1x e;rw [e,e2];exact W2q ⟨W2n (W1y (AV.sl 2 false) (by simp [entA,W16,W2e,Qap])),sR,trivial⟩))
end Go.Proofs.YtkhodpknpligpaaGreat

namespace Go.Proofs.YtkhodpknpligpaaGreat
open Go Go.RowKit Copyhold Go.Proofs.Tryz
def Qbj (n:Nod) (l:List Ent):Nod:=⟨n.ino,n.kind,n.links,n.text,l⟩
noncomputable def enterF (f:Fsy) (d:Int) (s:Txt) (i:Int):Fsy:=putF f (Qbj (Qab f d) (entL (Qab f d).l s i))
theorem Qdp {f:Fsy} (okf:OkF f) (hp:Qat f) (i:Int):I64 (Qab f i).ino∧(Qab f i).ino<9223372036854775807:=by
 refine ⟨(Qf0 okf i).1,?_⟩;by_cases h:Qav f i=true
 ·have:=((Qbe.1 hp).2.2.1 _ (Qe8 h)).2;have:=okf.1.2;omega
 ·have h':Qav f i=false:=by simpa using h
  unfold Qab Qav at *;rw [W10.2 fun x hx=>by simpa using W2c.1 h' x hx];decide
theorem Qlp {f:Fsy} (h:Qat f) (i:Int):Name.Srt (lI (Qab f i).l)∧(Qab f i).l.length≤256:=by
 by_cases hb:Qav f i=true
 ·exact Qws ((Qbe.1 h).2.2.1 _ (Qe8 hb)).1
 ·have h':Qav f i=false:=by simpa using hb
  unfold Qab Qav at *;rw [W10.2 fun x hx=>by simpa using W2c.1 h' x hx];exact ⟨List.Pairwise.nil,by decide⟩
theorem Qf2 (f:Fsy) (dir:Int) (s:Txt) (ino:Int) (okf:OkF f) (hp:Qat f) (hs:s.length≤1000000) (hi:I64 ino):Qag prog 304 [.agg (fsyA f),aI dir,aS s,aI ino] (.agg (fsyA (enterF f dir s ino))):=by
 have hl:=hp.1;have hr:=Qah hp;exact Qac func304 (let R:AV:=.agg (fsyA (enterF f dir s ino));
 .new fun b1=>.new fun b2=>.u 2 [b1]<|
 .call (Qce f dir (by omega) hr)<|
 .r 3<|.new fun b3=>.u 2 [b3]<|
 .u 4 [b3]<|
 .call (Qzw ((Qab f dir).l) s ino (Qlp hp dir).2 (Qlp hp dir).1 (by omega) hi)<|
 .u 5 [b3]<|
 .u 2 [b1,b3]<|
 .cs (args0:=[.agg (fsyA f),.agg [aI ((Qab f dir).ino),aI ((Qab f dir).kind),aI ((Qab f dir).links),aS ((Qab f dir).text),.sl 2 false ((entL ((Qab f dir).l) s ino).map entA)]]) (Qe5 f (Qbj (Qab f dir) (entL (Qab f dir).l s ino)) (Qdp okf hp dir) (by omega) hr) sr2<|
 .u 1 [b2]<|
 .fi R [b2])
theorem Qxn (f:Fsy) (d:Int) (s:Txt) (i:Int):(enterF f d s i).l.length≤f.l.length+1:=Qme _ _
theorem Qo1 {f:Fsy} (h:Qat f) (d:Int) (s:Txt) (i:Int):Qbm (enterF f d s i).l:=Qhk (Qah h)
noncomputable def addF (f:Fsy) (d:Int) (s:Txt) (n:Nod):Fsy:=putF (enterF f d s n.ino) (Qbj n [])
theorem Zf9 (f:Fsy) (dir:Int) (s:Txt) (n:Nod) (b:Nat) (okf:OkF f) (hp:Qat f) (hs:s.length≤1000000) (hn:I64 n.ino∧n.ino<9223372036854775807):Qq4 prog 322 [.ptr 7 b 0,.dptr (fsyA f),.dptr [aI dir],.dptr [aS s]] (.box b 85 (nodA n)) (.agg (fsyA (addF f dir s n))):=by
 have hl:=hp.1;have hr:=Qah hp;exact Qi9 (q:=7) func322 (let R:AV:=.agg (fsyA (addF f dir s n));
 .new fun b1=>.run 2 [b=b] rt1<|
 .ord [0,1,2,3,4,6,5,7,8]<|.run 6 [b=b,b=b] rt2<|
 .call (Qf2 f dir s n.ino okf hp (by omega) hn.1)<|
 .cs (args0:=[.agg [.sl 5 false ((enterF f dir s n.ino).l.map nodA),aI ((enterF f dir s n.ino).next)],.agg [aI n.ino,aI n.kind,aI n.links,aS n.text,aN]]) (Qe5 (enterF f dir s n.ino) (Qbj n []) hn (by have:=Qxn f dir s n.ino;omega) (Qo1 hp dir s n.ino)) ⟨sR,W2r ⟨sR,sR,sR,sR,Sub.nil _ _,trivial⟩,trivial⟩<|
 .u 1 [b1]<|
 .fi R [b1])
theorem Qe1 (e:Int) (f:Fsy) (dir:Int) (s:Txt) (n:Nod) (b:Nat) (okf:OkF f) (hp:Qat f) (hs:s.length≤1000000) (hn:I64 n.ino∧n.ino<9223372036854775807):Qq4 prog 302 [.agg (fsyA f),aI e,.clo 322 [.ptr 7 b 0,.dptr (fsyA f),.dptr [aI dir],.dptr [aS s]]] (.box b 85 (nodA n)) (.tup [.agg (fsyA (if e=0 then addF f dir s n else f)),aI e]):=by
 exact Qi9 (q:=7) func302 (
 .new fun b1=>.new fun b2=>.r 1<|.r 2<|.bn 9 e 0 (fun p1=>.u 4 [b1,b2]<|
 .f (.tup [.agg (fsyA (if e=0 then addF f dir s n else f)),aI e]) [b2] (.tup [.agg (fsyA f),aI e]) (by
  rw [W1w (show ¬ e=0 from by omega)];exact sR))
 <| fun p1=>.lent 1<|.r 1<|.lop (lcR prog 7) ((322,[.ptr 7 b 0,.dptr (fsyA f),.dptr [aI dir],.dptr [aS s]],some 13),.box b 85 (nodA n)) (fun (_:Unit) σ=>(σ.put (some 13) (.agg [.sl 5 false ((addF f dir s n).l.map nodA),aI ((addF f dir s n).next)])).setB 7 gone) (Qcs (args':=[.ptr 7 b 0,.dptr (fsyA f),.dptr [aI dir],.dptr [aS s]]) sr4 (Zf9 f dir s n b okf hp hs hn)) fun _=>
 .u 2 [b2]<|
 .f (.tup [.agg (fsyA (if e=0 then addF f dir s n else f)),aI e]) [b2] (.tup [.agg [.sl 5 false ((addF f dir s n).l.map nodA),aI ((addF f dir s n).next)],aI 0]) (by
  rw [W1x (show e=0 from by omega),show e=0 from by omega];exact sR))
theorem Qhp {t:Bool} (a b c d e:Int):Sub (.sl 1 t [[aI a],[aI b],[aI c],[aI d],[aI e]]) (.sl 1 false ([a,b,c,d,e].map intA)):=W2p _ _ _
def addN (f:Fsy) (n:Nod):Nod:=⟨f.next,n.kind,1,n.text,n.l⟩
noncomputable def Qbq (f:Fsy) (d:Int) (s:Txt) (n:Nod):Int:=Qar [dirE f d,Qaj s,Qae (isB (dirN f d).l s) 7,Qae (decide ((f.l.length:Int)≥256)||decide (((dirN f d).l.length:Int)≥256)) 12,Qae ((!(dP (nodP (addN f n))))||decide ((n.l.length:Int)>0)) 1]
theorem Qv1 {f:Fsy} {n:Nod} (okf:OkF f) (okn:OkN n):OkN (addN f n):=⟨okf.1,okn.2.1,⟨by show (_:Int)≤1;omega,by show (1:Int)≤_;omega⟩,okn.2.2.2.1,okn.2.2.2.2.1,okn.2.2.2.2.2⟩
theorem Zjv (f:Fsy) (dir:Int) (s:Txt) (n:Nod) (okf:OkF f) (hp:Qat f) (hs:s.length≤1000000) (okn:OkN n) (hx:f.next<9223372036854775807):Qag prog 298 [.agg (fsyA f),aI dir,aS s,.agg (nodA n)] (.tup [.agg (fsyA (if Qbq f dir s n=0 then addF f dir s (addN f n) else f)),aI (Qbq f dir s n)]):=by
 have hl:=hp.1;have hr:=Qah hp;exact Qac func298 (
 .new fun b1=>.new fun b2=>.new fun b3=>.new fun b4=>.new fun b5=>.r 1<|.u 2 [b1,b2]<|
 .call (Qhr f dir hp)<|
 .r 3<|.new fun b6=>.u 2 [b6]<|
 .u 3 [b6,b3]<|
 .call (Qfk ((dirN f dir).l) s (by have:=(Qef hp dir).2;omega) (Qef hp dir).1)<|
 .r 5<|.u 6 [b1,b4,b4]<|
 .ord [0,1,3,5,6,7,8,16,2,4,9,10,11,12,13,14,15,17,18,19,20,21,22,23,24,25,26,27,28]<|.u 6 [b3,b1]<|
 .lm 38 f.l nodA<|.u 2 [b4]<|
 .call (Qer s (by omega))<|
 .call (Qbc (isB ((dirN f dir).l) s) 7)<|
 .r 1<|.br 40 (decide ((f.l.length:Int)≥256)) (fun q1=>have p1:=decT q1;.r 5<|.call (Qbc true 12)<|
 .cs (args0:=[.agg [aI f.next,aI n.kind,aI 1,aS n.text,.sl 2 false (n.l.map entA)]]) (Qmj (addN f n) (Qv1 okf okn)) sr1<|
 .r 2<|.br 50 (!(dP (nodP (addN f n)))) (fun q2=>have q2:=notT q2;have p2:=booF q2;.r 5<|.call (Qbc true 1)<|
 .r 1<|.cs (args0:=[.sl 1 true ([[aI (dirE f dir)],[aI (Qaj s)],[aI (Qae (isB ((dirN f dir).l) s) 7)],[aI (Qae true 12)],[aI (Qae true 1)]])]) (Qcg [(dirE f dir),(Qaj s),(Qae (isB ((dirN f dir).l) s) 7),(Qae true 12),(Qae true 1)] (by simp)) ⟨Qhp (dirE f dir) (Qaj s) (Qae (isB ((dirN f dir).l) s) 7) (Qae true 12) (Qae true 1),trivial⟩<|
 .r 1<|.frz 4 [4,5,6,7,8,9,11,40,45,50,55] [5,6,7,8] [b1=b1] rt1<|
 .frz 5 [4,5,6,7,8,9,11,40,45,50,55] [6,7,8] [b2=b2] rt1<|
 .frz 6 [4,5,6,7,8,9,11,40,45,50,55] [7,8] [b3=b3] rt1<|
 .lent 3<|.r 3<|.lop (lcR prog 7) ((302,[.agg (fsyA f),aI (Qar [(dirE f dir),(Qaj s),(Qae (isB ((dirN f dir).l) s) 7),(Qae true 12),(Qae true 1)]),.clo 322 [.ptr 7 b4 0,.dptr (fsyA f),.dptr [aI dir],.dptr [aS s]]],some 62),.box b4 85 [aI f.next,aI n.kind,aI 1,aS n.text,.sl 2 false (n.l.map entA)]) (fun (_:Unit) σ=>(σ.put (some 62) (.tup [.agg [.sl 5 false ((if Qar [(dirE f dir),(Qaj s),(Qae (isB ((dirN f dir).l) s) 7),(Qae true 12),(Qae true 1)]=0 then addF f dir s (addN f n) else f).l.map nodA),aI ((if Qar [(dirE f dir),(Qaj s),(Qae (isB ((dirN f dir).l) s) 7),(Qae true 12),(Qae true 1)]=0 then addF f dir s (addN f n) else f).next)],aI (Qar [(dirE f dir),(Qaj s),(Qae (isB ((dirN f dir).l) s) 7),(Qae true 12),(Qae true 1)])])).setB 7 gone) (Qcs (args':=[.agg (fsyA f),aI (Qar [(dirE f dir),(Qaj s),(Qae (isB ((dirN f dir).l) s) 7),(Qae true 12),(Qae true 1)]),.clo 322 [.ptr 7 b4 0,.dptr (fsyA f),.dptr [aI dir],.dptr [aS s]]]) sr3 (Qe1 (Qar [(dirE f dir),(Qaj s),(Qae (isB ((dirN f dir).l) s) 7),(Qae true 12),(Qae true 1)]) f dir s (addN f n) b4 okf hp hs ⟨okf.1,hx⟩)) fun _=>
 .u 4 [b5]<|
 .f (.tup [.agg (fsyA (if Qbq f dir s n=0 then addF f dir s (addN f n) else f)),aI (Qbq f dir s n)]) [b5] (.tup [.agg [.sl 5 false ((if Qar [(dirE f dir),(Qaj s),(Qae (isB ((dirN f dir).l) s) 7),(Qae true 12),(Qae true 1)]=0 then addF f dir s (addN f n) else f).l.map nodA),aI ((if Qar [(dirE f dir),(Qaj s),(Qae (isB ((dirN f dir).l) s) 7),(Qae true 12),(Qae true 1)]=0 then addF f dir s (addN f n) else f).next)],aI (Qar [(dirE f dir),(Qaj s),(Qae (isB ((dirN f dir).l) s) 7),(Qae true 12),(Qae true 1)])]) (by
  have e:Qbq f dir s n=Qar [(dirE f dir),(Qaj s),(Qae (isB ((dirN f dir).l) s) 7),(Qae true 12),(Qae true 1)]:=by
   unfold Qbq;simp only [q1,q2,W02,W0u,W0x,W0t]
  rw [e];exact sR))
 <| fun q2=>have q2:=notF q2;have p2:=booT q2;.u 3 [b4]<|
 .lm 53 n.l entA<|.r 2<|.call (Qbc (decide ((n.l.length:Int)>0)) 1)<|
 .r 1<|.cs (args0:=[.sl 1 true ([[aI (dirE f dir)],[aI (Qaj s)],[aI (Qae (isB ((dirN f dir).l) s) 7)],[aI (Qae true 12)],[aI (Qae (decide ((n.l.length:Int)>0)) 1)]])]) (Qcg [(dirE f dir),(Qaj s),(Qae (isB ((dirN f dir).l) s) 7),(Qae true 12),(Qae (decide ((n.l.length:Int)>0)) 1)] (by simp)) ⟨Qhp (dirE f dir) (Qaj s) (Qae (isB ((dirN f dir).l) s) 7) (Qae true 12) (Qae (decide ((n.l.length:Int)>0)) 1),trivial⟩<|
 .r 1<|.frz 4 [4,5,6,7,8,9,11,40,45,50] [5,6,7,8] [b1=b1] rt1<|
 .frz 5 [4,5,6,7,8,9,11,40,45,50] [6,7,8] [b2=b2] rt1<|
 .frz 6 [4,5,6,7,8,9,11,40,45,50] [7,8] [b3=b3] rt1<|
 .lent 3<|.r 3<|.lop (lcR prog 7) ((302,[.agg (fsyA f),aI (Qar [(dirE f dir),(Qaj s),(Qae (isB ((dirN f dir).l) s) 7),(Qae true 12),(Qae (decide ((n.l.length:Int)>0)) 1)]),.clo 322 [.ptr 7 b4 0,.dptr (fsyA f),.dptr [aI dir],.dptr [aS s]]],some 62),.box b4 85 [aI f.next,aI n.kind,aI 1,aS n.text,.sl 2 false (n.l.map entA)]) (fun (_:Unit) σ=>(σ.put (some 62) (.tup [.agg [.sl 5 false ((if Qar [(dirE f dir),(Qaj s),(Qae (isB ((dirN f dir).l) s) 7),(Qae true 12),(Qae (decide ((n.l.length:Int)>0)) 1)]=0 then addF f dir s (addN f n) else f).l.map nodA),aI ((if Qar [(dirE f dir),(Qaj s),(Qae (isB ((dirN f dir).l) s) 7),(Qae true 12),(Qae (decide ((n.l.length:Int)>0)) 1)]=0 then addF f dir s (addN f n) else f).next)],aI (Qar [(dirE f dir),(Qaj s),(Qae (isB ((dirN f dir).l) s) 7),(Qae true 12),(Qae (decide ((n.l.length:Int)>0)) 1)])])).setB 7 gone) (Qcs (args':=[.agg (fsyA f),aI (Qar [(dirE f dir),(Qaj s),(Qae (isB ((dirN f dir).l) s) 7),(Qae true 12),(Qae (decide ((n.l.length:Int)>0)) 1)]),.clo 322 [.ptr 7 b4 0,.dptr (fsyA f),.dptr [aI dir],.dptr [aS s]]]) sr3 (Qe1 (Qar [(dirE f dir),(Qaj s),(Qae (isB ((dirN f dir).l) s) 7),(Qae true 12),(Qae (decide ((n.l.length:Int)>0)) 1)]) f dir s (addN f n) b4 okf hp hs ⟨okf.1,hx⟩)) fun _=>
 .u 4 [b5]<|
 .f (.tup [.agg (fsyA (if Qbq f dir s n=0 then addF f dir s (addN f n) else f)),aI (Qbq f dir s n)]) [b5] (.tup [.agg [.sl 5 false ((if Qar [(dirE f dir),(Qaj s),(Qae (isB ((dirN f dir).l) s) 7),(Qae true 12),(Qae (decide ((n.l.length:Int)>0)) 1)]=0 then addF f dir s (addN f n) else f).l.map nodA),aI ((if Qar [(dirE f dir),(Qaj s),(Qae (isB ((dirN f dir).l) s) 7),(Qae true 12),(Qae (decide ((n.l.length:Int)>0)) 1)]=0 then addF f dir s (addN f n) else f).next)],aI (Qar [(dirE f dir),(Qaj s),(Qae (isB ((dirN f dir).l) s) 7),(Qae true 12),(Qae (decide ((n.l.length:Int)>0)) 1)])]) (by
  have e:Qbq f dir s n=Qar [(dirE f dir),(Qaj s),(Qae (isB ((dirN f dir).l) s) 7),(Qae true 12),(Qae (decide ((n.l.length:Int)>0)) 1)]:=by
   unfold Qbq;simp only [q1,q2,W02,W0u,W0x,W0t]
  rw [e];exact sR))
 <| fun q1=>have p1:=decF q1;.u 3 [b6]<|
 .lm 43 ((dirN f dir).l) entA<|.r 2<|.call (Qbc (decide ((((dirN f dir).l).length:Int)≥256)) 12)<|
 .cs (args0:=[.agg [aI f.next,aI n.kind,aI 1,aS n.text,.sl 2 false (n.l.map entA)]]) (Qmj (addN f n) (Qv1 okf okn)) sr1<|
 .r 2<|.br 50 (!(dP (nodP (addN f n)))) (fun q3=>have q3:=notT q3;have p3:=booF q3;.r 5<|.call (Qbc true 1)<|
 .r 1<|.cs (args0:=[.sl 1 true ([[aI (dirE f dir)],[aI (Qaj s)],[aI (Qae (isB ((dirN f dir).l) s) 7)],[aI (Qae (decide ((((dirN f dir).l).length:Int)≥256)) 12)],[aI (Qae true 1)]])]) (Qcg [(dirE f dir),(Qaj s),(Qae (isB ((dirN f dir).l) s) 7),(Qae (decide ((((dirN f dir).l).length:Int)≥256)) 12),(Qae true 1)] (by simp)) ⟨Qhp (dirE f dir) (Qaj s) (Qae (isB ((dirN f dir).l) s) 7) (Qae (decide ((((dirN f dir).l).length:Int)≥256)) 12) (Qae true 1),trivial⟩<|
 .r 1<|.frz 4 [4,5,6,7,8,9,11,40,50,55] [5,6,7,8] [b1=b1] rt1<|
 .frz 5 [4,5,6,7,8,9,11,40,50,55] [6,7,8] [b2=b2] rt1<|
 .frz 6 [4,5,6,7,8,9,11,40,50,55] [7,8] [b3=b3] rt1<|
 .lent 3<|.r 3<|.lop (lcR prog 7) ((302,[.agg (fsyA f),aI (Qar [(dirE f dir),(Qaj s),(Qae (isB ((dirN f dir).l) s) 7),(Qae (decide ((((dirN f dir).l).length:Int)≥256)) 12),(Qae true 1)]),.clo 322 [.ptr 7 b4 0,.dptr (fsyA f),.dptr [aI dir],.dptr [aS s]]],some 62),.box b4 85 [aI f.next,aI n.kind,aI 1,aS n.text,.sl 2 false (n.l.map entA)]) (fun (_:Unit) σ=>(σ.put (some 62) (.tup [.agg [.sl 5 false ((if Qar [(dirE f dir),(Qaj s),(Qae (isB ((dirN f dir).l) s) 7),(Qae (decide ((((dirN f dir).l).length:Int)≥256)) 12),(Qae true 1)]=0 then addF f dir s (addN f n) else f).l.map nodA),aI ((if Qar [(dirE f dir),(Qaj s),(Qae (isB ((dirN f dir).l) s) 7),(Qae (decide ((((dirN f dir).l).length:Int)≥256)) 12),(Qae true 1)]=0 then addF f dir s (addN f n) else f).next)],aI (Qar [(dirE f dir),(Qaj s),(Qae (isB ((dirN f dir).l) s) 7),(Qae (decide ((((dirN f dir).l).length:Int)≥256)) 12),(Qae true 1)])])).setB 7 gone) (Qcs (args':=[.agg (fsyA f),aI (Qar [(dirE f dir),(Qaj s),(Qae (isB ((dirN f dir).l) s) 7),(Qae (decide ((((dirN f dir).l).length:Int)≥256)) 12),(Qae true 1)]),.clo 322 [.ptr 7 b4 0,.dptr (fsyA f),.dptr [aI dir],.dptr [aS s]]]) sr3 (Qe1 (Qar [(dirE f dir),(Qaj s),(Qae (isB ((dirN f dir).l) s) 7),(Qae (decide ((((dirN f dir).l).length:Int)≥256)) 12),(Qae true 1)]) f dir s (addN f n) b4 okf hp hs ⟨okf.1,hx⟩)) fun _=>
 .u 4 [b5]<|
 .f (.tup [.agg (fsyA (if Qbq f dir s n=0 then addF f dir s (addN f n) else f)),aI (Qbq f dir s n)]) [b5] (.tup [.agg [.sl 5 false ((if Qar [(dirE f dir),(Qaj s),(Qae (isB ((dirN f dir).l) s) 7),(Qae (decide ((((dirN f dir).l).length:Int)≥256)) 12),(Qae true 1)]=0 then addF f dir s (addN f n) else f).l.map nodA),aI ((if Qar [(dirE f dir),(Qaj s),(Qae (isB ((dirN f dir).l) s) 7),(Qae (decide ((((dirN f dir).l).length:Int)≥256)) 12),(Qae true 1)]=0 then addF f dir s (addN f n) else f).next)],aI (Qar [(dirE f dir),(Qaj s),(Qae (isB ((dirN f dir).l) s) 7),(Qae (decide ((((dirN f dir).l).length:Int)≥256)) 12),(Qae true 1)])]) (by
  have e:Qbq f dir s n=Qar [(dirE f dir),(Qaj s),(Qae (isB ((dirN f dir).l) s) 7),(Qae (decide ((((dirN f dir).l).length:Int)≥256)) 12),(Qae true 1)]:=by
   unfold Qbq;simp only [q1,q3,W02,W0u,W0x,W0t]
  rw [e];exact sR))
 <| fun q3=>have q3:=notF q3;have p3:=booT q3;.u 3 [b4]<|
 .lm 53 n.l entA<|.r 2<|.call (Qbc (decide ((n.l.length:Int)>0)) 1)<|
 .r 1<|.cs (args0:=[.sl 1 true ([[aI (dirE f dir)],[aI (Qaj s)],[aI (Qae (isB ((dirN f dir).l) s) 7)],[aI (Qae (decide ((((dirN f dir).l).length:Int)≥256)) 12)],[aI (Qae (decide ((n.l.length:Int)>0)) 1)]])]) (Qcg [(dirE f dir),(Qaj s),(Qae (isB ((dirN f dir).l) s) 7),(Qae (decide ((((dirN f dir).l).length:Int)≥256)) 12),(Qae (decide ((n.l.length:Int)>0)) 1)] (by simp)) ⟨Qhp (dirE f dir) (Qaj s) (Qae (isB ((dirN f dir).l) s) 7) (Qae (decide ((((dirN f dir).l).length:Int)≥256)) 12) (Qae (decide ((n.l.length:Int)>0)) 1),trivial⟩<|
 .r 1<|.frz 4 [4,5,6,7,8,9,11,40,50] [5,6,7,8] [b1=b1] rt1<|
 .frz 5 [4,5,6,7,8,9,11,40,50] [6,7,8] [b2=b2] rt1<|
 .frz 6 [4,5,6,7,8,9,11,40,50] [7,8] [b3=b3] rt1<|
 .lent 3<|.r 3<|.lop (lcR prog 7) ((302,[.agg (fsyA f),aI (Qar [(dirE f dir),(Qaj s),(Qae (isB ((dirN f dir).l) s) 7),(Qae (decide ((((dirN f dir).l).length:Int)≥256)) 12),(Qae (decide ((n.l.length:Int)>0)) 1)]),.clo 322 [.ptr 7 b4 0,.dptr (fsyA f),.dptr [aI dir],.dptr [aS s]]],some 62),.box b4 85 [aI f.next,aI n.kind,aI 1,aS n.text,.sl 2 false (n.l.map entA)]) (fun (_:Unit) σ=>(σ.put (some 62) (.tup [.agg [.sl 5 false ((if Qar [(dirE f dir),(Qaj s),(Qae (isB ((dirN f dir).l) s) 7),(Qae (decide ((((dirN f dir).l).length:Int)≥256)) 12),(Qae (decide ((n.l.length:Int)>0)) 1)]=0 then addF f dir s (addN f n) else f).l.map nodA),aI ((if Qar [(dirE f dir),(Qaj s),(Qae (isB ((dirN f dir).l) s) 7),(Qae (decide ((((dirN f dir).l).length:Int)≥256)) 12),(Qae (decide ((n.l.length:Int)>0)) 1)]=0 then addF f dir s (addN f n) else f).next)],aI (Qar [(dirE f dir),(Qaj s),(Qae (isB ((dirN f dir).l) s) 7),(Qae (decide ((((dirN f dir).l).length:Int)≥256)) 12),(Qae (decide ((n.l.length:Int)>0)) 1)])])).setB 7 gone) (Qcs (args':=[.agg (fsyA f),aI (Qar [(dirE f dir),(Qaj s),(Qae (isB ((dirN f dir).l) s) 7),(Qae (decide ((((dirN f dir).l).length:Int)≥256)) 12),(Qae (decide ((n.l.length:Int)>0)) 1)]),.clo 322 [.ptr 7 b4 0,.dptr (fsyA f),.dptr [aI dir],.dptr [aS s]]]) sr3 (Qe1 (Qar [(dirE f dir),(Qaj s),(Qae (isB ((dirN f dir).l) s) 7),(Qae (decide ((((dirN f dir).l).length:Int)≥256)) 12),(Qae (decide ((n.l.length:Int)>0)) 1)]) f dir s (addN f n) b4 okf hp hs ⟨okf.1,hx⟩)) fun _=>
 .u 4 [b5]<|
 .f (.tup [.agg (fsyA (if Qbq f dir s n=0 then addF f dir s (addN f n) else f)),aI (Qbq f dir s n)]) [b5] (.tup [.agg [.sl 5 false ((if Qar [(dirE f dir),(Qaj s),(Qae (isB ((dirN f dir).l) s) 7),(Qae (decide ((((dirN f dir).l).length:Int)≥256)) 12),(Qae (decide ((n.l.length:Int)>0)) 1)]=0 then addF f dir s (addN f n) else f).l.map nodA),aI ((if Qar [(dirE f dir),(Qaj s),(Qae (isB ((dirN f dir).l) s) 7),(Qae (decide ((((dirN f dir).l).length:Int)≥256)) 12),(Qae (decide ((n.l.length:Int)>0)) 1)]=0 then addF f dir s (addN f n) else f).next)],aI (Qar [(dirE f dir),(Qaj s),(Qae (isB ((dirN f dir).l) s) 7),(Qae (decide ((((dirN f dir).l).length:Int)≥256)) 12),(Qae (decide ((n.l.length:Int)>0)) 1)])]) (by
  have e:Qbq f dir s n=Qar [(dirE f dir),(Qaj s),(Qae (isB ((dirN f dir).l) s) 7),(Qae (decide ((((dirN f dir).l).length:Int)≥256)) 12),(Qae (decide ((n.l.length:Int)>0)) 1)]:=by
   unfold Qbq;simp only [q1,q3,W02,W0u,W0x,W0t]
  rw [e];exact sR))
def Qh5:Nod:=⟨1,2,0,[],[]⟩
def newF:Fsy:=⟨[Qh5],2⟩
theorem Qwc {k:Nat} {t:Bool} {e e':List AV} (h:Qc0 e e'):Sub (.sl k t [e]) (.sl k false [e']):=
 (Sub.sl2 (t:=t) (xs:=[e]) (ys:=[e']) rfl (fun i a b ha hb=>by
  match i,ha,hb with
  | 0,ha,hb=>simp at ha hb;rw [← ha,← hb];exact h
  | i+1,ha,_=>simp at ha)).trans (W2p _ _ _)
theorem Qwh:OkN Qh5:=⟨⟨by decide,by decide⟩,⟨by decide,by decide⟩,⟨by decide,by decide⟩,by show (0:Nat)≤_;omega,by show (0:Nat)≤_;omega,fun e h=>by cases h⟩
theorem Qul:OkF newF:=⟨⟨by decide,by decide⟩,by show (1:Nat)≤_;omega,fun n h=>by obtain rfl:=W0z.1 h;exact Qwh⟩
theorem Zcr:Qbm newF.l:=by simp [newF,Qbm,Qtm]
theorem Qex:Qat newF:=Qbe.2 ⟨by decide,by decide,fun n h=>by
 obtain rfl:=W0z.1 h;exact ⟨⟨by decide,by decide,by decide,.inl ⟨rfl,rfl,Qb3⟩⟩,by decide⟩,Zcr⟩
theorem Zhw:newF.l.length=1:=rfl
def Qdi (n:Nod):Bool:=n.kind==2&&decide ((n.l.length:Int)>0)
theorem Qm4 (n:Nod) (hl:n.l.length≤8796093022207):Qag prog 323 [.agg (nodA n)] (aB (Qdi n)):=by
 exact Qac func323 (
 .new fun b1=>.r 1<|.u 4 [b1]<|
 .be 6 n.kind 2 (fun p1=>.u 3 [b1]<|
 .lm 9 n.l entA<|.r 3<|.f (aB (Qdi n)) [] (aB (decide ((n.l.length:Int)>0))) (by exact W2n (W1y aB (by unfold Qdi;simp_all))))
 <| fun p1=>.r 6<|.f (aB (Qdi n)) [] (aB false) (by exact W2n (W1y aB (by unfold Qdi;simp_all))))
end Go.Proofs.YtkhodpknpligpaaGreat
