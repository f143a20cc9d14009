import Derived.Test.YtahlldgocpabjaaGreatMrgO
import Derived.Laws.IdiomRangeMap
import Derived.Test.YtahlldgocpabjaaGreatMrgM
import Derived.Test.YtahlldgocpabjaaGreatMrgN
import Derived.Test.YtahlldgocpabjaaGreatMrgB
set_option maxRecDepth 100000
set_option maxHeartbeats 8000000
set_option linter.unusedVariables false
set_option linter.unusedSimpArgs false
namespace Go.Proofs.YtahlldgocpabjaaGreat
open Go Go.RowKit Copyhold Go.Proofs.Tryz
def nodeT (f:Fsy) (_:Nat) (n:Nod):Prop:=1≤n.links∧n.links=(cntG (Qg4 f) n.ino:Int)∧(n.kind=2→n.links=1∧hasB (Qd6 f 1) n.ino=true)
def keyT (f:Fsy) (z:Int):Prop:=Qau f z=true∧¬ z=1
def rightT (f:Fsy):Prop:=Qal f∧(∃ n,f.l[0]?=some n∧n.ino=1∧n.kind=2∧n.links=0)∧(∀ p∈Qg4 f,keyT f p.1)∧AllQ (nodeT f) (f.l.drop 1)
def Qwp (f:Fsy) (sn:List Nat):Prop:=sn.Nodup∧(∀ j∈sn,j<(Qg4 f).length)∧∀ j∈sn,∀ p,(Qg4 f)[j]?=some p→keyT f p.1
theorem Qwp.nil (f:Fsy):Qwp f []:=⟨List.nodup_nil,fun j h=>(by cases h),fun j h=>(by cases h)⟩
theorem Qwp.more {f:Fsy} {sn:List Nat} {j:Nat} {y:Int × Nat} (h:Qwp f sn) (hl:j<(Qg4 f).length) (hn:j ∉ sn) (hy:(Qg4 f)[j]?=some y) (hk:keyT f y.1):Qwp f (j :: sn):=by
 refine ⟨List.nodup_cons.2 ⟨hn,h.1⟩,fun k hk'=>?_,fun k hk' p hp=>?_⟩
 ·rcases List.mem_cons.1 hk' with rfl | hk'
  ·exact hl
  ·exact h.2.1 k hk'
 ·rcases List.mem_cons.1 hk' with rfl | hk'
  ·rw [hy] at hp;obtain rfl:=Option.some.inj hp;exact hk
  ·exact h.2.2 k hk' p hp
theorem Qwp.all {f:Fsy} {sn:List Nat} (h:Qwp f sn) (ha:∀ j,j<(cntM (Qg4 f)).length→j∈sn):∀ p∈Qg4 f,keyT f p.1:=fun p hp=>by
 obtain ⟨j,hj⟩:=List.getElem?_of_mem hp;exact h.2.2 j (ha j (by have:=Qap hj;simpa [cntM] using this)) p hj
theorem Qka (U:List Int) (i:Int) (hl:U.length≤100000):Qaj prog 87 [.sl 1 false (U.map intA),aI i] (aB (hasB U i)):=by
 exact Qad func87 (
 .r 1<|.r 1<|let L1:Lp (Nat):=⟨fun a1=>⟨[(0,.sl 1 false (U.map intA)),(1,aI i),(5,aI (a1:Int))],[]⟩,fun a1=>U.length-a1,fun a1=>Qa7 (fun _ z=>(z==i)=false) U a1⟩
 .lp L1 0 (show Qa7 (fun _ z=>(z==i)=false) U 0 from Qa7.zero _ _) [(5,aI 0)] [] ⟨sR,sR,sO,trivial⟩ trivial fun a1 ha1=>
 (fun (k:Nat) (hH1:Qa7 (fun _ z=>(z==i)=false) U k)=>.r 3<|.lm 8 U intA<|.r 1<|.br 9 (decide ((k:Int)<(U.length:Int))) (fun q1=>have p1:=decT q1;.r 2<|.idxM U intA k (m:=(k:Int)) rfl (by omega) fun x1 hx1=>
 .r 3<|.br 17 (x1==i) (fun q2=>have p2:=beqT q2;.r 1<|.f (aB (hasB U i)) [] (aB true) (by exact Sub.of_eq (congrArg aB (Zmc hx1 (by assumption)).symm)))
 <| fun q2=>have p2:=beqF q2;.run 3 [rng .i64 ((k:Int)+1)] ⟨Qaq (by omega) (by omega),trivial⟩<|
 .bk L1 k (k+1) (show Qa7 (fun _ z=>(z==i)=false) U (k+1) from (hH1.step hx1 (by assumption))) (show U.length-(k+1)<U.length-k from (by omega)) [(5,aI ((k:Int)+1))] [] ⟨sR,sR,sO,trivial⟩ trivial)
 <| fun q1=>have p1:=decF q1;.r 1<|.f (aB (hasB U i)) [] (aB false) (by exact Sub.of_eq (congrArg aB (has_no (hH1.full (by omega))).symm))) a1 ha1)
end Go.Proofs.YtahlldgocpabjaaGreat

namespace Go.Proofs.YtahlldgocpabjaaGreat
open Go Go.RowKit Copyhold Copyhold.Name
abbrev NEnt:=Copyhold.Name.Ent
def entO (x:NEnt):Ent:=⟨x.1,x.2⟩
def lI (l:List Ent):List NEnt:=l.map fun e=>((e.name,e.ino):NEnt)
theorem lI_O (l:List Ent):(lI l).map entO=l:=by
 unfold lI;rw [List.map_map];have:(entO ∘ fun e:Ent=>((e.name,e.ino):NEnt))=id:=by funext e;rfl
 rw [this,List.map_id]
theorem Qlj {s:Txt}:okN s=true↔Qoa s:=by
 simp only [okN,Qoa,Bool.and_eq_true,Bool.not_eq_true',decide_eq_true_eq,beq_eq_false_iff_ne,ne_eq];constructor
 ·rintro ⟨⟨⟨⟨⟨h1,h2⟩,h3⟩,h4⟩,h5⟩,h6⟩;exact ⟨h1,h2,h3,h4,by simpa using h5,by simpa using h6⟩
 ·rintro ⟨h1,h2,h3,h4,h5,h6⟩;exact ⟨⟨⟨⟨⟨h1,h2⟩,h3⟩,h4⟩,by simpa using h5⟩,by simpa using h6⟩
theorem Qwz (l:List NEnt):rightE l=true↔rowP (l.map entO):=by
 simp only [rightE,rowP,Bool.and_eq_true,decide_eq_true_eq,List.all_eq_true,List.mem_range,List.length_map];refine and_congr_right fun _=>⟨fun h i e he=>?_,fun h i hi=>?_⟩
 ·rw [List.getElem?_map] at he;cases hx:l[i]? with
  | none=>rw [hx] at he;cases he
  | some x=>
   rw [hx] at he;obtain rfl:=Option.some.inj he;have:=h i (Qap hx);simp only [okAt,hx,Bool.and_eq_true,okE,decide_eq_true_eq] at this;refine ⟨Qlj.1 this.1.1,this.1.2,fun d h0 hd=>?_⟩;rw [List.getElem?_map] at hd;cases hy:l[i-1]? with
   | none=>rw [hy] at hd;cases hd
   | some y=>
    rw [hy] at hd;obtain rfl:=Option.some.inj hd;have hu:=this.2;simp only [upAt,hy,Bool.or_eq_true,beq_iff_eq,decide_eq_true_eq] at hu;show Op.bytesLess y.1 x.1=true;rw [Qnk];exact decide_eq_true (hu.resolve_left (by omega))
 ·have hx:=List.getElem?_eq_getElem hi;have:=h i (entO l[i]) (by rw [List.getElem?_map,hx];rfl);simp only [okAt,hx,Bool.and_eq_true,okE,decide_eq_true_eq];refine ⟨⟨Qlj.2 this.1,this.2.1⟩,?_⟩;simp only [upAt,Bool.or_eq_true,beq_iff_eq];by_cases h0:i=0
  ·exact .inl h0
  ·have hy:=List.getElem?_eq_getElem (l:=l) (i:=i-1) (by omega);right;rw [hy];have h2:=this.2.2 (entO l[i-1]) (by omega) (by rw [List.getElem?_map,hy];rfl);have h3:Op.bytesLess l[i-1].1 l[i].1=true:=h2;rw [Qnk] at h3;exact h3
theorem Zkv {D:Nat→Prop} {w:World} {vals us:List Value} (hl:us.length=vals.length) (h:∀ (j:Nat) (a:AV) (u:Value),(vals.map AV.val)[j]?=some a→us[j]?=some u→Ra D w a u):us=vals:=by
 apply List.ext_getElem?;intro j;by_cases hj:j<vals.length
 ·have h1:=List.getElem?_eq_getElem hj;have h2:=List.getElem?_eq_getElem (l:=us) (i:=j) (by omega);have:=h j (.val vals[j]) us[j] (by rw [List.getElem?_map,h1];rfl) h2;rw [h1,h2];generalize us[j]=u at this;cases this;rfl
 ·rw [List.getElem?_eq_none (by omega),List.getElem?_eq_none (by omega)]
theorem Ze6 (l:List Ent):(l.map entA).flatten=((l.map fun e=>((e.name,e.ino):NEnt)).flatMap Copyhold.Name.entC).map AV.val:=by
 induction l with
 | nil=>rfl
 | cons e r ih=>
  simp only [List.map_cons,List.flatten_cons,List.flatMap_cons,List.map_append,ih];rfl
theorem Qc1 {l:List Ent} (h:rowP l):Srt (lI l):=Zcg ((Qwz (lI l)).2 (by rw [lI_O];exact h))
def getI (l:List Ent) (s:Txt):Int:=(getE (lI l) s).getD 0
def isB (l:List Ent) (s:Txt):Bool:=isAt (lI l) s
theorem Qq3 {l:List Ent} {s:Txt} (h:isB l s=false):getI l s=0:=by
 unfold getI isB at *;unfold isAt at h;unfold getE;rw [List.find?_eq_none.2 fun x hx=>by simpa using List.any_eq_false.1 h x hx];rfl
theorem Qik {D:Nat→Prop} {w:World} {t:Bool} {l:List Ent} {v:Value} (h:Ra D w (.sl 2 t (l.map entA)) v):∃ A c,v=.slice A (lI l).length c∧Ents w v (lI l):=by
 obtain ⟨us,hsl,hus,hru⟩:=Qh4 h;rw [Ze6] at hru;have hsl0:=hsl;obtain ⟨A,cc,rfl,hc,hl,hh⟩:=hsl0;have hlen:∀ l:List NEnt,(l.flatMap Copyhold.Name.entC).length=l.length*2:=fun l=>by
  induction l with
  | nil=>rfl
  | cons y r ih=>simp only [List.flatMap_cons,List.length_append,ih,List.length_cons];simp [Copyhold.Name.entC];omega
 have e:=Zkv (by rw [hlen,hl];simp) hru;subst e;simp only [List.length_map] at hsl ⊢;have hn:(lI l).length=l.length:=by simp [lI]
 refine ⟨A,cc,by rw [hn],?_⟩;show Sl w 2 _ (lI l).length _;rw [hn];exact hsl
theorem Qgh (a b:Value) (D:Nat→Prop) (w:World):Ra D w (.tup [.val a,.val b]) (.tuple #[a,b]):=.tup _ _ rfl fun j x v hx hv=>by
 match j,hx,hv with
 | 0,hx,hv=>cases hx;cases hv;exact .val _
 | 1,hx,hv=>cases hx;cases hv;exact .val _
 | j+2,hx,_=>simp at hx
theorem Qce {P:Program} {f:FuncId} {args:List AV} {r:AV} {v:Value} (hr:∀ D w,Ra D w r v) (h:∀ D w vs,Qc6 D w args vs→Calls P f vs w (fun e w'=>e=.returned v∧Below w.heap.size w w')):Qaj P f args r:=fun D w vs hD hv=>
 (h D w vs hv).mono fun e w' ⟨h1,h2⟩=>⟨v,D,h1,h2,fun _ h=>h,fun b hb=>⟨Nat.lt_of_lt_of_le (hD b hb) h2.size,.inl hb⟩,hr D w'⟩
theorem Qf8 (l:List Ent) (s:Txt) (hl:l.length≤1000000) (hr:Srt (lI l)):Qaj Tryz.prog 96 [.sl 2 false (l.map entA),aS s] (.tup [aI (getI l s),aB (isB l s)]):=Qce (Qgh _ _) fun D w vs h=>by
 obtain ⟨u,v,rfl,hu,hv⟩:=Qc6.two h;cases hv;obtain ⟨A,c,rfl,he⟩:=Qik hu;exact Zdm (lI l) s A c w he (by simp [lI];omega) hr
theorem Qd9 (l:List Ent) (s:Txt) (hl:l.length≤1000000):Qaj Tryz.prog 115 [.sl 2 false (l.map entA),aS s] (.tup [aI (getI l s),aB (isB l s)]):=Qce (Qgh _ _) fun D w vs h=>by
 obtain ⟨u,v,rfl,hu,hv⟩:=Qc6.two h;cases hv;obtain ⟨A,c,rfl,he⟩:=Qik hu;exact (Qzr (lI l) s A c w he (by simp [lI];omega)).mono fun e w' ⟨g1,g2⟩=>⟨g1,g2 ▸ Below.refl _ _⟩
theorem Zgp {D:Nat→Prop} {w:World} {l:List Txt} {v:Value} (h:Row w v (l.map strV)) (hat:At D v):Ra D w (.sl 1 false (l.map txA)) v:=by
 rcases h with ⟨a,c,rfl,he⟩ | ⟨b,off,cap,rfl,h0,hc,hb,hcell⟩
 ·have:l=[]:=by simpa using he
  subst this;exact .sl 1 false [] a c 0 0 (fun _ _=>undef) (Nat.zero_le _) (fun h=>by cases h) (fun h=>absurd h (by simp)) (fun i e h=>by simp at h) (fun i e j x h=>by simp at h) (fun i e j x h=>by simp at h)
 ·have key:∀ (i:Nat) (e:List AV) (j:Nat) (x:AV),(l.map txA)[i]?=some e→e[j]?=some x→∃ y,l[i]?=some y∧j=0∧x=aS y:=by
   intro i e j x he hx;rw [List.getElem?_map] at he;cases hli:l[i]? with
   | none=>rw [hli] at he;cases he
   | some y=>
    rw [hli] at he;obtain rfl:=Option.some.inj he
    match j,hx with
    | 0,hx=>obtain rfl:=Option.some.inj hx;exact ⟨y,rfl,rfl,rfl⟩
    | j+1,hx=>simp [txA] at hx
  have:=Ra.sl (D:=D) (w:=w) 1 false (l.map txA) (some ⟨b,off,none⟩) cap b off (fun i _=>strV (l.getD i [])) (by simpa using hc) (fun h=>by cases h) (fun _=>⟨rfl,hat h0,hb⟩)
   (fun i e he=>by
    rw [List.getElem?_map] at he;cases hli:l[i]? with
    | none=>rw [hli] at he;cases he
    | some y=>rw [hli] at he;obtain rfl:=Option.some.inj he;rfl)
   (fun i e j x he hx=>by
    obtain ⟨y,h1,rfl,rfl⟩:=key i e j x he hx;simp only [List.getD,h1,Option.getD_some];refine ⟨?_,rfl⟩;have:=hcell i (strV y) (by rw [List.getElem?_map,h1];rfl);rw [show off+(i*1+0)=off+i from by omega];exact this)
   (fun i e j x he hx=>by
    obtain ⟨y,h1,rfl,rfl⟩:=key i e j x he hx;simp only [List.getD,h1,Option.getD_some];exact .val _)
  simp only [List.length_map] at this ⊢;exact this
theorem Zm3 {D1 D2 D3:Nat→Prop} {v:Value} (h1:At D1 v) (h2:At D2 v) (h:∀ b,D1 b→D2 b→D3 b):At D3 v:=by
 unfold At at h1 h2 ⊢
 split
 ·exact fun h0=>h _ (h1 h0) (h2 h0)
 ·trivial
end Go.Proofs.YtahlldgocpabjaaGreat

namespace Go.Proofs.YtahlldgocpabjaaGreat
open Go Go.RowKit Copyhold Go.Proofs.Tryz
def Qav (l:List Int):Int:=(l.find? fun z=>z != 0).getD 0
def Qaf (b:Bool) (e:Int):Int:=if b then e else 0
theorem Zii {l:List Int} (h:AllQ (fun _ z=>(z != 0)=false) l):Qav l=0:=by
 unfold Qav;rw [List.find?_eq_none.2 fun x hx=>by obtain ⟨j,hj⟩:=List.getElem?_of_mem hx;rw [h j x hj];simp];rfl
theorem Qx2:∀ {l:List Int} {k:Nat} {x:Int},Qa7 (fun _ z=>(z != 0)=false) l k→l[k]?=some x→(x != 0)=true→Qav l=x
 | y :: r,0,x,_,hx,hp=>by simp at hx;subst hx;simp [Qav,hp]
 | y :: r,k+1,x,h,hx,hp=>by
  have h1:=h 0 y (by omega) rfl;have h2:=Qx2 (l:=r) (k:=k) (fun j e hj he=>h (j+1) e (by omega) (by simpa using he)) (by simpa using hx) hp;unfold Qav at h2 ⊢;rw [List.find?_cons,h1];exact h2
theorem Qn0 {t:Bool} (a b c:Int):Sub (.sl 1 t [[aI a],[aI b],[aI c]]) (.sl 1 false ([a,b,c].map intA)):=Sub.loose _ _ _
theorem Qph {t:Bool} (a b:Int):Sub (.sl 1 t [[aI a],[aI b]]) (.sl 1 false ([a,b].map intA)):=Sub.loose _ _ _
theorem Qpi {a b:Int}:Qav [a,b]=if a=0 then b else a:=by
 unfold Qav;by_cases h:a=0
 ·by_cases h2:b=0
  ·simp [h,h2]
  ·simp [h,h2]
 ·simp [h]
theorem Qi1 {a b c:Int}:Qav [a,b,c]=if a=0 then (if b=0 then c else b) else a:=by
 unfold Qav;by_cases h:a=0
 ·by_cases h2:b=0
  ·by_cases h3:c=0
   ·simp [h,h2,h3]
   ·simp [h,h2,h3]
  ·simp [h,h2]
 ·simp [h]
def dirE (f:Fsy) (i:Int):Int:=if Qau f i=true then (if (Qaa f i).kind=2 then 0 else 8) else 6
def dirN (f:Fsy) (i:Int):Nod:=if dirE f i=0 then Qaa f i else nod0
theorem Zkl {f:Fsy} {i:Int} (h:Qau f i=false):dirE f i=6∧dirN f i=nod0:=by
 have e:dirE f i=6:=by unfold dirE;rw [h];rfl
 exact ⟨e,by unfold dirN;rw [e];rfl⟩
theorem Zkk {f:Fsy} {i:Int} (h:Qau f i=true) (h2:¬ (Qaa f i).kind=2):dirE f i=8∧dirN f i=nod0:=by
 have e:dirE f i=8:=by unfold dirE;rw [if_pos h,if_neg h2]
 exact ⟨e,by unfold dirN;rw [e];rfl⟩
theorem Qyb {f:Fsy} {i:Int} (h:Qau f i=true) (h2:(Qaa f i).kind=2):dirE f i=0∧dirN f i=Qaa f i:=by
 have e:dirE f i=0:=by unfold dirE;rw [if_pos h,if_pos h2]
 exact ⟨e,by unfold dirN;rw [e];rfl⟩
theorem Qfm {f:Fsy} {i:Int} (h:Qau f i=true):Qaa f i∈f.l:=by
 unfold Qau at h;unfold Qaa;cases hf:f.l.find? (isNo i) with
 | none=>rw [List.find?_eq_none] at hf;obtain ⟨x,hx,hi⟩:=List.any_eq_true.1 h;exact absurd hi (hf x hx)
 | some n=>exact List.mem_of_find?_eq_some hf
theorem Qxd {n:Nod} (h:nodP n):Name.Srt (lI n.l)∧n.l.length≤256:=by
 rcases h.2.2.2 with ⟨_,_,h⟩ | ⟨_,_,h⟩
 ·exact ⟨Qc1 h,h.1⟩
 ·rw [h];exact ⟨List.Pairwise.nil,by decide⟩
theorem Qdi {f:Fsy} (h:Qal f) (i:Int):Name.Srt (lI (dirN f i).l)∧(dirN f i).l.length≤256:=by
 unfold dirN
 split
 ·rename_i e;by_cases hb:Qau f i=true
  ·exact Qxd ((Qbp.1 h).2.2.1 _ (Qfm hb)).1
  ·unfold dirE at e;rw [if_neg hb] at e;cases e
 ·exact ⟨List.Pairwise.nil,by decide⟩
theorem Zey {f:Fsy} (h:Qal f):Qau f 0=false:=by
 unfold Qau;rw [List.any_eq_false];intro n hn;have:=((Qbp.1 h).2.2.1 n hn).1.1;have hne:¬ n.ino=0:=by omega
 simp [isNo,hne]
def Qds (f:Fsy) (i:Int) (s:Txt):Int:=getI (dirN f i).l s
noncomputable def Qa2 (f:Fsy) (i:Int) (s:Txt):Int:=Qav [dirE f i,Qai s,Qaf (!(Qau f (Qds f i s))) 6]
noncomputable def lookN (f:Fsy) (i:Int) (s:Txt):Nod:=if Qa2 f i s=0 then Qaa f (Qds f i s) else nod0
theorem Qlb {f:Fsy} {i:Int} {s:Txt} (h:¬ Qa2 f i s=0):lookN f i s=nod0:=if_neg h
theorem Qqr {f:Fsy} {i:Int} {s:Txt} (h:Qa2 f i s=0):lookN f i s=Qaa f (Qds f i s):=if_pos h
theorem Qdv {n:Nod} (h:n=nod0):Sub (.agg [aI 0,aI 0,aI 0,aS [],aN]) (.agg (nodA n)):=by
 subst h;exact Sub.aggs ⟨sR,sR,sR,sR,Sub.nil _ _,trivial⟩
theorem Qcl (l:List Int) (hl:l.length≤100000):Qaj prog 181 [.sl 1 false (l.map intA)] (aI (Qav l)):=by
 exact Qad func181 (
 .r 1<|.r 2<|.lm 6 l intA<|.r 1<|let L1:Lp (Nat):=⟨fun a1=>⟨[(5,.sl 1 false (l.map intA)),(6,aI (l.length:Int)),(7,aI (a1:Int))],[]⟩,fun a1=>l.length-a1,fun a1=>Qa7 (fun _ z=>(z != 0)=false) l a1⟩
 .lp L1 0 (show Qa7 (fun _ z=>(z != 0)=false) l 0 from Qa7.zero _ _) [(7,aI 0)] [] ⟨sR,sR,sO,trivial⟩ trivial fun a1 ha1=>
 (fun (k:Nat) (hH1:Qa7 (fun _ z=>(z != 0)=false) l k)=>.r 1<|.br 8 (decide ((k:Int)<(l.length:Int))) (fun q1=>have p1:=decT q1;.idxM l intA k (m:=(k:Int)) rfl (by omega) fun x1 hx1=>
 .r 2<|.r 2<|.br 12 (x1 != 0) (fun q2=>have p2:=bneT q2;.r 2<|.f (aI (Qav l)) [] (aI x1) (by exact Sub.of_eq (congrArg aI (Qx2 hH1 hx1 (by assumption)).symm)))
 <| fun q2=>have p2:=bneF q2;.run 2 [rng .i64 ((k:Int)+1)] ⟨Qaq (by omega) (by omega),trivial⟩<|
 .bk L1 k (k+1) (show Qa7 (fun _ z=>(z != 0)=false) l (k+1) from (hH1.step hx1 (by assumption))) (show l.length-(k+1)<l.length-k from (by omega)) [(7,aI ((k:Int)+1))] [] ⟨sR,sR,sO,trivial⟩ trivial)
 <| fun q1=>have p1:=decF q1;.r 1<|.f (aI (Qav l)) [] (aI 0) (by exact Sub.of_eq (congrArg aI (Zii (hH1.full (by omega))).symm))) a1 ha1)
theorem Qbo (b:Bool) (e:Int):Qaj prog 182 [aB b,aI e] (aI (Qaf b e)):=by
 exact Qad func182 (
 .r 1<|.r 1<|.bb 5 b (fun p1=>.r 2<|.f (aI (Qaf b e)) [] (aI e) (by exact Sub.of_eq (congrArg aI (by unfold Qaf;simp [*]))))
 <| fun p1=>.r 1<|.f (aI (Qaf b e)) [] (aI 0) (by exact Sub.of_eq (congrArg aI (by unfold Qaf;simp [*]))))
theorem Qin (f:Fsy) (i:Int) (hp:Qal f):Qaj prog 95 [.agg (fsyA f),aI i] (.tup [.agg (nodA (dirN f i)),aI (dirE f i)]):=by
 have hl:=hp.1;have hr:=Qae hp;exact Qad func95 (
 .new fun b1=>.new fun b2=>.r 1<|.u 2 [b1]<|
 .call (Qcg f i (by omega) hr)<|
 .r 3<|.new fun b3=>.u 2 [b3]<|
 .r 2<|.br 15 (!(Qau f i)) (fun q1=>have q1:=notT q1;have p1:=booF q1;.u 3 [b2]<|
 .f (.tup [.agg (nodA (dirN f i)),aI (dirE f i)]) [b2] (.tup [.agg [aI 0,aI 0,aI 0,aS ([]),aN],aI 6]) (by
  obtain ⟨e1,e2⟩:=Zkl q1;exact Sub.tups ⟨Qdv e2,Sub.of_eq (congrArg aI e1.symm),trivial⟩))
 <| fun q1=>have q1:=notF q1;have p1:=booT q1;.u 3 [b3]<|
 .br 19 (((Qaa f i).kind) != 2) (fun q2=>have p2:=bneT q2;.u 3 [b2]<|
 .f (.tup [.agg (nodA (dirN f i)),aI (dirE f i)]) [b2] (.tup [.agg [aI 0,aI 0,aI 0,aS ([]),aN],aI 8]) (by
  obtain ⟨e1,e2⟩:=Zkk q1 (by assumption);exact Sub.tups ⟨Qdv e2,Sub.of_eq (congrArg aI e1.symm),trivial⟩))
 <| fun q2=>have p2:=bneF q2;.u 3 [b3,b2]<|
 .f (.tup [.agg (nodA (dirN f i)),aI (dirE f i)]) [b2] (.tup [.agg [aI ((Qaa f i).ino),aI ((Qaa f i).kind),aI ((Qaa f i).links),aS ((Qaa f i).text),.sl 2 false ((Qaa f i).l.map entA)],aI 0]) (by
  obtain ⟨e1,e2⟩:=Qyb q1 (by assumption);rw [e1,e2];exact sR))
theorem Qhf (f:Fsy) (i:Int) (hp:Qal f):Qaj prog 75 [.agg (fsyA f),aI i] (.tup [.agg (nodA (dirN f i)),aI (dirE f i)]):=by
 have hl:=hp.1;have hr:=Qae hp;exact Qad func75 (
 .new fun b1=>.new fun b2=>.r 1<|.u 2 [b1]<|
 .call (Qba f i (by omega))<|
 .r 3<|.new fun b3=>.u 2 [b3]<|
 .r 2<|.br 15 (!(Qau f i)) (fun q1=>have q1:=notT q1;have p1:=booF q1;.u 3 [b2]<|
 .f (.tup [.agg (nodA (dirN f i)),aI (dirE f i)]) [b2] (.tup [.agg [aI 0,aI 0,aI 0,aS ([]),aN],aI 6]) (by
  obtain ⟨e1,e2⟩:=Zkl q1;exact Sub.tups ⟨Qdv e2,Sub.of_eq (congrArg aI e1.symm),trivial⟩))
 <| fun q1=>have q1:=notF q1;have p1:=booT q1;.u 3 [b3]<|
 .br 19 (((Qaa f i).kind) != 2) (fun q2=>have p2:=bneT q2;.u 3 [b2]<|
 .f (.tup [.agg (nodA (dirN f i)),aI (dirE f i)]) [b2] (.tup [.agg [aI 0,aI 0,aI 0,aS ([]),aN],aI 8]) (by
  obtain ⟨e1,e2⟩:=Zkk q1 (by assumption);exact Sub.tups ⟨Qdv e2,Sub.of_eq (congrArg aI e1.symm),trivial⟩))
 <| fun q2=>have p2:=bneF q2;.u 3 [b3,b2]<|
 .f (.tup [.agg (nodA (dirN f i)),aI (dirE f i)]) [b2] (.tup [.agg [aI ((Qaa f i).ino),aI ((Qaa f i).kind),aI ((Qaa f i).links),aS ((Qaa f i).text),.sl 2 false ((Qaa f i).l.map entA)],aI 0]) (by
  obtain ⟨e1,e2⟩:=Qyb q1 (by assumption);rw [e1,e2];exact sR))
theorem Qj6 (f:Fsy) (i:Int) (s:Txt) (hp:Qal f) (hs:s.length≤1000000):Qaj prog 173 [.agg (fsyA f),aI i,aS s] (.tup [.agg (nodA (lookN f i s)),aI (Qa2 f i s)]):=by
 have hl:=hp.1;have hr:=Qae hp;exact Qad func173 (
 .new fun b1=>.new fun b2=>.r 1<|.u 2 [b1]<|
 .call (Qin f i hp)<|
 .r 3<|.new fun b3=>.u 2 [b3]<|
 .u 3 [b3]<|
 .call (Qf8 ((dirN f i).l) s (by have:=(Qdi hp i).2;omega) (Qdi hp i).1)<|
 .r 5<|.u 2 [b1]<|
 .call (Qcg f (getI ((dirN f i).l) s) (by omega) hr)<|
 .r 3<|.new fun b4=>.u 2 [b4]<|
 .r 2<|.call (Qe1 s (by omega))<|
 .r 2<|.call (Qbo (!(Qau f (getI ((dirN f i).l) s))) 6)<|
 .r 1<|.cs (args0:=[.sl 1 true ([[aI (dirE f i)],[aI (Qai s)],[aI (Qaf (!(Qau f (getI ((dirN f i).l) s))) 6)]])]) (Qcl [(dirE f i),(Qai s),(Qaf (!(Qau f (getI ((dirN f i).l) s))) 6)] (by simp)) ⟨Qn0 (dirE f i) (Qai s) (Qaf (!(Qau f (getI ((dirN f i).l) s))) 6),trivial⟩<|
 .r 1<|.r 2<|.br 42 ((Qav [(dirE f i),(Qai s),(Qaf (!(Qau f (getI ((dirN f i).l) s))) 6)]) != 0) (fun q1=>have p1:=bneT q1;.u 4 [b2]<|
 .f (.tup [.agg (nodA (lookN f i s)),aI (Qa2 f i s)]) [b2] (.tup [.agg [aI 0,aI 0,aI 0,aS ([]),aN],aI (Qav [(dirE f i),(Qai s),(Qaf (!(Qau f (getI ((dirN f i).l) s))) 6)])]) (by
  have e:¬ Qa2 f i s=0:=by assumption
  exact Sub.tups ⟨Qdv (Qlb e),sR,trivial⟩))
 <| fun q1=>have p1:=bneF q1;.u 3 [b4,b2]<|
 .f (.tup [.agg (nodA (lookN f i s)),aI (Qa2 f i s)]) [b2] (.tup [.agg [aI ((Qaa f (getI ((dirN f i).l) s)).ino),aI ((Qaa f (getI ((dirN f i).l) s)).kind),aI ((Qaa f (getI ((dirN f i).l) s)).links),aS ((Qaa f (getI ((dirN f i).l) s)).text),.sl 2 false ((Qaa f (getI ((dirN f i).l) s)).l.map entA)],aI 0]) (by
  have e:Qa2 f i s=0:=by assumption
  rw [Qqr e,e];exact sR))
theorem Qea (f:Fsy) (i:Int) (s:Txt) (hp:Qal f) (hs:s.length≤1000000):Qaj prog 66 [.agg (fsyA f),aI i,aS s] (.tup [.agg (nodA (lookN f i s)),aI (Qa2 f i s)]):=by
 have hl:=hp.1;have hr:=Qae hp;exact Qad func66 (
 .new fun b1=>.new fun b2=>.r 1<|.u 2 [b1]<|
 .call (Qhf f i hp)<|
 .r 3<|.new fun b3=>.u 2 [b3]<|
 .r 2<|.br 22 ((dirE f i) != 0) (fun q1=>have p1:=bneT q1;.u 4 [b2]<|
 .f (.tup [.agg (nodA (lookN f i s)),aI (Qa2 f i s)]) [b2] (.tup [.agg [aI 0,aI 0,aI 0,aS ([]),aN],aI (dirE f i)]) (by
  have e0:Qa2 f i s=dirE f i:=by
   unfold Qa2;rw [Qi1];simp_all [Qaf,Qds]
  exact Sub.tups ⟨Qdv (Qlb (by omega)),Sub.of_eq (congrArg aI e0.symm),trivial⟩))
 <| fun q1=>have p1:=bneF q1;.r 1<|.call (Qeb s (by omega))<|
 .r 1<|.r 2<|.br 28 ((Qai s) != 0) (fun q2=>have p2:=bneT q2;.u 4 [b2]<|
 .f (.tup [.agg (nodA (lookN f i s)),aI (Qa2 f i s)]) [b2] (.tup [.agg [aI 0,aI 0,aI 0,aS ([]),aN],aI (Qai s)]) (by
  have e0:Qa2 f i s=Qai s:=by
   unfold Qa2;rw [Qi1];simp_all [Qaf,Qds]
  exact Sub.tups ⟨Qdv (Qlb (by omega)),Sub.of_eq (congrArg aI e0.symm),trivial⟩))
 <| fun q2=>have p2:=bneF q2;.u 3 [b3]<|
 .call (Qd9 ((dirN f i).l) s (by have:=(Qdi hp i).2;omega))<|
 .r 5<|.r 2<|.br 39 (!(isB ((dirN f i).l) s)) (fun q3=>have q3:=notT q3;have p3:=booF q3;.u 3 [b2]<|
 .f (.tup [.agg (nodA (lookN f i s)),aI (Qa2 f i s)]) [b2] (.tup [.agg [aI 0,aI 0,aI 0,aS ([]),aN],aI 6]) (by
  have e0:Qa2 f i s=6:=by
   have hz:Qds f i s=0:=Qq3 (by assumption);have hz2:=Zey hp;unfold Qa2;rw [Qi1];simp_all [Qaf,Qds]
  exact Sub.tups ⟨Qdv (Qlb (by omega)),Sub.of_eq (congrArg aI e0.symm),trivial⟩))
 <| fun q3=>have q3:=notF q3;have p3:=booT q3;.u 2 [b1]<|
 .call (Qba f (getI ((dirN f i).l) s) (by omega))<|
 .r 3<|.new fun b4=>.u 2 [b4]<|
 .r 2<|.nbb 48 (Qau f (getI ((dirN f i).l) s)) (fun p4=>.u 3 [b2]<|
 .f (.tup [.agg (nodA (lookN f i s)),aI (Qa2 f i s)]) [b2] (.tup [.agg [aI 0,aI 0,aI 0,aS ([]),aN],aI 6]) (by
  have e0:Qa2 f i s=6:=by
   unfold Qa2;rw [Qi1];simp_all [Qaf,Qds]
  exact Sub.tups ⟨Qdv (Qlb (by omega)),Sub.of_eq (congrArg aI e0.symm),trivial⟩))
 <| fun p4=>.u 3 [b4,b2]<|
 .f (.tup [.agg (nodA (lookN f i s)),aI (Qa2 f i s)]) [b2] (.tup [.agg [aI ((Qaa f (getI ((dirN f i).l) s)).ino),aI ((Qaa f (getI ((dirN f i).l) s)).kind),aI ((Qaa f (getI ((dirN f i).l) s)).links),aS ((Qaa f (getI ((dirN f i).l) s)).text),.sl 2 false ((Qaa f (getI ((dirN f i).l) s)).l.map entA)],aI 0]) (by
  have e0:Qa2 f i s=0:=by
   unfold Qa2;rw [Qi1];simp_all [Qaf,Qds]
  rw [Qqr e0,e0];exact sR))
end Go.Proofs.YtahlldgocpabjaaGreat

namespace Go.Proofs.YtahlldgocpabjaaGreat
open Go Go.RowKit Copyhold Go.Proofs.Tryz
open Copyhold.Name in
theorem Qm9 (l:List Ent) (s:Txt) (hl:l.length≤1000000) (hr:Srt (lI l)):Qaj prog 156 [.sl 2 false (l.map entA),aS s] (.tup [aI (pos (lI l) s:Int),aB (isB l s)]):=Qce (Qgh _ _) fun D w vs h=>by
 obtain ⟨u,v,rfl,hu,hv⟩:=Qc6.two h;cases hv;obtain ⟨A,c,rfl,he⟩:=Qik hu;exact (Qpb (lI l) s A c w he (by simp [lI];omega) hr)
def posI (l:List Ent) (s:Txt):Nat:=Name.pos (lI l) s
theorem Qbl (l:List Ent) (s:Txt):posI l s≤l.length:=by
 have:=Name.pos_le (lI l) s;have h:(lI l).length=l.length:=by simp [lI]
 unfold posI;omega
noncomputable def entE (l:List Ent) (s:Txt) (n:Int):Int:=if (Qai s != 0)=true then 10 else if n<1 then 1 else if isB l s=true then 7 else if (l.length:Int)≥256 then 12 else 0
noncomputable def entL (l:List Ent) (s:Txt) (n:Int):List Ent:=if entE l s n=0 then l.take (posI l s)++⟨s,n⟩ :: l.drop (posI l s) else l
theorem Zam (l:List Ent) (s:Txt) (n:Int) (hl:l.length≤256) (hr:Name.Srt (lI l)) (hs:s.length≤1000000) (hn:I64 n):Qaj prog 221 [.sl 2 false (l.map entA),aS s,aI n] (.tup [.sl 2 false ((entL l s n).map entA),aI (entE l s n)]):=by
 have hn1:=hn.1;exact Qad func221 (
 .r 2<|.r 2<|.call (Qm9 l s (by omega) hr)<|
 .r 5<|.r 1<|.r 1<|.call (Qe1 s (by omega))<|
 .r 2<|.br 18 ((Qai s) != 0) (fun q1=>have p1:=bneT q1;.r 1<|.r 2<|.is 32 (show (10 != 0)=true from rfl)<|.r 4<|.f (.tup [.sl 2 false ((entL l s n).map entA),aI (entE l s n)]) [] (.tup [.sl 2 false (l.map entA),aI 10]) (by
  have e:entE l s n=10:=by
   unfold entE;rw [if_pos q1]
  have e2:entL l s n=l:=if_neg (by omega);rw [e,e2];exact Sub.tups ⟨by first | exact sR | exact Sub.loose _ _ _,sR,trivial⟩))
 <| fun q1=>have p1:=bneF q1;.r 3<|.bd 22 (n<1) (fun p2=>.r 1<|.r 2<|.is 32 (show (1 != 0)=true from rfl)<|.r 4<|.f (.tup [.sl 2 false ((entL l s n).map entA),aI (entE l s n)]) [] (.tup [.sl 2 false (l.map entA),aI 1]) (by
  have e:entE l s n=1:=by
   unfold entE;rw [if_neg (by rw [q1];decide)];rw [if_pos (by omega)]
  have e2:entL l s n=l:=if_neg (by omega);rw [e,e2];exact Sub.tups ⟨by first | exact sR | exact Sub.loose _ _ _,sR,trivial⟩))
 <| fun p2=>.r 2<|.br 25 (isB l s) (fun q3=>have p3:=booT q3;.r 1<|.r 2<|.is 32 (show (7 != 0)=true from rfl)<|.r 4<|.f (.tup [.sl 2 false ((entL l s n).map entA),aI (entE l s n)]) [] (.tup [.sl 2 false (l.map entA),aI 7]) (by
  have e:entE l s n=7:=by
   unfold entE;rw [if_neg (by rw [q1];decide)];rw [if_neg (by omega)];rw [if_pos q3]
  have e2:entL l s n=l:=if_neg (by omega);rw [e,e2];exact Sub.tups ⟨by first | exact sR | exact Sub.loose _ _ _,sR,trivial⟩))
 <| fun q3=>have p3:=booF q3;.r 2<|.lm 29 l entA<|.r 2<|.bd 27 ((l.length:Int)≥256) (fun p4=>.r 1<|.r 2<|.is 32 (show (12 != 0)=true from rfl)<|.r 4<|.f (.tup [.sl 2 false ((entL l s n).map entA),aI (entE l s n)]) [] (.tup [.sl 2 false (l.map entA),aI 12]) (by
  have e:entE l s n=12:=by
   unfold entE;rw [if_neg (by rw [q1];decide)];rw [if_neg (by omega)];rw [if_neg (by rw [q3];decide)];rw [if_pos (by omega)]
  have e2:entL l s n=l:=if_neg (by omega);rw [e,e2];exact Sub.tups ⟨by first | exact sR | exact Sub.loose _ _ _,sR,trivial⟩))
 <| fun p4=>.r 2<|.is 32 (show (0 != 0)=false from rfl)<|.r 2<|.lm 36 l entA<|.run 1 [rng .i64 ((l.length:Int)+1)] ⟨Qaq (by omega) (by omega),trivial⟩<|
 .mk0 24 (l.length+1) (show (l.length:Int)+1=((l.length+1:Nat):Int) from by omega) (by have hq:=Qbl l s;simp<;>omega) (by have hq:=Qbl l s;simp<;>omega) fun V1=>
 .r 1<|.r 3<|.slc 2 false (l.map entA) none (some (posI l s:Int)) none 0 (posI l s) false (.inl ⟨rfl,rfl⟩) (.inr rfl) (.inl ⟨rfl,fun h=>by cases h⟩) (by have hq:=Qbl l s;first | omega | (rw [List.length_map];omega) | (simp<;>omega)) (by have hq:=Qbl l s;first | omega | (rw [List.length_map];omega) | (simp<;>omega))<|
 .app 24 V1 ([]:List (List AV)) (((l.map entA).take (posI l s)).drop 0) (by have hq:=Qbl l s;simp<;>omega) (by have hq:=Qbl l s;simp<;>omega) fun V2=>
 .r 1<|.r 5<|.app 24 V2 (([]:List (List AV))++(((l.map entA).take (posI l s)).drop 0)) ([[aS s,aI n]]) (by have hq:=Qbl l s;simp<;>omega) (by have hq:=Qbl l s;simp<;>omega) fun V3=>
 .r 1<|.r 3<|.slc 2 false (l.map entA) (some (posI l s:Int)) none none (posI l s) ((l.map entA).length) false (.inr rfl) (.inl ⟨rfl,rfl⟩) (.inl ⟨rfl,fun h=>by cases h⟩) (by have hq:=Qbl l s;first | omega | (rw [List.length_map];omega) | (simp<;>omega)) (by have hq:=Qbl l s;first | omega | (rw [List.length_map];omega) | (simp<;>omega))<|
 .app 24 V3 ((([]:List (List AV))++(((l.map entA).take (posI l s)).drop 0))++([[aS s,aI n]])) (((l.map entA).take ((l.map entA).length)).drop (posI l s)) (by have hq:=Qbl l s;simp<;>omega) (by have hq:=Qbl l s;simp<;>omega) fun V4=>
 .r 2<|.frz 38 [6,7] [] [V4=V4,((([]:List (List AV))++(((l.map entA).take (posI l s)).drop 0))++([[aS s,aI n]])).length+(((l.map entA).take ((l.map entA).length)).drop (posI l s)).length=(((([]:List (List AV))++(((l.map entA).take (posI l s)).drop 0))++([[aS s,aI n]]))++(((l.map entA).take ((l.map entA).length)).drop (posI l s))).length] ⟨rfl,(by first | rfl | (simp;done) | (simp;omega)),trivial⟩<|
 .f (.tup [.sl 2 false ((entL l s n).map entA),aI (entE l s n)]) [] (.tup [.sl 2 false (((([]:List (List AV))++(((l.map entA).take (posI l s)).drop 0))++([[aS s,aI n]]))++(((l.map entA).take ((l.map entA).length)).drop (posI l s))),aI 0]) (by
  have e:entE l s n=0:=by
   unfold entE;rw [if_neg (by rw [q1];decide)];rw [if_neg (by omega)];rw [if_neg (by rw [q3];decide)];rw [if_neg (by omega)]
  have e2:entL l s n=l.take (posI l s)++⟨s,n⟩ :: l.drop (posI l s):=if_pos e;rw [e,e2];exact Sub.tups ⟨Sub.of_eq (congrArg (AV.sl 2 false) (by simp [entA,List.map_take,List.map_drop,Qa0])),sR,trivial⟩))
end Go.Proofs.YtahlldgocpabjaaGreat

namespace Go.Proofs.YtahlldgocpabjaaGreat
open Go Go.RowKit Copyhold Go.Proofs.Tryz
def Qbj (n:Nod) (l:List Ent):Nod:=⟨n.ino,n.kind,n.links,n.text,l⟩
noncomputable def enterF (f:Fsy) (d:Int) (s:Txt) (i:Int):Fsy:=putF f (Qbj (Qaa f d) (entL (Qaa f d).l s i))
theorem Qb9 {f:Fsy} (okf:OkF f) (hp:Qal f) (i:Int):I64 (Qaa f i).ino∧(Qaa f i).ino<9223372036854775807:=by
 refine ⟨(Qgr okf i).1,?_⟩;by_cases h:Qau f i=true
 ·have:=((Qbp.1 hp).2.2.1 _ (Qfm h)).2;have:=okf.1.2;omega
 ·have h':Qau f i=false:=by simpa using h
  unfold Qaa Qau at *;rw [List.find?_eq_none.2 fun x hx=>by simpa using List.any_eq_false.1 h' x hx];decide
theorem Qev {f:Fsy} (h:Qal f) (i:Int):Name.Srt (lI (Qaa f i).l)∧(Qaa f i).l.length≤256:=by
 by_cases hb:Qau f i=true
 ·exact Qxd ((Qbp.1 h).2.2.1 _ (Qfm hb)).1
 ·have h':Qau f i=false:=by simpa using hb
  unfold Qaa Qau at *;rw [List.find?_eq_none.2 fun x hx=>by simpa using List.any_eq_false.1 h' x hx];exact ⟨List.Pairwise.nil,by decide⟩
theorem Qgt (f:Fsy) (dir:Int) (s:Txt) (ino:Int) (okf:OkF f) (hp:Qal f) (hs:s.length≤1000000) (hi:I64 ino):Qaj prog 186 [.agg (fsyA f),aI dir,aS s,aI ino] (.agg (fsyA (enterF f dir s ino))):=by
 have hl:=hp.1;have hr:=Qae hp;exact Qad func186 (let R:AV:=.agg (fsyA (enterF f dir s ino));
 .new fun b1=>.new fun b2=>.u 2 [b1]<|
 .call (Qcg f dir (by omega) hr)<|
 .r 3<|.new fun b3=>.u 2 [b3]<|
 .u 4 [b3]<|
 .call (Zam ((Qaa f dir).l) s ino (Qev hp dir).2 (Qev hp dir).1 (by omega) hi)<|
 .u 5 [b3]<|
 .u 2 [b1,b3]<|
 .cs (args0:=[.agg (fsyA f),.agg [aI ((Qaa f dir).ino),aI ((Qaa f dir).kind),aI ((Qaa f dir).links),aS ((Qaa f dir).text),.sl 2 false ((entL ((Qaa f dir).l) s ino).map entA)]]) (Qfi f (Qbj (Qaa f dir) (entL (Qaa f dir).l s ino)) (Qb9 okf hp dir) (by omega) hr) sr2<|
 .u 1 [b2]<|
 .fi R [b2])
theorem Qmh (f:Fsy) (d:Int) (s:Txt) (i:Int):(enterF f d s i).l.length≤f.l.length+1:=Qm3 _ _
theorem Qil {f:Fsy} (h:Qal f) (d:Int) (s:Txt) (i:Int):Qbu (enterF f d s i).l:=Qia (Qae h)
noncomputable def addF (f:Fsy) (d:Int) (s:Txt) (n:Nod):Fsy:=putF (enterF f d s n.ino) (Qbj n [])
theorem Zge (f:Fsy) (dir:Int) (s:Txt) (n:Nod) (b:Nat) (okf:OkF f) (hp:Qal f) (hs:s.length≤1000000) (hn:I64 n.ino∧n.ino<9223372036854775807):Qrq prog 217 [.ptr 7 b 0,.dptr (fsyA f),.dptr [aI dir],.dptr [aS s]] (.box b 84 (nodA n)) (.agg (fsyA (addF f dir s n))):=by
 have hl:=hp.1;have hr:=Qae hp;exact Qj4 (q:=7) func217 (let R:AV:=.agg (fsyA (addF f dir s n));
 .new fun b1=>.run 2 [b=b] rt1<|
 .ord [0,1,2,3,4,6,5,7,8]<|.run 6 [b=b,b=b] rt2<|
 .call (Qgt f dir s n.ino okf hp (by omega) hn.1)<|
 .cs (args0:=[.agg [.sl 5 false ((enterF f dir s n.ino).l.map nodA),aI ((enterF f dir s n.ino).next)],.agg [aI n.ino,aI n.kind,aI n.links,aS n.text,aN]]) (Qfi (enterF f dir s n.ino) (Qbj n []) hn (by have:=Qmh f dir s n.ino;omega) (Qil hp dir s n.ino)) ⟨sR,Sub.aggs ⟨sR,sR,sR,sR,Sub.nil _ _,trivial⟩,trivial⟩<|
 .u 1 [b1]<|
 .fi R [b1])
theorem Qfe (e:Int) (f:Fsy) (dir:Int) (s:Txt) (n:Nod) (b:Nat) (okf:OkF f) (hp:Qal f) (hs:s.length≤1000000) (hn:I64 n.ino∧n.ino<9223372036854775807):Qrq prog 184 [.agg (fsyA f),aI e,.clo 217 [.ptr 7 b 0,.dptr (fsyA f),.dptr [aI dir],.dptr [aS s]]] (.box b 84 (nodA n)) (.tup [.agg (fsyA (if e=0 then addF f dir s n else f)),aI e]):=by
 exact Qj4 (q:=7) func184 (
 .new fun b1=>.new fun b2=>.r 1<|.r 2<|.bn 9 e 0 (fun p1=>.u 4 [b1,b2]<|
 .f (.tup [.agg (fsyA (if e=0 then addF f dir s n else f)),aI e]) [b2] (.tup [.agg (fsyA f),aI e]) (by
  rw [if_neg (show ¬ e=0 from by omega)];exact sR))
 <| fun p1=>.lent 1<|.r 1<|.lop (lcR prog 7) ((217,[.ptr 7 b 0,.dptr (fsyA f),.dptr [aI dir],.dptr [aS s]],some 13),.box b 84 (nodA n)) (fun (_:Unit) σ=>(σ.put (some 13) (.agg [.sl 5 false ((addF f dir s n).l.map nodA),aI ((addF f dir s n).next)])).setB 7 gone) (Qcq (args':=[.ptr 7 b 0,.dptr (fsyA f),.dptr [aI dir],.dptr [aS s]]) sr4 (Zge f dir s n b okf hp hs hn)) fun _=>
 .u 2 [b2]<|
 .f (.tup [.agg (fsyA (if e=0 then addF f dir s n else f)),aI e]) [b2] (.tup [.agg [.sl 5 false ((addF f dir s n).l.map nodA),aI ((addF f dir s n).next)],aI 0]) (by
  rw [if_pos (show e=0 from by omega),show e=0 from by omega];exact sR))
end Go.Proofs.YtahlldgocpabjaaGreat
