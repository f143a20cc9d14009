import Derived.Lib.SlicesCompact
import Derived.Test.YtahlldgocpabjaaGreatMrgAC
import Derived.Test.YtahlldgocpabjaaGreatMrgX
import Derived.Test.YtahlldgocpabjaaGreatMrgAB
import Derived.Test.YtahlldgocpabjaaGreatShelf
import Derived.Sort.OwnSortedInts
set_option maxRecDepth 100000
set_option maxHeartbeats 8000000
set_option linter.unusedVariables false
set_option linter.unusedSimpArgs false
namespace Go.Proofs.YtahlldgocpabjaaGreat
open Go Go.RowKit Copyhold Go.Proofs.Tryz
def Asc (l:List Int):Prop:=l.Pairwise (· < ·)
theorem Qlm:∀ {a b:List Int},Asc a→Asc b→(∀ x,x∈a↔x∈b)→a=b
 | [],[],_,_,_=>rfl
 | [],y :: r,_,_,h=>absurd ((h y).2 (by simp)) (by simp)
 | x :: r,[],_,_,h=>absurd ((h x).1 (by simp)) (by simp)
 | x :: r,y :: q,ha,hb,h=>by
  obtain ⟨a1,a2⟩:=List.pairwise_cons.1 ha;obtain ⟨b1,b2⟩:=List.pairwise_cons.1 hb;have hx:=(h x).1 (by simp);have hy:=(h y).2 (by simp);have e:x=y:=by
   rcases List.mem_cons.1 hx with e | e
   ·exact e
   ·rcases List.mem_cons.1 hy with e2 | e2
    ·exact e2.symm
    ·have:=b1 x e;have:=a1 y e2;omega
  subst e;congr 1;refine Qlm a2 b2 fun z=>?_;have hz:=h z;constructor
  ·intro hm;rcases List.mem_cons.1 (hz.1 (List.mem_cons_of_mem _ hm)) with e | e
   ·have:=a1 z hm;omega
   ·exact e
  ·intro hm;rcases List.mem_cons.1 (hz.2 (List.mem_cons_of_mem _ hm)) with e | e
   ·have:=b1 z hm;omega
   ·exact e
theorem Zf9 {l:List Int} (h:Asc l) (n:Int):(∀ x∈l.take (pN l n),x<n)∧∀ x∈l.drop (pN l n),n≤x:=by
 constructor
 ·intro x hx;obtain ⟨i,hi,rfl⟩:=List.mem_iff_getElem.1 hx;rw [List.length_take] at hi;rw [List.getElem_take];exact (Qsp (n:=n) (l:=l) (k:=i) (by omega) (List.getElem?_eq_getElem (by omega))).2 (by omega)
 ·intro x hx;obtain ⟨i,hi,rfl⟩:=List.mem_iff_getElem.1 hx;rw [List.length_drop] at hi;rw [List.getElem_drop];have h0:¬ l[pN l n]'(by omega)<n:=fun hc=>by
   have:=(Qsp (n:=n) (l:=l) (k:=pN l n) (Nat.le_refl _) (List.getElem?_eq_getElem (by omega))).1 hc;omega
  by_cases hi0:i=0
  ·subst hi0;simp only [Nat.add_zero];omega
  ·have:=List.pairwise_iff_getElem.1 h (pN l n) (pN l n+i) (by omega) (by omega) (by omega);omega
theorem Za8 (l:List Int) (n:Int):Qcw l n=l.take (pN l n)++n :: (l.drop (pN l n)).filter fun x=>x != n:=by
 unfold Qcw wiK;rw [List.take_of_length_le (l:=l.drop (pN l n)) (i:=l.length-pN l n) (by rw [List.length_drop];exact Nat.le_refl _)]
theorem Qhy {l:List Int} {n x:Int}:x∈Qcw l n↔x=n∨x∈l:=by
 rw [Za8];have e:x∈l↔x∈l.take (pN l n)∨x∈l.drop (pN l n):=by rw [← List.mem_append,List.take_append_drop]
 rw [e,List.mem_append,List.mem_cons,List.mem_filter];constructor
 ·rintro (h | h | h)
  ·exact .inr (.inl h)
  ·exact .inl h
  ·exact .inr (.inr h.1)
 ·rintro (h | h | h)
  ·exact .inr (.inl h)
  ·exact .inl h
  ·by_cases hx:x=n
   ·exact .inr (.inl hx)
   ·exact .inr (.inr ⟨h,by simpa using hx⟩)
theorem Qjg {l:List Int} (h:Asc l) (n:Int):Asc (Qcw l n):=by
 obtain ⟨h1,h2⟩:=Zf9 h n;rw [Za8];have hs:Asc (l.take (pN l n)):=List.Pairwise.sublist (List.take_sublist _ _) h;have hd:Asc (l.drop (pN l n)):=List.Pairwise.sublist (List.drop_sublist _ _) h;refine List.pairwise_append.2 ⟨hs,List.pairwise_cons.2 ⟨fun y hy=>?_,List.Pairwise.filter _ hd⟩,fun a ha b hb=>?_⟩
 ·obtain ⟨y1,y2⟩:=List.mem_filter.1 hy;have:=h2 y y1;have:y ≠ n:=by simpa using y2
  omega
 ·have:=h1 a ha;rcases List.mem_cons.1 hb with rfl | hb
  ·exact this
  ·have:=h2 b (List.mem_filter.1 hb).1;omega
def Qda (l:List Int):List Int:=Lib.compact (l.mergeSort fun x y=>decide (x≤y))
theorem Qq4 (l:List Int) {j:Nat} (h:j<l.length):l.toArray[j]! = l[j]:=by simp [h]
theorem Qwb {l:List Int} {x:Int}:x∈Lib.compact l↔x∈l:=by
 unfold Lib.compact Lib.compactUpTo;rw [List.mem_map];constructor
 ·rintro ⟨j,hj,rfl⟩;have:=List.mem_range.1 (List.mem_filter.1 hj).1;rw [Qq4 l this];exact List.getElem_mem _
 ·intro hx;obtain ⟨i,hi,he⟩:=List.mem_iff_getElem.1 hx;have key:∀ (n i:Nat) (hi:i<l.length),i≤n→l[i]=x→∃ j,j<l.length∧Lib.keeps l.toArray j=true∧l.toArray[j]! = x:=by
   intro n
   induction n with
   | zero=>
    intro i hi h0 he;obtain rfl:i=0:=by omega
    exact ⟨0,hi,Lib.keeps_lt_one _ 0 (by omega),by rw [Qq4 l hi];exact he⟩
   | succ n ih=>
    intro i hi h0 he;cases hk:Lib.keeps l.toArray i with
    | true=>exact ⟨i,hi,hk,by rw [Qq4 l hi];exact he⟩
    | false=>
     have hi0:i ≠ 0:=fun e=>by subst e;rw [Lib.keeps_lt_one _ 0 (by omega)] at hk;cases hk
     have h2:l[i]'hi=l[i-1]'(by omega):=by
      unfold Lib.keeps at hk;have:=of_decide_eq_false hk;rw [not_or,Decidable.not_not] at this;rw [← Qq4 l hi,← Qq4 l (show i-1<l.length by omega)];exact this.2
     exact ih (i-1) (by omega) (by omega) (by rw [← h2];exact he)
  obtain ⟨j,h1,h2,h3⟩:=key i i hi (Nat.le_refl _) he;exact ⟨j,List.mem_filter.2 ⟨List.mem_range.2 h1,h2⟩,h3⟩
theorem Qwc {l:List Int} (h:l.Pairwise (·≤·)):Asc (Lib.compact l):=by
 unfold Lib.compact Lib.compactUpTo Asc;rw [List.pairwise_map,List.pairwise_filter];have hp:=List.pairwise_lt_range (n:=l.length);refine List.Pairwise.imp_of_mem (fun {a b} ha hb hab h1 h2=>?_) hp;have ha:=List.mem_range.1 ha;have hb:=List.mem_range.1 hb;rw [Qq4 l ha,Qq4 l hb];unfold Lib.keeps at h2;have h3:=of_decide_eq_true h2;have h4:l[b]'hb ≠ l[b-1]'(by omega):=by
  rcases h3 with h3 | h3
  ·omega
  ·rwa [Qq4 l hb,Qq4 l (show b-1<l.length by omega)] at h3
 have h5:l[b-1]'(by omega)≤l[b]'hb:=List.pairwise_iff_getElem.1 h (b-1) b (by omega) hb (by omega);by_cases e:a=b-1
 ·subst e;omega
 ·have h6:l[a]'ha≤l[b-1]'(by omega):=List.pairwise_iff_getElem.1 h a (b-1) ha (by omega) (by omega);omega
theorem Qel {l:List Int} {x:Int}:x∈Qda l↔x∈l:=by
 unfold Qda;rw [Qwb];exact (List.mergeSort_perm _ _).mem_iff
theorem Qf0 (l:List Int):Asc (Qda l):=by
 unfold Qda;refine Qwc ?_;have:=List.pairwise_mergeSort (le:=fun (x y:Int)=>decide (x≤y)) (fun a b c h1 h2=>by simp at *;omega) (fun a b=>by simp;omega) l;exact this.imp fun h=>by simpa using h
theorem Qn8 (l:List Int):(Lib.compact l).length≤l.length:=by
 unfold Lib.compact Lib.compactUpTo;rw [List.length_map];have:=List.length_filter_le (Lib.keeps l.toArray) (List.range l.length);rw [List.length_range] at this;exact this
theorem Qjl (l:List Int):(Qda l).length≤l.length:=by
 unfold Qda;have:=Qn8 (l.mergeSort fun x y=>decide (x≤y))
 rwa [List.length_mergeSort] at this
def Qam (f:Fsy) (c:Cal):List Int:=if c.kind=15 then [0] else Qda (Qe8 f c)
theorem Zdx (l:List Ent) (x:Int):∀ (ss:List Txt) (L:List Int),x∈lk2 l ss L↔x∈L∨∃ s∈ss,isB l s=true∧getI l s=x
 | [],L=>by simp [lk2]
 | s :: r,L=>by
  show x∈lk2 l r (if isB l s=true then L++[getI l s] else L)↔_;rw [Zdx l x r]
  split
  ·rename_i h;rw [List.mem_append,List.mem_singleton];constructor
   ·rintro ((h1 | h1) | ⟨t,h1,h2⟩)
    ·exact .inl h1
    ·exact .inr ⟨s,by simp,h,h1.symm⟩
    ·exact .inr ⟨t,by simp [h1],h2⟩
   ·rintro (h1 | ⟨t,h1,h2,h3⟩)
    ·exact .inl (.inl h1)
    ·rcases List.mem_cons.1 h1 with rfl | h1
     ·exact .inl (.inr h3.symm)
     ·exact .inr ⟨t,h1,h2,h3⟩
  ·rename_i h;constructor
   ·rintro (h1 | ⟨t,h1,h2⟩)
    ·exact .inl h1
    ·exact .inr ⟨t,by simp [h1],h2⟩
   ·rintro (h1 | ⟨t,h1,h2,h3⟩)
    ·exact .inl h1
    ·rcases List.mem_cons.1 h1 with rfl | h1
     ·exact absurd h2 h
     ·exact .inr ⟨t,h1,h2,h3⟩
theorem Zdy {f:Fsy} {c:Cal} {L:List Int} {i x:Int}:x∈lk1 f c L i↔x∈L∨dirE f i=0∧∃ s,(s=c.name∨s=c.name2)∧isB (dirN f i).l s=true∧getI (dirN f i).l s=x:=by
 unfold lk1
 split
 ·rename_i h;rw [Zdx];simp [h]
 ·rename_i h;simp [h]
theorem Qid {f:Fsy} {c:Cal} {x:Int}:x∈Qe8 f c↔(x=c.ino∨x=c.to)∨∃ i,(i=c.ino∨i=c.to)∧dirE f i=0∧∃ s,(s=c.name∨s=c.name2)∧isB (dirN f i).l s=true∧getI (dirN f i).l s=x:=by
 show x∈lk1 f c (lk1 f c [c.ino,c.to] c.ino) c.to↔_;rw [Zdy,Zdy];constructor
 ·rintro ((h | h) | h)
  ·exact .inl (by simpa using h)
  ·exact .inr ⟨c.ino,.inl rfl,h⟩
  ·exact .inr ⟨c.to,.inr rfl,h⟩
 ·rintro (h | ⟨i,rfl | rfl,h⟩)
  ·exact .inl (.inl (by simpa using h))
  ·exact .inl (.inr h)
  ·exact .inr h
theorem Qjy {l:List Int} {f:Fsy} {d:Int} {s:Txt} {x:Int}:x∈Qb0 l f d s↔x∈l∨isB (Qaa f d).l s=true∧getI (Qaa f d).l s=x:=by
 unfold Qb0
 split
 ·rename_i h;rw [Qhy];simp [h];constructor
  ·rintro (h | h)
   ·exact .inr h.symm
   ·exact .inl h
  ·rintro (h | h)
   ·exact .inr h
   ·exact .inl h.symm
 ·rename_i h;simp [h]
theorem Qjz {l:List Int} (h:Asc l) (f:Fsy) (d:Int) (s:Txt):Asc (Qb0 l f d s):=by
 unfold Qb0
 split
 ·exact Qjg h _
 ·exact h
theorem Zlk (c:Cal):Asc (rl0 c):=Qjg (Qjg List.Pairwise.nil _) _
theorem Zlj {c:Cal} {x:Int}:x∈rl0 c↔x=c.ino∨x=c.to:=by
 unfold rl0;rw [Qhy,Qhy];simp;constructor
 ·rintro (h | h)
  ·exact .inr h
  ·exact .inl h
 ·rintro (h | h)
  ·exact .inr h
  ·exact .inl h
theorem Qmg {f:Fsy} {i:Int} {s:Txt} (hp:Qal f) (h:isB (Qaa f i).l s=true):dirE f i=0∧dirN f i=Qaa f i:=by
 cases hc:atF f i with
 | none=>
  rw [(Qt3 hc).2] at h;exact absurd h (by rw [Qed];exact Bool.false_ne_true)
 | some n=>
  have hn:=(Qfb hc).2;by_cases hk:n.kind=2
  ·obtain ⟨h1,h2⟩:=Qn5 hc hk;exact ⟨h1,h2.trans hn.symm⟩
  ·rw [hn,Qgb (Qbc hp hc).1 hk] at h;exact absurd h (by rw [Qed];exact Bool.false_ne_true)
theorem Zcf {f:Fsy} {c:Cal} (hp:Qal f):Qam f c=Qi6 f c:=by
 unfold Qam Qi6
 split
 ·rfl
 ·refine Qlm (Qf0 _) (Qjz (Qjz (Qjz (Qjz (Zlk c) _ _ _) _ _ _) _ _ _) _ _ _) fun x=>?_;rw [Qel,Qid,Qjy,Qjy,Qjy,Qjy,Zlj];constructor
  ·rintro (h | ⟨i,hi,h0,s,hs,h1,h2⟩)
   ·exact .inl (.inl (.inl (.inl h)))
   ·obtain ⟨d,g1,g2,g3,g4,g5⟩:=Qt4 h0;rw [g3] at h1 h2;rcases hi with rfl | rfl<;>rcases hs with rfl | rfl
    ·exact .inl (.inl (.inl (.inr ⟨by rw [g4];exact h1,by rw [g4];exact h2⟩)))
    ·exact .inl (.inl (.inr ⟨by rw [g4];exact h1,by rw [g4];exact h2⟩))
    ·exact .inl (.inr ⟨by rw [g4];exact h1,by rw [g4];exact h2⟩)
    ·exact .inr ⟨by rw [g4];exact h1,by rw [g4];exact h2⟩
  ·rintro ((((h | h) | h) | h) | h)
   ·exact .inl h
   ·obtain ⟨a,b⟩:=Qmg hp h.1;exact .inr ⟨c.ino,.inl rfl,a,c.name,.inl rfl,b ▸ h.1,b ▸ h.2⟩
   ·obtain ⟨a,b⟩:=Qmg hp h.1;exact .inr ⟨c.ino,.inl rfl,a,c.name2,.inr rfl,b ▸ h.1,b ▸ h.2⟩
   ·obtain ⟨a,b⟩:=Qmg hp h.1;exact .inr ⟨c.to,.inr rfl,a,c.name,.inl rfl,b ▸ h.1,b ▸ h.2⟩
   ·obtain ⟨a,b⟩:=Qmg hp h.1;exact .inr ⟨c.to,.inr rfl,a,c.name2,.inr rfl,b ▸ h.1,b ▸ h.2⟩
end Go.Proofs.YtahlldgocpabjaaGreat

namespace Go.Proofs.YtahlldgocpabjaaGreat
open Go Go.RowKit Copyhold Go.Proofs.Tryz
open Copyhold.Name (Srt insE delE getE isAt)
def updF:List (Int × Option Nod)→Option Nod→Int→Option Nod
 | [],x,_=>x
 | (i,v) :: r,x,j=>if j=i then v else updF r x j
def Upd (f k:Fsy) (u:List (Int × Option Nod)):Prop:=∀ j,atF k j=updF u (atF f j) j
theorem Upd.self (f:Fsy):Upd f f []:=fun _=>rfl
theorem Upd.out {f k:Fsy} {u:List (Int × Option Nod)} (h:Upd f k u) {j:Int} (hj:∀ p∈u,¬ p.1=j):atF k j=atF f j:=by
 rw [h j];clear h
 induction u with
 | nil=>rfl
 | cons p r ih=>
  obtain ⟨i,v⟩:=p;have h1:¬ i=j:=hj (i,v) (by simp);show (if j=i then v else updF r (atF f j) j)=_;rw [if_neg (fun e=>h1 e.symm)];exact ih fun q hq=>hj q (by simp [hq])
structure Agr (f g:Fsy) (c:Cal) (u:List (Int × Option Nod)):Prop where
 looks:∀ p∈u,p.1∈Qe8 f c
 few:u.length≤2
 updf:Upd f (doF f c).1 u
 updg:Upd g (doF g c).1 u
 same:(doF f c).2=(doF g c).2
 nextf:(doF f c).1.next=f.next
 nextg:(doF g c).1.next=g.next
 lenf:(doF f c).1.l.length≤f.l.length
theorem Qb3 {f g:Fsy} {c:Cal} {r:Rep} (h1:doF f c=(f,r)) (h2:doF g c=(g,r)):∃ u,Agr f g c u:=
 ⟨[],fun p hp=>(by cases hp),Nat.zero_le _,by rw [h1];exact Upd.self f,by rw [h2];exact Upd.self g,by rw [h1,h2],by rw [h1],by rw [h2],by rw [h1];exact Nat.le_refl _⟩
theorem Qnu (f:Fsy) (c:Cal):c.ino∈Qe8 f c:=Qid.2 (.inl (.inl rfl))
theorem Zkx (f:Fsy) (c:Cal):c.to∈Qe8 f c:=Qid.2 (.inl (.inr rfl))
theorem B_eq {f g:Fsy} {i:Int} (h:atF f i=atF g i):Qau f i=Qau g i∧Qaa f i=Qaa g i:=by rw [at_B,at_B,at_N,at_N,h];exact ⟨rfl,rfl⟩
theorem Zkj {f g:Fsy} {i:Int} (h:atF f i=atF g i):dirE f i=dirE g i∧dirN f i=dirN g i:=by
 obtain ⟨h1,h2⟩:=B_eq h;have e:dirE f i=dirE g i:=by unfold dirE;rw [h1,h2]
 exact ⟨e,by unfold dirN;rw [e,h2]⟩
theorem of_eq {f g:Fsy} {i k:Int} (h:atF f i=atF g i):ofE f i k=ofE g i k:=by
 obtain ⟨h1,h2⟩:=B_eq h;unfold ofE;rw [h1,h2]
theorem Zdf {f:Fsy} (hp:Qal f):atF f 0=none:=by
 cases h:atF f 0 with
 | none=>rfl
 | some n=>have:=Qbc hp h;have:=this.1.1;omega
theorem Zkb {f:Fsy} {c:Cal} {i j:Int} {s:Txt} (hi:i=c.ino∨i=c.to) (hs:s=c.name∨s=c.name2) (h0:dirE f i=0) (hg:getE (lI (dirN f i).l) s=some j):j∈Qe8 f c:=
 Qid.2 (.inr ⟨i,hi,h0,s,hs,by rw [Qed,hg];rfl,by rw [Qd0,hg];rfl⟩)
theorem Qpd {f g:Fsy} {c:Cal} (hp:Qal f) (hpg:Qal g) (h:∀ i∈Qe8 f c,atF f i=atF g i):Qa2 f c.ino c.name=Qa2 g c.ino c.name∧lookN f c.ino c.name=lookN g c.ino c.name:=by
 have hi:=h _ (Qnu f c);obtain ⟨d1,d2⟩:=Zkj hi;have hI:Qds f c.ino c.name=Qds g c.ino c.name:=by unfold Qds;rw [d2]
 have hat:atF f (Qds f c.ino c.name)=atF g (Qds f c.ino c.name):=by
  cases hg:getE (lI (dirN f c.ino).l) c.name with
  | none=>
   have:Qds f c.ino c.name=0:=by unfold Qds;rw [Qd0,hg];rfl
   rw [this,Zdf hp,Zdf hpg]
  | some j=>
   have e:Qds f c.ino c.name=j:=by unfold Qds;rw [Qd0,hg];rfl
   by_cases h0:dirE f c.ino=0
   ·rw [e];exact h _ (Zkb (.inl rfl) (.inl rfl) h0 hg)
   ·unfold dirN at hg;rw [if_neg h0] at hg;cases hg
 obtain ⟨b1,b2⟩:=B_eq hat;have hE:Qa2 f c.ino c.name=Qa2 g c.ino c.name:=by
  unfold Qa2;rw [d1,b1,hI]
 exact ⟨hE,by unfold lookN;rw [hE,b2,hI]⟩
theorem Qva {f:Fsy} {i:Int} {n m:Nod} (hp:Qal f) (hn:atF f i=some n) (hm:m.ino=i):Upd f (putF f m) [(i,some m)]∧(putF f m).next=f.next∧(putF f m).l.length=f.l.length:=by
 have hr:=Qae hp;obtain ⟨n1,n2,n3⟩:=Qbc hp hn;refine ⟨fun j=>?_,Qjt (by omega),Qqe hr (by rw [hm];exact (Qfb hn).1)⟩;rw [Qlz hr,hm];rfl
theorem Qxx {f:Fsy} {dir:Int} {s:Txt} {i:Int} (okf:OkF f) (hp:Qal f) (hs:s.length≤1000000) (he:Qa3 f dir s i=0):∃ d n,atF f dir=some d∧atF f i=some n ∧
  Upd f (Qco f dir s i) [(i,some (Qix n)),(dir,some (Qbj d (entL d.l s i)))]∧(Qco f dir s i).next=f.next∧(Qco f dir s i).l.length=f.l.length:=by
 obtain ⟨d,n,G⟩:=Qxw he;obtain ⟨n1,n2,n3⟩:=Qbc hp G.node;have okn:=okf.2.2 n (Qc7 G.node);have hi1:1≤i:=by have:=n1.1;omega
 have hi2:I64 i:=n3 ▸ okn.1;obtain ⟨e1,e2,e3,e4,e5⟩:=Qn3 okf hp G.dir G.kind G.check hs hi1 hi2 G.away G.fewd;have hne:¬ i=dir:=fun e=>by
  have h:=G.node;rw [e,G.dir] at h;obtain rfl:=Option.some.inj h;exact G.file G.kind
 have hni:atF (enterF f dir s i) i=some n:=by rw [e5,if_neg hne];exact G.node
 have hg:Qco f dir s i=putF (enterF f dir s i) (Qix n):=by
  unfold Qco;rw [if_pos he,(Qfb G.node).2];rfl
 obtain ⟨q1,q2,q3⟩:=Qva (m:=Qix n) e2 hni n3;rw [hg];refine ⟨d,n,G.dir,G.node,fun j=>?_,q2.trans e4,q3.trans e3⟩;rw [q1 j];show (if j=i then _ else atF (enterF f dir s i) j)=if j=i then _ else (if j=dir then _ else atF f j)
 rw [e5]
theorem Qwt {f:Fsy} {dir:Int} {s:Txt} (okf:OkF f) (hp:Qal f) (he:Qa9 f dir s=0):∃ d j n,atF f dir=some d∧d.kind=2∧getE (lI d.l) s=some j∧atF f j=some n∧lookN f dir s=n ∧
  Upd f (Qc9 f dir s) [(j,if n.links-1<1 then none else some (Qgz n)),(dir,some (Qbj d (delL d.l s)))]∧(Qc9 f dir s).next=f.next∧(Qc9 f dir s).l.length≤f.l.length:=by
 have h:=he;unfold Qa9 at h;rw [Qpi] at h
 split at h
 ·rename_i h1;obtain ⟨d,j,n,a1,a2,a3,a4,a5⟩:=(Qie hp).1 h1;have hl:=(Qe9 a1 a2 a3 a4 a5).2;have hnj:=Qct a5;obtain ⟨w1,w2,w3,w4,w5⟩:=Qko (s:=s) okf hp a1 a2 (n:=n) (.inl (by rw [hnj];exact a5));have ht:Qc9 f dir s=Qbg f dir s n:=by unfold Qc9;rw [if_pos he,hl]
  rw [ht];exact ⟨d,j,n,a1,a2,a4,a5,hl,fun x=>by rw [w5,hnj];rfl,w4,w3⟩
 ·exact absurd h (by assumption)
def Qg1 (c:Cal):Prop:=c.kind=6∨c.kind=7∨c.kind=8∨c.kind=12∨c.kind=15
theorem Qyw {f g:Fsy} {c:Cal} {m:Nod} {r:Rep} (hp:Qal f) (hpg:Qal g) (h:∀ i∈Qe8 f c,atF f i=atF g i) (h0:ofE f c.ino 1=0) (hm:m.ino=(Qaa f c.ino).ino) (h1:doF f c=(putF f m,r)) (h2:doF g c=(putF g m,r)):∃ u,Agr f g c u:=by
 obtain ⟨hn,hk⟩:=of_at h0;have hi:=Qct hn;obtain ⟨a1,a2,a3⟩:=Qva (m:=m) hp hn (hm.trans hi);obtain ⟨b1,b2,b3⟩:=Qva (m:=m) hpg ((h _ (Qnu f c)).symm.trans hn) (hm.trans hi);exact ⟨[(c.ino,some m)],fun p hp=>by obtain rfl:=List.mem_singleton.1 hp;exact Qnu f c,(by show 1≤2;omega),by rw [h1];exact a1,by rw [h2];exact b1,by rw [h1,h2],by rw [h1];exact a2,by rw [h2];exact b2,by rw [h1];exact Nat.le_of_eq a3⟩
theorem Qyx {f g:Fsy} {c:Cal} {dir:Bool} {odd:Int} (okf:OkF f) (okg:OkF g) (hp:Qal f) (hpg:Qal g) (h:∀ i∈Qe8 f c,atF f i=atF g i) (ho:¬ odd=0) (hd:Qby f c=Qcz f c dir odd) (hdg:Qby g c=Qcz g c dir odd):∃ u,Agr f g c u:=by
 obtain ⟨l1,l2⟩:=Qpd hp hpg h;by_cases h0:Qa2 f c.ino c.name=0
 ·have h0g:Qa2 g c.ino c.name=0:=l1 ▸ h0;cases hk:((lookN f c.ino c.name).kind==2) != dir with
  | true=>exact Qb3 (tk_2 hd h0 hk ho) (tk_2 hdg h0g (l2 ▸ hk) ho)
  | false=>
   have e1:=tk_3 hd h0 hk;have e2:=tk_3 hdg h0g (l2 ▸ hk);have et:Qa9 g c.ino c.name=Qa9 f c.ino c.name:=by unfold Qa9;rw [l1,l2]
   by_cases he:Qa9 f c.ino c.name=0
   ·obtain ⟨d,j,n,a1,a2,a3,a4,a5,a6,a7,a8⟩:=Qwt okf hp he;obtain ⟨d',j',n',b1,b2,b3,b4,b5,b6,b7,b8⟩:=Qwt okg hpg (et.trans he);have hdd:d'=d:=by
     have:=h _ (Qnu f c);rw [a1,b1] at this;exact (Option.some.inj this).symm
    subst hdd;have hj:j'=j:=by rw [a3] at b3;exact (Option.some.inj b3).symm
    subst hj;have hnn:n'=n:=by rw [← a5,← b5,l2]
    subst hnn;obtain ⟨g1,g2⟩:=Qn5 a1 a2;refine ⟨[(j',if n'.links-1<1 then none else some (Qgz n')),(c.ino,some (Qbj d' (delL d'.l c.name)))],fun p hp=>?_,by simp,by rw [e1];exact a6,by rw [e2];exact b6,by rw [e1,e2,et],by rw [e1];exact a7,by rw [e2];exact b7,by rw [e1];exact a8⟩;rcases List.mem_cons.1 hp with rfl | hp
    ·exact Zkb (.inl rfl) (.inl rfl) g1 (by rw [g2];exact a3)
    ·obtain rfl:=List.mem_singleton.1 hp;exact Qnu f c
   ·rw [show Qc9 f c.ino c.name=f from if_neg he] at e1;rw [show Qc9 g c.ino c.name=g from if_neg (by rw [et];exact he),et] at e2;exact Qb3 e1 e2
 ·have h1:=tk_1 hd h0;have h2:=tk_1 hdg (l1 ▸ h0);rw [← l1] at h2;exact Qb3 h1 h2
theorem Zit {f g:Fsy} {c:Cal} (okf:OkF f) (okg:OkF g) (hp:Qal f) (hpg:Qal g) (okc:OkCal c) (hw:¬ Qg1 c) (h:∀ i∈Qe8 f c,atF f i=atF g i):∃ u,Agr f g c u:=by
 have hi:=h _ (Qnu f c);obtain ⟨b1,b2⟩:=B_eq hi;obtain ⟨d1,d2⟩:=Zkj hi;unfold Qg1 at hw;rcases (show c.kind=1∨c.kind=2∨c.kind=3∨c.kind=4∨c.kind=5∨c.kind=9∨c.kind=10∨c.kind=11∨c.kind=13∨c.kind=14∨(c.kind<1∨c.kind>15) from by omega) with hk | hk | hk | hk | hk | hk | hk | hk | hk | hk | hk
 ·obtain ⟨l1,l2⟩:=Qpd hp hpg h;have e2:=Qvm (f:=g) hk;rw [← l1,← l2] at e2;exact Qb3 (Qvm hk) e2
 ·cases hb:Qau f c.ino with
  | false=>exact Qb3 (Quj hk hb) (Quj hk (b1 ▸ hb))
  | true=>
   have e2:=Qpw (f:=g) hk (b1 ▸ hb);rw [← b2] at e2;exact Qb3 (Qpw hk hb) e2
 ·have ho:=of_eq (k:=1) hi;by_cases h0:ofE f c.ino 1=0
  ·have e2:=Qqa (f:=g) hk (ho ▸ h0);rw [← b2] at e2;exact Qb3 (Qqa hk h0) e2
  ·exact Qb3 (Qqb hk rfl h0) (Qqb hk ho.symm h0)
 ·have ho:=of_eq (k:=1) hi;by_cases h0:ofE f c.ino 1=0
  ·have e1:=Qjf (f:=f) hk h0;have e2:=Qjf (f:=g) hk (ho ▸ h0);rw [← b2] at e2;by_cases he:(Qbf (Qaa f c.ino).text c.at_ c.text).2=0
   ·exact Qyw (m:=Qd5 (Qaa f c.ino) (Qbf (Qaa f c.ino).text c.at_ c.text).1) hp hpg h h0 rfl (Qd3 e1 he) (Qd3 e2 he)
   ·exact Qb3 (r:=errR (Qbf (Qaa f c.ino).text c.at_ c.text).2) (Qkf e1 he) (Qkf e2 he)
  ·exact Qb3 (Ql4 hk rfl h0) (Ql4 hk ho.symm h0)
 ·have ho:=of_eq (k:=1) hi;by_cases h0:ofE f c.ino 1=0
  ·have e1:=Qrf (f:=f) hk h0;have e2:=Qrf (f:=g) hk (ho ▸ h0);rw [← b2] at e2;by_cases he:(cutD (Qaa f c.ino).text c.many).2=0
   ·exact Qyw (m:=Qd5 (Qaa f c.ino) (cutD (Qaa f c.ino).text c.many).1) hp hpg h h0 rfl (Qd3 e1 he) (Qd3 e2 he)
   ·exact Qb3 (r:=errR (cutD (Qaa f c.ino).text c.many).2) (Qkf e1 he) (Qkf e2 he)
  ·exact Qb3 (Qyj hk rfl h0) (Qyj hk ho.symm h0)
 ·exact Qyx okf okg hp hpg h (by decide) (Qn6 hk) (Qn6 hk)
 ·exact Qyx okf okg hp hpg h (by decide) (Qjb hk) (Qjb hk)
 ·obtain ⟨t1,t2⟩:=B_eq (h _ (Zkx f c));have et:Qa3 g c.ino c.name c.to=Qa3 f c.ino c.name c.to:=by unfold Qa3;rw [d1,d2,t1,t2]
  have e1:=Zl3 (f:=f) hk;have e2:=Zl3 (f:=g) hk;rw [et] at e2;by_cases he:Qa3 f c.ino c.name c.to=0
  ·obtain ⟨d,n,a1,a2,a3,a4,a5⟩:=Qxx okf hp okc.name he;obtain ⟨d',n',g1,g2,g3,g4,g5⟩:=Qxx okg hpg okc.name (et.trans he);have hdd:d'=d:=by rw [hi,g1] at a1;exact Option.some.inj a1
   have hnn:n'=n:=by rw [h _ (Zkx f c),g2] at a2;exact Option.some.inj a2
   subst hdd hnn;refine ⟨[(c.to,some (Qix n')),(c.ino,some (Qbj d' (entL d'.l c.name c.to)))],fun p hp=>?_,by simp,by rw [e1];exact a3,by rw [e2];exact g3,by rw [e1,e2],by rw [e1];exact a4,by rw [e2];exact g4,by rw [e1];exact Nat.le_of_eq a5⟩;rcases List.mem_cons.1 hp with rfl | hp
   ·exact Zkx f c
   ·obtain rfl:=List.mem_singleton.1 hp;exact Qnu f c
  ·rw [show Qco f c.ino c.name c.to=f from if_neg he] at e1;rw [show Qco g c.ino c.name c.to=g from if_neg (by rw [et];exact he)] at e2;exact Qb3 e1 e2
 ·have ho:=of_eq (k:=3) hi;by_cases h0:ofE f c.ino 3=0
  ·have e2:=Qqs (f:=g) hk (ho ▸ h0);rw [← b2] at e2;exact Qb3 (Qqs hk h0) e2
  ·exact Qb3 (Qqt hk rfl h0) (Qqt hk ho.symm h0)
 ·have e2:=Qu6 (f:=g) hk;rw [← d1,← d2] at e2;exact Qb3 (Qu6 hk) e2
 ·exact Qb3 (Qvh hk) (Qvh hk)
end Go.Proofs.YtahlldgocpabjaaGreat

namespace Go.Proofs.YtahlldgocpabjaaGreat
open Go Go.RowKit Copyhold Go.Proofs.Tryz
theorem Qq7:∀ (l:List Int),(l.map intA).flatten=l.map aI
 | []=>rfl
 | x :: r=>by
  rw [List.map_cons,List.flatten_cons,Qq7 r];rfl
theorem Zcb {D:Nat→Prop} {w:World} {V:Value} {e:TypeId} {l:List Int} (h:BoxR D w (.row V e 1 (l.map intA))) (h1:1≤l.length) :
  ∃ g cap cur,V=.slice (some ⟨g,0,none⟩) l.length cap∧w.heap[g]?=some (.cells cur e (0,0))∧l.length≤cap∧cap≤maxLen∧cur.size=cap*1∧cur.toList.take l.length=l.map (Value.int .i64):=by
 obtain ⟨_,us,h2,_,h4⟩:=h;have hn:us.length=l.length:=by have:=h2.1;rw [List.length_map] at this;omega
 have hus:us=l.map (Value.int .i64):=by
  apply List.ext_getElem?;intro j;by_cases hj:j<l.length
  ·have hu:us[j]?=some us[j]:=List.getElem?_eq_getElem (by omega);have:=h4 j (aI l[j]) us[j] (by rw [Qq7,List.getElem?_map,List.getElem?_eq_getElem hj];rfl) hu;rw [hu,List.getElem?_map,List.getElem?_eq_getElem hj];generalize us[j]=q at this;cases this;rfl
  ·rw [List.getElem?_eq_none (by omega),List.getElem?_eq_none (by rw [List.length_map];omega)]
 rw [List.length_map] at h2;rcases h2.2 with ⟨_,h0⟩ | ⟨g,cap,cur,hv,_,hb,a1,a2,a3,a4⟩
 ·omega
 ·exact ⟨g,cap,cur,hv,hb,a1,a2,a3,by rw [Nat.mul_one] at a4;rw [a4,hus]⟩
theorem Zmz {D:Nat→Prop} {w:World} {V:Value} {e:TypeId} {l:List Int} (h:w.ownsRow 0 e 1 V l.length (l.map (Value.int .i64))):BoxR D w (.row V e 1 (l.map intA)):=by
 refine ⟨fun x hx=>?_,l.map (Value.int .i64),by rw [List.length_map];exact h,fun u hu=>?_,fun j a u ha hu=>?_⟩
 ·obtain ⟨y,_,rfl⟩:=List.mem_map.1 hx;rfl
 ·obtain ⟨y,_,rfl⟩:=List.mem_map.1 hu;rfl
 ·rw [Qq7,List.getElem?_map] at ha;rw [List.getElem?_map] at hu;cases hl:l[j]? with
  | none=>rw [hl] at ha;cases ha
  | some x=>
   rw [hl] at ha hu;obtain rfl:=Option.some.inj ha;obtain rfl:=Option.some.inj hu;exact .val _
theorem Qow (l:List Int) (V:Value) (h1:1≤l.length) (hl:l.length≤1000000):Qi3 prog 90 [.rw 30 V l.length] (.row V 3 1 (l.map intA)) (.tup []) (.row V 3 1 ((l.mergeSort fun x y=>decide (x≤y)).map intA)):=by
 intro D w vs hD hvs hy hyD;obtain ⟨g,cap,cur,rfl,hb,hc1,hc2,hc3,ht⟩:=Zcb hy h1;obtain ⟨u,rfl,hu⟩:=Qc6.one hvs;have hu':u=.slice (some ⟨g,0,none⟩) l.length cap:=by cases hu;rfl
 subst hu';have hg:g<w.heap.size:=(Array.getElem?_eq_some_iff.1 hb).1;refine (Tryz.slices_Sort_int g 0 cap l w (holds_of_blockI hb ht) hg (by omega)).mono ?_;rintro e w' ⟨rfl,n,os,rfl⟩;have hgb:=Go.grownBy_sortedI (w:=w) (g:=g) (n:=n) (os:=os) (l.mergeSort fun x y=>decide (x≤y)).toArray;have hlen:(l.mergeSort fun x y=>decide (x≤y)).length=l.length:=List.length_mergeSort l;have how:=Go.ownsRow_sortedI (n:=n) (os:=os) (ts:=l.mergeSort fun x y=>decide (x≤y)) hlen (Nat.zero_le g) hb hc1 hc2 hc3;refine ⟨_,D,rfl,⟨hgb.os,hgb.tape,hgb.output,hgb.size,fun k hk=>absurd hk (by omega)⟩,fun k hk hl=>hgb.block k hl (fun e=>hk e.symm),fun _ h=>h,fun b hb=>⟨Nat.lt_of_lt_of_le (hD b hb) hgb.size,.inl hb⟩,fun g' hg'=>⟨.inl hg',hyD g' hg'⟩,Zmz (by rw [hlen];exact how),.tup [] #[] rfl (by simp)⟩
theorem Qki (l:List Int) (V:Value) (h1:1≤l.length) (hl:l.length≤1000000):Qrq prog 91 [.rw 30 V l.length] (.row V 3 1 (l.map intA)) (.sl 1 false ((Lib.compact l).map intA)):=by
 intro D w vs hD hvs hy hyD;obtain ⟨g,cap,cur,rfl,hb,hc1,hc2,hc3,ht⟩:=Zcb hy h1;obtain ⟨u,rfl,hu⟩:=Qc6.one hvs;have hu':u=.slice (some ⟨g,0,none⟩) l.length cap:=by cases hu;rfl
 subst hu';have hg:g<w.heap.size:=(Array.getElem?_eq_some_iff.1 hb).1;refine (Tryz.slices_Compact_int g 0 cap l w (holds_of_blockI hb ht) (by omega) hc1).mono ?_;rintro e w' ⟨rfl,q,hw'⟩;have hcl:=Qn8 l;have hlen:(Lib.compact l++List.replicate (l.length-(Lib.compact l).length) 0).length=l.length:=by rw [List.length_append,List.length_replicate];omega
 have hgr:∀ W:World,Go.Sort.grow W #[]=W:=fun W=>by simp [Go.Sort.grow]
 rw [← hgr (Go.Sort.putRow _ _ _ _ _)] at hw';have hgb:=Go.grownBy_sortedI (w:=w) (g:=g) (n:=q) (os:=#[]) (Lib.compact l++List.replicate (l.length-(Lib.compact l).length) 0).toArray;have how:=Go.ownsRow_sortedI (n:=q) (os:=#[]) (ts:=Lib.compact l++List.replicate (l.length-(Lib.compact l).length) 0) hlen (Nat.zero_le g) hb hc1 hc2 hc3;rw [← hw'] at hgb how;refine ⟨_,fun b=>D b∨b=g,rfl,⟨hgb.os,hgb.tape,hgb.output,hgb.size,fun k hk=>absurd hk (by omega)⟩,fun k hk hl=>hgb.block k hl (fun e=>hk e.symm),fun _ h=>.inl h,fun b hb=>?_,?_⟩
 ·rcases hb with hb | rfl
  ·exact ⟨Nat.lt_of_lt_of_le (hD b hb) hgb.size,.inl hb⟩
  ·exact ⟨Nat.lt_of_lt_of_le hg hgb.size,.inr (.inl rfl)⟩
 ·have h:=Ra.sl (D:=fun b=>D b∨b=g) (w:=w') 1 false ((Lib.compact l).map intA) (some ⟨g,0,none⟩) cap g 0 (fun i _=>.int .i64 ((Lib.compact l).getD i 0)) (by rw [List.length_map];omega) (fun h=>by cases h) (fun _=>⟨rfl,.inr rfl,Nat.lt_of_lt_of_le hg hgb.size⟩)
   (fun i e he=>by
    rw [List.getElem?_map] at he;cases hc:(Lib.compact l)[i]? with
    | none=>rw [hc] at he;cases he
    | some x=>rw [hc] at he;obtain rfl:=Option.some.inj he;rfl)
   (fun i e j x he hx=>by
    rw [List.getElem?_map] at he;cases hc:(Lib.compact l)[i]? with
    | none=>rw [hc] at he;cases he
    | some y=>
     rw [hc] at he;obtain rfl:=Option.some.inj he;have hj:j=0:=by have:=(List.getElem?_eq_some_iff.1 hx).1;have e:(intA y).length=1:=rfl;omega
     subst hj;have hi:=(List.getElem?_eq_some_iff.1 hc).1;refine ⟨?_,rfl⟩;rw [Nat.mul_one,Nat.add_zero,Nat.zero_add,how.cellAt i (by omega),List.getElem?_map,List.getElem?_append_left hi,hc];simp [List.getD,hc])
   (fun i e j x he hx=>by
    rw [List.getElem?_map] at he;cases hc:(Lib.compact l)[i]? with
    | none=>rw [hc] at he;cases he
    | some y=>
     rw [hc] at he;obtain rfl:=Option.some.inj he;have hj:j=0:=by have:=(List.getElem?_eq_some_iff.1 hx).1;have e:(intA y).length=1:=rfl;omega
     subst hj;obtain rfl:=Option.some.inj hx;have e:(Lib.compact l).getD i 0=y:=by simp [List.getD,hc]
     show Ra _ _ (aI y) (.int .i64 ((Lib.compact l).getD i 0));rw [e];exact .val _)
  rw [List.length_map] at h;exact h
theorem Qwd (l:List Int) (h1:1≤l.length) (hl:l.length≤100000):Qek prog 157 [.sl 1 false (l.map intA)] 3 1 (l.map intA):=by
 exact Qew func157 (
 .r 1<|.r 1<|.isNil (l.map intA) fun b1 hnb1=>
 .br 4 (b1) (fun q1=>have p1:=booT q1;.r 1<|.rowNil 199 2 3 1<|.finRow (x:=[]) (r:=l.map intA) [] trivial 199 3 1 (0) (.slice none 0 0) (by first | (simp;done) | (exfalso;have h0:l=[]:=(by simpa using hnb1 (by assumption));rw [h0] at h1;simp at h1)))
 <| fun q1=>have p1:=booF q1;.lit0 fun V1=>.r 1<|.app 8 V1 ([]:List (List AV)) (l.map intA) (by simp<;>omega) (by simp<;>omega) fun V2=>
 .r 1<|.finRow (x:=([]:List (List AV))++(l.map intA)) (r:=l.map intA) [] trivial 5 3 1 (([]:List (List AV)).length+(l.map intA).length) V2 (by first | (simp;done) | (exfalso;have h0:l=[]:=(by simpa using hnb1 (by assumption));rw [h0] at h1;simp at h1)))
theorem Qly (l:List Int) (h1:1≤l.length) (hl:l.length≤100000):Qaj prog 97 [.sl 1 false (l.map intA)] (.sl 1 false ((Qda l).map intA)):=by
 exact Qad func97 (let R:AV:=.sl 1 false ((Qda l).map intA);
 .r 1<|.r 1<|.op (crR prog 30) (157,[.sl 1 false (l.map intA)],5) (fun (V:Value) σ=>(σ.put (some 5) (.rw 30 V (l.map intA).length)).setB 30 (.row V 3 1 (l.map intA))) (Qhb (args':=[.sl 1 false (l.map intA)]) sr1 (Qwd l h1 hl)) fun V1=>
 .r 1<|.lent 1<|.r 1<|.lop (lcR prog 30) ((90,[.rw 30 V1 ((l.map intA).length)],some 7),.row V1 3 1 (l.map intA)) (fun (_:Unit) σ=>(σ.put (some 7) (.tup [])).setB 30 (.row V1 3 1 ((l.mergeSort fun x y=>decide (x≤y)).map intA))) (Qdm (args':=[.rw 30 V1 l.length]) ⟨Sub.of_eq (congrArg (AV.rw 30 V1) (by simp)),trivial⟩ (Qow l V1 h1 (by omega))) fun _=>
 .lent 1<|.r 1<|.lop (lcR prog 30) ((91,[.rw 30 V1 ((l.map intA).length)],some 9),.row V1 3 1 ((l.mergeSort fun x y=>decide (x≤y)).map intA)) (fun (_:Unit) σ=>(σ.put (some 9) (.sl 1 false ((Qda l).map intA))).setB 30 gone) (Qcq (args':=[.rw 30 V1 ((l.mergeSort fun x y=>decide (x≤y)).length)]) ⟨Sub.of_eq (congrArg (AV.rw 30 V1) (by simp [List.length_mergeSort])),trivial⟩ (Qki (l.mergeSort fun x y=>decide (x≤y)) V1 (by rw [List.length_mergeSort];exact h1) (by rw [List.length_mergeSort];omega))) fun _=>
 .r 1<|.fi R [])
theorem Qwe :Qek prog 157 [.sl 1 false ([])] 3 1 ([]):=by
 exact Qew func157 (
 .r 1<|.r 1<|.isNil ([]) fun b1 hnb1=>
 .bb 4 b1 (fun p1=>.r 1<|.rowNil 199 2 3 1<|.finRow (x:=[]) (r:=[]) [] trivial 199 3 1 (0) (.slice none 0 0) (by first | (simp;done) | rfl))
 <| fun p1=>.lit0 fun V1=>.r 1<|.app 8 V1 ([]:List (List AV)) ([]) (by simp<;>omega) (by simp<;>omega) fun V2=>
 .r 1<|.finRow (x:=([]:List (List AV))++([])) (r:=[]) [] trivial 5 3 1 (([]:List (List AV)).length+([]:List (List AV)).length) V2 (by first | (simp;done) | rfl))
theorem Zek (V:Value):Qi3 prog 193 [.rw 30 V 0,aI 0,aI 0] (.row V 3 1 ([])) (.tup []) (.row V 3 1 ([])):=by
 exact Qj5 (q:=30) func193 (
 .run 3 [rng .i64 (0+1)] ⟨Qaq (by omega) (by omega),trivial⟩<|
 let L1:Lp (Nat):=⟨fun a1=>⟨[(0,.rw 30 V 0),(1,aI 0),(2,aI 0),(6,aI (a1:Int))],[(30,.row V 3 1 ([]))]⟩,fun a1=>0-a1,fun a1=>1≤a1⟩
 .lp L1 1 (show 1≤1 from (Nat.le_refl _)) [(6,aI (0+1))] [] ⟨sR,sR,sR,sO,trivial⟩ bb1 fun a1 ha1=>
 (fun (i:Nat) (hH1:1≤i)=>.r 3<|.is 12 (show (decide ((i:Int)<0))=false from (decide_eq_false (by omega)))<|.finB (x:=.tup []) (r:=.tup []) [] trivial (.row V 3 1 ([])) (by exact sR)) a1 ha1)
theorem Zc5 (V:Value) (lm:Int):Qi3 prog 152 [.rw 30 V 0,aI 0,aI 0,aI lm] (.row V 3 1 ([])) (.tup []) (.row V 3 1 ([])):=by
 exact Qj5 (q:=30) func152 (
 .r 1<|.r 1<|let L1:Lp (Nat):=⟨fun a1=>⟨[(0,.rw 30 V 0),(1,aI 0),(2,aI 0),(3,aI lm),(8,aB true),(9,aB true)],[(30,.row V 3 1 ([]))]⟩,fun a1=>0-a1,fun a1=>0≤a1⟩
 .lp L1 0 (show 0≤0 from Nat.zero_le _) [] [] sr6 bb1 fun a1 ha1=>
 (fun (k:Nat) (hH1:0≤k)=>.run 4 [rng .i64 (0-0)] ⟨Qaq (by omega) (by omega),trivial⟩<|
 .r 2<|.is 23 (show (decide ((0-0)≤12))=true from (by decide))<|.lent 3<|.r 3<|.lop (lcR prog 30) ((193,[.rw 30 V 0,aI 0,aI 0],some 27),.row V 3 1 ([])) (fun (_:Unit) σ=>(σ.put (some 27) (.tup [])).setB 30 (.row V 3 1 ([]))) (Qdm (args':=[.rw 30 V 0,aI 0,aI 0]) sr3 (Zek V)) fun _=>
 .finB (x:=.tup []) (r:=.tup []) [] trivial (.row V 3 1 ([])) (by exact sR)) a1 ha1)
theorem Qox (V:Value):Qi3 prog 90 [.rw 30 V 0] (.row V 3 1 ([])) (.tup []) (.row V 3 1 ([])):=by
 exact Qj5 (q:=30) func90 (
 .r 3<|.lent 5<|.r 3<|.op (cvR) (3,188,.int .i64 (0:Int),some 8) (fun (_:Unit) σ=>σ.put (some 8) (.val (.int .u64 (0:Int)))) (Qus (Qri (by kernel_rfl) (by kernel_rfl) (rngu (by omega) (by omega)))) fun _=>
 .cs (args0:=[.val (.int .u64 (0:Int))]) (Zh1 0 (by omega) (by omega)) sr1<|
 .lop (lcR prog 30) ((152,[.rw 30 V 0,aI 0,aI (0:Int),aI (lenB 0)],some 10),.row V 3 1 ([])) (fun (_:Unit) σ=>(σ.put (some 10) (.tup [])).setB 30 (.row V 3 1 ([]))) (Qdm (args':=[.rw 30 V 0,aI 0,aI 0,aI (lenB 0)]) ⟨sR,sR,sO,sR,trivial⟩ (Zc5 V (lenB 0))) fun _=>
 .finB (x:=.tup []) (r:=.tup []) [] trivial (.row V 3 1 ([])) (by exact sR))
theorem Qkj (V:Value):Qrq prog 91 [.rw 30 V 0] (.row V 3 1 ([])) (.sl 1 false []):=by
 exact Qj4 (q:=30) func91 (
 .r 1<|.r 3<|.is 8 (show (decide ((0:Int)<2))=true from (by decide))<|.r 2<|.frz 30 [2] [] [V=V,0=([]:List (List AV)).length] ⟨rfl,(by first | rfl | (simp;done) | (simp;omega)),trivial⟩<|
 .fi (.sl 1 false []) [])
theorem Qtf :Qaj prog 97 [.sl 1 false ([])] (.sl 1 false []):=by
 exact Qad func97 (
 .r 1<|.r 1<|.op (crR prog 30) (157,[.sl 1 false ([])],5) (fun (V:Value) σ=>(σ.put (some 5) (.rw 30 V ([]:List (List AV)).length)).setB 30 (.row V 3 1 (([]:List (List AV))))) (Qhb (args':=[.sl 1 false ([])]) sr1 (Qwe)) fun V1=>
 .r 1<|.lent 1<|.r 1<|.lop (lcR prog 30) ((90,[.rw 30 V1 (([]:List (List AV)).length)],some 7),.row V1 3 1 ([]:List (List AV))) (fun (_:Unit) σ=>(σ.put (some 7) (.tup [])).setB 30 (.row V1 3 1 ([]))) (Qdm (args':=[.rw 30 V1 0]) ⟨Sub.of_eq rfl,trivial⟩ (Qox V1)) fun _=>
 .lent 1<|.r 1<|.lop (lcR prog 30) ((91,[.rw 30 V1 (([]:List (List AV)).length)],some 9),.row V1 3 1 ([])) (fun (_:Unit) σ=>(σ.put (some 9) (.sl 1 false ([]))).setB 30 gone) (Qcq (args':=[.rw 30 V1 0]) ⟨Sub.of_eq rfl,trivial⟩ (Qkj V1)) fun _=>
 .r 1<|.fi (.sl 1 false []) [])
theorem Qte (l:List Int) (hl:l.length≤100000):Qaj prog 97 [.sl 1 false (l.map intA)] (.sl 1 false ((Qda l).map intA)):=by
 cases l with
 | nil=>rw [show Qda []=[] from List.eq_nil_of_length_eq_zero (Nat.le_zero.1 (Qjl []))];exact Qtf
 | cons x r=>exact Qly (x :: r) (by simp) hl
end Go.Proofs.YtahlldgocpabjaaGreat
