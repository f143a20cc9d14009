import Derived.Lib.SlicesCompact
import Derived.Test.YtahlldgocpabjaaGreatMrgAD
import Derived.Test.YtahlldgocpabjaaGreatMrgY
import Derived.Test.YtahlldgocpabjaaGreatMrgAC
import Derived.Test.YtahlldgocpabjaaGreatShelf
import Derived.Sort.OwnSortedInts
set_option maxRecDepth 100000
set_option maxHeartbeats 8000000
set_option linter.unusedVariables false
set_option linter.unusedSimpArgs false
namespace Go.Proofs.YtahlldgocpabjaaGreat
open Go Go.RowKit Copyhold Go.Proofs.Tryz
def Asc (l:List Int):Prop:=l.Pairwise (· < ·)
theorem Qkr:∀ {a b:List Int},Asc a→Asc b→(∀ x,x∈a↔x∈b)→a=b
 | [],[],_,_,_=>rfl
 | [],y :: r,_,_,h=>absurd ((h y).2 (by simp)) (by simp)
 | x :: r,[],_,_,h=>absurd ((h x).1 (by simp)) (by simp)
 | x :: r,y :: q,ha,hb,h=>by
  obtain ⟨a1,a2⟩:=List.pairwise_cons.1 ha;obtain ⟨b1,b2⟩:=List.pairwise_cons.1 hb;have hx:=(h x).1 (by simp);have hy:=(h y).2 (by simp);have e:x=y:=by
   rcases List.mem_cons.1 hx with e | e
   ·exact e
   ·rcases List.mem_cons.1 hy with e2 | e2
    ·exact e2.symm
    ·have:=b1 x e;have:=a1 y e2;omega
  subst e;congr 1;refine Qkr a2 b2 fun z=>?_;have hz:=h z;constructor
  ·intro hm;rcases List.mem_cons.1 (hz.1 (List.mem_cons_of_mem _ hm)) with e | e
   ·have:=a1 z hm;omega
   ·exact e
  ·intro hm;rcases List.mem_cons.1 (hz.2 (List.mem_cons_of_mem _ hm)) with e | e
   ·have:=b1 z hm;omega
   ·exact e
theorem Ze3 {l:List Int} (h:Asc l) (n:Int):(∀ x∈l.take (pN l n),x<n)∧∀ x∈l.drop (pN l n),n≤x:=by
 constructor
 ·intro x hx;obtain ⟨i,hi,rfl⟩:=List.mem_iff_getElem.1 hx;rw [List.length_take] at hi;rw [List.getElem_take];exact (Qrx (n:=n) (l:=l) (k:=i) (by omega) (List.getElem?_eq_getElem (by omega))).2 (by omega)
 ·intro x hx;obtain ⟨i,hi,rfl⟩:=List.mem_iff_getElem.1 hx;rw [List.length_drop] at hi;rw [List.getElem_drop];have h0:¬ l[pN l n]'(by omega)<n:=fun hc=>by
   have:=(Qrx (n:=n) (l:=l) (k:=pN l n) (Nat.le_refl _) (List.getElem?_eq_getElem (by omega))).1 hc;omega
  by_cases hi0:i=0
  ·subst hi0;simp only [Nat.add_zero];omega
  ·have:=List.pairwise_iff_getElem.1 h (pN l n) (pN l n+i) (by omega) (by omega) (by omega);omega
theorem Qzw (l:List Int) (n:Int):Qcq l n=l.take (pN l n)++n :: (l.drop (pN l n)).filter fun x=>x != n:=by
 unfold Qcq wiK;rw [List.take_of_length_le (l:=l.drop (pN l n)) (i:=l.length-pN l n) (by rw [List.length_drop];exact Nat.le_refl _)]
theorem Qip {l:List Int} {n x:Int}:x∈Qcq l n↔x=n∨x∈l:=by
 rw [Qzw];have e:x∈l↔x∈l.take (pN l n)∨x∈l.drop (pN l n):=by rw [← List.mem_append,List.take_append_drop]
 rw [e,List.mem_append,List.mem_cons,List.mem_filter];constructor
 ·rintro (h | h | h)
  ·exact .inr (.inl h)
  ·exact .inl h
  ·exact .inr (.inr h.1)
 ·rintro (h | h | h)
  ·exact .inr (.inl h)
  ·exact .inl h
  ·by_cases hx:x=n
   ·exact .inr (.inl hx)
   ·exact .inr (.inr ⟨h,by simpa using hx⟩)
theorem Qiq {l:List Int} (h:Asc l) (n:Int):Asc (Qcq l n):=by
 obtain ⟨h1,h2⟩:=Ze3 h n;rw [Qzw];have hs:Asc (l.take (pN l n)):=List.Pairwise.sublist (List.take_sublist _ _) h;have hd:Asc (l.drop (pN l n)):=List.Pairwise.sublist (List.drop_sublist _ _) h;refine List.pairwise_append.2 ⟨hs,List.pairwise_cons.2 ⟨fun y hy=>?_,List.Pairwise.filter _ hd⟩,fun a ha b hb=>?_⟩
 ·obtain ⟨y1,y2⟩:=List.mem_filter.1 hy;have:=h2 y y1;have:y ≠ n:=by simpa using y2
  omega
 ·have:=h1 a ha;rcases List.mem_cons.1 hb with rfl | hb
  ·exact this
  ·have:=h2 b (List.mem_filter.1 hb).1;omega
def Qc3 (l:List Int):List Int:=Lib.compact (l.mergeSort fun x y=>decide (x≤y))
theorem Qqf (l:List Int) {j:Nat} (h:j<l.length):l.toArray[j]! = l[j]:=by simp [h]
theorem Qve {l:List Int} {x:Int}:x∈Lib.compact l↔x∈l:=by
 unfold Lib.compact Lib.compactUpTo;rw [List.mem_map];constructor
 ·rintro ⟨j,hj,rfl⟩;have:=List.mem_range.1 (List.mem_filter.1 hj).1;rw [Qqf l this];exact List.getElem_mem _
 ·intro hx;obtain ⟨i,hi,he⟩:=List.mem_iff_getElem.1 hx;have key:∀ (n i:Nat) (hi:i<l.length),i≤n→l[i]=x→∃ j,j<l.length∧Lib.keeps l.toArray j=true∧l.toArray[j]! = x:=by
   intro n
   induction n with
   | zero=>
    intro i hi h0 he;obtain rfl:i=0:=by omega
    exact ⟨0,hi,Lib.keeps_lt_one _ 0 (by omega),by rw [Qqf l hi];exact he⟩
   | succ n ih=>
    intro i hi h0 he;cases hk:Lib.keeps l.toArray i with
    | true=>exact ⟨i,hi,hk,by rw [Qqf l hi];exact he⟩
    | false=>
     have hi0:i ≠ 0:=fun e=>by subst e;rw [Lib.keeps_lt_one _ 0 (by omega)] at hk;cases hk
     have h2:l[i]'hi=l[i-1]'(by omega):=by
      unfold Lib.keeps at hk;have:=of_decide_eq_false hk;rw [not_or,Decidable.not_not] at this;rw [← Qqf l hi,← Qqf l (show i-1<l.length by omega)];exact this.2
     exact ih (i-1) (by omega) (by omega) (by rw [← h2];exact he)
  obtain ⟨j,h1,h2,h3⟩:=key i i hi (Nat.le_refl _) he;exact ⟨j,List.mem_filter.2 ⟨List.mem_range.2 h1,h2⟩,h3⟩
theorem Qvf {l:List Int} (h:l.Pairwise (·≤·)):Asc (Lib.compact l):=by
 unfold Lib.compact Lib.compactUpTo Asc;rw [List.pairwise_map,List.pairwise_filter];have hp:=List.pairwise_lt_range (n:=l.length);refine List.Pairwise.imp_of_mem (fun {a b} ha hb hab h1 h2=>?_) hp;have ha:=List.mem_range.1 ha;have hb:=List.mem_range.1 hb;rw [Qqf l ha,Qqf l hb];unfold Lib.keeps at h2;have h3:=of_decide_eq_true h2;have h4:l[b]'hb ≠ l[b-1]'(by omega):=by
  rcases h3 with h3 | h3
  ·omega
  ·rwa [Qqf l hb,Qqf l (show b-1<l.length by omega)] at h3
 have h5:l[b-1]'(by omega)≤l[b]'hb:=List.pairwise_iff_getElem.1 h (b-1) b (by omega) hb (by omega);by_cases e:a=b-1
 ·subst e;omega
 ·have h6:l[a]'ha≤l[b-1]'(by omega):=List.pairwise_iff_getElem.1 h a (b-1) ha (by omega) (by omega);omega
theorem Qgi {l:List Int} {x:Int}:x∈Qc3 l↔x∈l:=by
 unfold Qc3;rw [Qve];exact (List.mergeSort_perm _ _).mem_iff
theorem Qgj (l:List Int):Asc (Qc3 l):=by
 unfold Qc3;refine Qvf ?_;have:=List.pairwise_mergeSort (le:=fun (x y:Int)=>decide (x≤y)) (fun a b c h1 h2=>by simp at *;omega) (fun a b=>by simp;omega) l;exact this.imp fun h=>by simpa using h
theorem Qng (l:List Int):(Lib.compact l).length≤l.length:=by
 unfold Lib.compact Lib.compactUpTo;rw [List.length_map];have:=List.length_filter_le (Lib.keeps l.toArray) (List.range l.length);rw [List.length_range] at this;exact this
theorem Qix (l:List Int):(Qc3 l).length≤l.length:=by
 unfold Qc3;have:=Qng (l.mergeSort fun x y=>decide (x≤y))
 rwa [List.length_mergeSort] at this
def Qal (f:Fsy) (c:Cal):List Int:=if c.kind=15 then [0] else Qc3 (Qk2 f c)
theorem Zcr (l:List Ent) (x:Int):∀ (ss:List Txt) (L:List Int),x∈lk2 l ss L↔x∈L∨∃ s∈ss,isB l s=true∧getI l s=x
 | [],L=>by simp [lk2]
 | s :: r,L=>by
  show x∈lk2 l r (if isB l s=true then L++[getI l s] else L)↔_;rw [Zcr l x r]
  split
  ·rename_i h;rw [List.mem_append,List.mem_singleton];constructor
   ·rintro ((h1 | h1) | ⟨t,h1,h2⟩)
    ·exact .inl h1
    ·exact .inr ⟨s,by simp,h,h1.symm⟩
    ·exact .inr ⟨t,by simp [h1],h2⟩
   ·rintro (h1 | ⟨t,h1,h2,h3⟩)
    ·exact .inl (.inl h1)
    ·rcases List.mem_cons.1 h1 with rfl | h1
     ·exact .inl (.inr h3.symm)
     ·exact .inr ⟨t,h1,h2,h3⟩
  ·rename_i h;constructor
   ·rintro (h1 | ⟨t,h1,h2⟩)
    ·exact .inl h1
    ·exact .inr ⟨t,by simp [h1],h2⟩
   ·rintro (h1 | ⟨t,h1,h2,h3⟩)
    ·exact .inl h1
    ·rcases List.mem_cons.1 h1 with rfl | h1
     ·exact absurd h2 h
     ·exact .inr ⟨t,h1,h2,h3⟩
theorem Zcs {f:Fsy} {c:Cal} {L:List Int} {i x:Int}:x∈lk1 f c L i↔x∈L∨dirE f i=0∧∃ s,(s=c.name∨s=c.name2)∧isB (dirN f i).l s=true∧getI (dirN f i).l s=x:=by
 unfold lk1
 split
 ·rename_i h;rw [Zcr];simp [h]
 ·rename_i h;simp [h]
theorem Qy1 {f:Fsy} {c:Cal} {x:Int}:x∈Qk2 f c↔(x=c.ino∨x=c.to)∨∃ i,(i=c.ino∨i=c.to)∧dirE f i=0∧∃ s,(s=c.name∨s=c.name2)∧isB (dirN f i).l s=true∧getI (dirN f i).l s=x:=by
 show x∈lk1 f c (lk1 f c [c.ino,c.to] c.ino) c.to↔_;rw [Zcs,Zcs];constructor
 ·rintro ((h | h) | h)
  ·exact .inl (by simpa using h)
  ·exact .inr ⟨c.ino,.inl rfl,h⟩
  ·exact .inr ⟨c.to,.inr rfl,h⟩
 ·rintro (h | ⟨i,rfl | rfl,h⟩)
  ·exact .inl (.inl (by simpa using h))
  ·exact .inl (.inr h)
  ·exact .inr h
theorem Qjb {l:List Int} {f:Fsy} {d:Int} {s:Txt} {x:Int}:x∈Qbv l f d s↔x∈l∨isB (Qaa f d).l s=true∧getI (Qaa f d).l s=x:=by
 unfold Qbv
 split
 ·rename_i h;rw [Qip];simp [h];constructor
  ·rintro (h | h)
   ·exact .inr h.symm
   ·exact .inl h
  ·rintro (h | h)
   ·exact .inr h
   ·exact .inl h.symm
 ·rename_i h;simp [h]
theorem Qjc {l:List Int} (h:Asc l) (f:Fsy) (d:Int) (s:Txt):Asc (Qbv l f d s):=by
 unfold Qbv
 split
 ·exact Qiq h _
 ·exact h
theorem Zk0 (c:Cal):Asc (rl0 c):=Qiq (Qiq List.Pairwise.nil _) _
theorem Zkz {c:Cal} {x:Int}:x∈rl0 c↔x=c.ino∨x=c.to:=by
 unfold rl0;rw [Qip,Qip];simp;constructor
 ·rintro (h | h)
  ·exact .inr h
  ·exact .inl h
 ·rintro (h | h)
  ·exact .inr h
  ·exact .inl h
theorem Qlq {f:Fsy} {i:Int} {s:Txt} (hp:Qam f) (h:isB (Qaa f i).l s=true):dirE f i=0∧dirN f i=Qaa f i:=by
 cases hc:atF f i with
 | none=>
  rw [(Qtf hc).2] at h;exact absurd h (by rw [Qee];exact Bool.false_ne_true)
 | some n=>
  have hn:=(Qfl hc).2;by_cases hk:n.kind=2
  ·obtain ⟨h1,h2⟩:=Qo3 hc hk;exact ⟨h1,h2.trans hn.symm⟩
  ·rw [hn,Qew (Qbm hp hc).1 hk] at h;exact absurd h (by rw [Qee];exact Bool.false_ne_true)
theorem Za4 {f:Fsy} {c:Cal} (hp:Qam f):Qal f c=Qic f c:=by
 unfold Qal Qic
 split
 ·rfl
 ·refine Qkr (Qgj _) (Qjc (Qjc (Qjc (Qjc (Zk0 c) _ _ _) _ _ _) _ _ _) _ _ _) fun x=>?_;rw [Qgi,Qy1,Qjb,Qjb,Qjb,Qjb,Zkz];constructor
  ·rintro (h | ⟨i,hi,h0,s,hs,h1,h2⟩)
   ·exact .inl (.inl (.inl (.inl h)))
   ·obtain ⟨d,g1,g2,g3,g4,g5⟩:=Qtg h0;rw [g3] at h1 h2;rcases hi with rfl | rfl<;>rcases hs with rfl | rfl
    ·exact .inl (.inl (.inl (.inr ⟨by rw [g4];exact h1,by rw [g4];exact h2⟩)))
    ·exact .inl (.inl (.inr ⟨by rw [g4];exact h1,by rw [g4];exact h2⟩))
    ·exact .inl (.inr ⟨by rw [g4];exact h1,by rw [g4];exact h2⟩)
    ·exact .inr ⟨by rw [g4];exact h1,by rw [g4];exact h2⟩
  ·rintro ((((h | h) | h) | h) | h)
   ·exact .inl h
   ·obtain ⟨a,b⟩:=Qlq hp h.1;exact .inr ⟨c.ino,.inl rfl,a,c.name,.inl rfl,b ▸ h.1,b ▸ h.2⟩
   ·obtain ⟨a,b⟩:=Qlq hp h.1;exact .inr ⟨c.ino,.inl rfl,a,c.name2,.inr rfl,b ▸ h.1,b ▸ h.2⟩
   ·obtain ⟨a,b⟩:=Qlq hp h.1;exact .inr ⟨c.to,.inr rfl,a,c.name,.inl rfl,b ▸ h.1,b ▸ h.2⟩
   ·obtain ⟨a,b⟩:=Qlq hp h.1;exact .inr ⟨c.to,.inr rfl,a,c.name2,.inr rfl,b ▸ h.1,b ▸ h.2⟩
end Go.Proofs.YtahlldgocpabjaaGreat

namespace Go.Proofs.YtahlldgocpabjaaGreat
open Go Go.RowKit Copyhold Go.Proofs.Tryz
open Copyhold.Name (Srt insE delE getE isAt)
def updF:List (Int × Option Nod)→Option Nod→Int→Option Nod
 | [],x,_=>x
 | (i,v) :: r,x,j=>if j=i then v else updF r x j
def Upd (f k:Fsy) (u:List (Int × Option Nod)):Prop:=∀ j,atF k j=updF u (atF f j) j
theorem Upd.self (f:Fsy):Upd f f []:=fun _=>rfl
theorem Upd.out {f k:Fsy} {u:List (Int × Option Nod)} (h:Upd f k u) {j:Int} (hj:∀ p∈u,¬ p.1=j):atF k j=atF f j:=by
 rw [h j];clear h
 induction u with
 | nil=>rfl
 | cons p r ih=>
  obtain ⟨i,v⟩:=p;have h1:¬ i=j:=hj (i,v) (by simp);show (if j=i then v else updF r (atF f j) j)=_;rw [if_neg (fun e=>h1 e.symm)];exact ih fun q hq=>hj q (by simp [hq])
structure Agr (f g:Fsy) (c:Cal) (u:List (Int × Option Nod)):Prop where
 looks:∀ p∈u,p.1∈Qk2 f c
 few:u.length≤2
 updf:Upd f (doF f c).1 u
 updg:Upd g (doF g c).1 u
 same:(doF f c).2=(doF g c).2
 nextf:(doF f c).1.next=f.next
 nextg:(doF g c).1.next=g.next
 lenf:(doF f c).1.l.length≤f.l.length
theorem B_eq {f g:Fsy} {i:Int} (h:atF f i=atF g i):Qau f i=Qau g i∧Qaa f i=Qaa g i:=by rw [at_B,at_B,at_N,at_N,h];exact ⟨rfl,rfl⟩
theorem of_eq {f g:Fsy} {i k:Int} (h:atF f i=atF g i):ofE f i k=ofE g i k:=by
 obtain ⟨h1,h2⟩:=B_eq h;unfold ofE;rw [h1,h2]
def Qis (c:Cal):Prop:=c.kind=6∨c.kind=7∨c.kind=8∨c.kind=12∨c.kind=15
end Go.Proofs.YtahlldgocpabjaaGreat

namespace Go.Proofs.YtahlldgocpabjaaGreat
open Go Go.RowKit Copyhold Go.Proofs.Tryz
theorem Qqi:∀ (l:List Int),(l.map intA).flatten=l.map aI
 | []=>rfl
 | x :: r=>by
  rw [List.map_cons,List.flatten_cons,Qqi r];rfl
theorem Zaz {D:Nat→Prop} {w:World} {V:Value} {e:TypeId} {l:List Int} (h:BoxR D w (.row V e 1 (l.map intA))) (h1:1≤l.length) :
  ∃ g cap cur,V=.slice (some ⟨g,0,none⟩) l.length cap∧w.heap[g]?=some (.cells cur e (0,0))∧l.length≤cap∧cap≤maxLen∧cur.size=cap*1∧cur.toList.take l.length=l.map (Value.int .i64):=by
 obtain ⟨_,us,h2,_,h4⟩:=h;have hn:us.length=l.length:=by have:=h2.1;rw [List.length_map] at this;omega
 have hus:us=l.map (Value.int .i64):=by
  apply List.ext_getElem?;intro j;by_cases hj:j<l.length
  ·have hu:us[j]?=some us[j]:=List.getElem?_eq_getElem (by omega);have:=h4 j (aI l[j]) us[j] (by rw [Qqi,List.getElem?_map,List.getElem?_eq_getElem hj];rfl) hu;rw [hu,List.getElem?_map,List.getElem?_eq_getElem hj];generalize us[j]=q at this;cases this;rfl
  ·rw [List.getElem?_eq_none (by omega),List.getElem?_eq_none (by rw [List.length_map];omega)]
 rw [List.length_map] at h2;rcases h2.2 with ⟨_,h0⟩ | ⟨g,cap,cur,hv,_,hb,a1,a2,a3,a4⟩
 ·omega
 ·exact ⟨g,cap,cur,hv,hb,a1,a2,a3,by rw [Nat.mul_one] at a4;rw [a4,hus]⟩
theorem Zmg {D:Nat→Prop} {w:World} {V:Value} {e:TypeId} {l:List Int} (h:w.ownsRow 0 e 1 V l.length (l.map (Value.int .i64))):BoxR D w (.row V e 1 (l.map intA)):=by
 refine ⟨fun x hx=>?_,l.map (Value.int .i64),by rw [List.length_map];exact h,fun u hu=>?_,fun j a u ha hu=>?_⟩
 ·obtain ⟨y,_,rfl⟩:=List.mem_map.1 hx;rfl
 ·obtain ⟨y,_,rfl⟩:=List.mem_map.1 hu;rfl
 ·rw [Qqi,List.getElem?_map] at ha;rw [List.getElem?_map] at hu;cases hl:l[j]? with
  | none=>rw [hl] at ha;cases ha
  | some x=>
   rw [hl] at ha hu;obtain rfl:=Option.some.inj ha;obtain rfl:=Option.some.inj hu;exact .val _
theorem Qob (l:List Int) (V:Value) (h1:1≤l.length) (hl:l.length≤1000000):Qh8 prog 90 [.rw 30 V l.length] (.row V 3 1 (l.map intA)) (.tup []) (.row V 3 1 ((l.mergeSort fun x y=>decide (x≤y)).map intA)):=by
 intro D w vs hD hvs hy hyD;obtain ⟨g,cap,cur,rfl,hb,hc1,hc2,hc3,ht⟩:=Zaz hy h1;obtain ⟨u,rfl,hu⟩:=Qc0.one hvs;have hu':u=.slice (some ⟨g,0,none⟩) l.length cap:=by cases hu;rfl
 subst hu';have hg:g<w.heap.size:=(Array.getElem?_eq_some_iff.1 hb).1;refine (Tryz.slices_Sort_int g 0 cap l w (holds_of_blockI hb ht) hg (by omega)).mono ?_;rintro e w' ⟨rfl,n,os,rfl⟩;have hgb:=Go.grownBy_sortedI (w:=w) (g:=g) (n:=n) (os:=os) (l.mergeSort fun x y=>decide (x≤y)).toArray;have hlen:(l.mergeSort fun x y=>decide (x≤y)).length=l.length:=List.length_mergeSort l;have how:=Go.ownsRow_sortedI (n:=n) (os:=os) (ts:=l.mergeSort fun x y=>decide (x≤y)) hlen (Nat.zero_le g) hb hc1 hc2 hc3;refine ⟨_,D,rfl,⟨hgb.os,hgb.tape,hgb.output,hgb.size,fun k hk=>absurd hk (by omega)⟩,fun k hk hl=>hgb.block k hl (fun e=>hk e.symm),fun _ h=>h,fun b hb=>⟨Nat.lt_of_lt_of_le (hD b hb) hgb.size,.inl hb⟩,fun g' hg'=>⟨.inl hg',hyD g' hg'⟩,Zmg (by rw [hlen];exact how),.tup [] #[] rfl (by simp)⟩
theorem Qjv (l:List Int) (V:Value) (h1:1≤l.length) (hl:l.length≤1000000):Qq4 prog 91 [.rw 30 V l.length] (.row V 3 1 (l.map intA)) (.sl 1 false ((Lib.compact l).map intA)):=by
 intro D w vs hD hvs hy hyD;obtain ⟨g,cap,cur,rfl,hb,hc1,hc2,hc3,ht⟩:=Zaz hy h1;obtain ⟨u,rfl,hu⟩:=Qc0.one hvs;have hu':u=.slice (some ⟨g,0,none⟩) l.length cap:=by cases hu;rfl
 subst hu';have hg:g<w.heap.size:=(Array.getElem?_eq_some_iff.1 hb).1;refine (Tryz.slices_Compact_int g 0 cap l w (holds_of_blockI hb ht) (by omega) hc1).mono ?_;rintro e w' ⟨rfl,q,hw'⟩;have hcl:=Qng l;have hlen:(Lib.compact l++List.replicate (l.length-(Lib.compact l).length) 0).length=l.length:=by rw [List.length_append,List.length_replicate];omega
 have hgr:∀ W:World,Go.Sort.grow W #[]=W:=fun W=>by simp [Go.Sort.grow]
 rw [← hgr (Go.Sort.putRow _ _ _ _ _)] at hw';have hgb:=Go.grownBy_sortedI (w:=w) (g:=g) (n:=q) (os:=#[]) (Lib.compact l++List.replicate (l.length-(Lib.compact l).length) 0).toArray;have how:=Go.ownsRow_sortedI (n:=q) (os:=#[]) (ts:=Lib.compact l++List.replicate (l.length-(Lib.compact l).length) 0) hlen (Nat.zero_le g) hb hc1 hc2 hc3;rw [← hw'] at hgb how;refine ⟨_,fun b=>D b∨b=g,rfl,⟨hgb.os,hgb.tape,hgb.output,hgb.size,fun k hk=>absurd hk (by omega)⟩,fun k hk hl=>hgb.block k hl (fun e=>hk e.symm),fun _ h=>.inl h,fun b hb=>?_,?_⟩
 ·rcases hb with hb | rfl
  ·exact ⟨Nat.lt_of_lt_of_le (hD b hb) hgb.size,.inl hb⟩
  ·exact ⟨Nat.lt_of_lt_of_le hg hgb.size,.inr (.inl rfl)⟩
 ·have h:=Ra.sl (D:=fun b=>D b∨b=g) (w:=w') 1 false ((Lib.compact l).map intA) (some ⟨g,0,none⟩) cap g 0 (fun i _=>.int .i64 ((Lib.compact l).getD i 0)) (by rw [List.length_map];omega) (fun h=>by cases h) (fun _=>⟨rfl,.inr rfl,Nat.lt_of_lt_of_le hg hgb.size⟩)
   (fun i e he=>by
    rw [List.getElem?_map] at he;cases hc:(Lib.compact l)[i]? with
    | none=>rw [hc] at he;cases he
    | some x=>rw [hc] at he;obtain rfl:=Option.some.inj he;rfl)
   (fun i e j x he hx=>by
    rw [List.getElem?_map] at he;cases hc:(Lib.compact l)[i]? with
    | none=>rw [hc] at he;cases he
    | some y=>
     rw [hc] at he;obtain rfl:=Option.some.inj he;have hj:j=0:=by have:=(List.getElem?_eq_some_iff.1 hx).1;have e:(intA y).length=1:=rfl;omega
     subst hj;have hi:=(List.getElem?_eq_some_iff.1 hc).1;refine ⟨?_,rfl⟩;rw [Nat.mul_one,Nat.add_zero,Nat.zero_add,how.cellAt i (by omega),List.getElem?_map,List.getElem?_append_left hi,hc];simp [List.getD,hc])
   (fun i e j x he hx=>by
    rw [List.getElem?_map] at he;cases hc:(Lib.compact l)[i]? with
    | none=>rw [hc] at he;cases he
    | some y=>
     rw [hc] at he;obtain rfl:=Option.some.inj he;have hj:j=0:=by have:=(List.getElem?_eq_some_iff.1 hx).1;have e:(intA y).length=1:=rfl;omega
     subst hj;obtain rfl:=Option.some.inj hx;have e:(Lib.compact l).getD i 0=y:=by simp [List.getD,hc]
     show Ra _ _ (aI y) (.int .i64 ((Lib.compact l).getD i 0));rw [e];exact .val _)
  rw [List.length_map] at h;exact h
theorem Qvi (l:List Int) (h1:1≤l.length) (hl:l.length≤100000):Qd2 prog 157 [.sl 1 false (l.map intA)] 3 1 (l.map intA):=by
 exact Qeh func157 (
 .r 1<|.r 1<|.isNil (l.map intA) fun b1 hnb1=>
 .br 4 (b1) (fun q1=>have p1:=booT q1;.r 1<|.rowNil 199 2 3 1<|.finRow (x:=[]) (r:=l.map intA) [] trivial 199 3 1 (0) (.slice none 0 0) (by first | (simp;done) | (exfalso;have h0:l=[]:=(by simpa using hnb1 (by assumption));rw [h0] at h1;simp at h1)))
 <| fun q1=>have p1:=booF q1;.lit0 fun V1=>.r 1<|.app 8 V1 ([]:List (List AV)) (l.map intA) (by simp<;>omega) (by simp<;>omega) fun V2=>
 .r 1<|.finRow (x:=([]:List (List AV))++(l.map intA)) (r:=l.map intA) [] trivial 5 3 1 (([]:List (List AV)).length+(l.map intA).length) V2 (by first | (simp;done) | (exfalso;have h0:l=[]:=(by simpa using hnb1 (by assumption));rw [h0] at h1;simp at h1)))
theorem Qk5 (l:List Int) (h1:1≤l.length) (hl:l.length≤100000):Qaf prog 97 [.sl 1 false (l.map intA)] (.sl 1 false ((Qc3 l).map intA)):=by
 exact Qac func97 (let R:AV:=.sl 1 false ((Qc3 l).map intA);
 .r 1<|.r 1<|.op (crR prog 30) (157,[.sl 1 false (l.map intA)],5) (fun (V:Value) σ=>(σ.put (some 5) (.rw 30 V (l.map intA).length)).setB 30 (.row V 3 1 (l.map intA))) (Qgm (args':=[.sl 1 false (l.map intA)]) sr1 (Qvi l h1 hl)) fun V1=>
 .r 1<|.lent 1<|.r 1<|.lop (lcR prog 30) ((90,[.rw 30 V1 ((l.map intA).length)],some 7),.row V1 3 1 (l.map intA)) (fun (_:Unit) σ=>(σ.put (some 7) (.tup [])).setB 30 (.row V1 3 1 ((l.mergeSort fun x y=>decide (x≤y)).map intA))) (Qdd (args':=[.rw 30 V1 l.length]) ⟨Sub.of_eq (congrArg (AV.rw 30 V1) (by simp)),trivial⟩ (Qob l V1 h1 (by omega))) fun _=>
 .lent 1<|.r 1<|.lop (lcR prog 30) ((91,[.rw 30 V1 ((l.map intA).length)],some 9),.row V1 3 1 ((l.mergeSort fun x y=>decide (x≤y)).map intA)) (fun (_:Unit) σ=>(σ.put (some 9) (.sl 1 false ((Qc3 l).map intA))).setB 30 gone) (Qci (args':=[.rw 30 V1 ((l.mergeSort fun x y=>decide (x≤y)).length)]) ⟨Sub.of_eq (congrArg (AV.rw 30 V1) (by simp [List.length_mergeSort])),trivial⟩ (Qjv (l.mergeSort fun x y=>decide (x≤y)) V1 (by rw [List.length_mergeSort];exact h1) (by rw [List.length_mergeSort];omega))) fun _=>
 .r 1<|.fi R [])
theorem Qvj :Qd2 prog 157 [.sl 1 false ([])] 3 1 ([]):=by
 exact Qeh func157 (
 .r 1<|.r 1<|.isNil ([]) fun b1 hnb1=>
 .bb 4 b1 (fun p1=>.r 1<|.rowNil 199 2 3 1<|.finRow (x:=[]) (r:=[]) [] trivial 199 3 1 (0) (.slice none 0 0) (by first | (simp;done) | rfl))
 <| fun p1=>.lit0 fun V1=>.r 1<|.app 8 V1 ([]:List (List AV)) ([]) (by simp<;>omega) (by simp<;>omega) fun V2=>
 .r 1<|.finRow (x:=([]:List (List AV))++([])) (r:=[]) [] trivial 5 3 1 (([]:List (List AV)).length+([]:List (List AV)).length) V2 (by first | (simp;done) | rfl))
theorem Zdf (V:Value):Qh8 prog 193 [.rw 30 V 0,aI 0,aI 0] (.row V 3 1 ([])) (.tup []) (.row V 3 1 ([])):=by
 exact Qjh (q:=30) func193 (
 .run 3 [rng .i64 (0+1)] ⟨Qaj (by omega) (by omega),trivial⟩<|
 let L1:Lp (Nat):=⟨fun a1=>⟨[(0,.rw 30 V 0),(1,aI 0),(2,aI 0),(6,aI (a1:Int))],[(30,.row V 3 1 ([]))]⟩,fun a1=>0-a1,fun a1=>1≤a1⟩
 .lp L1 1 (show 1≤1 from (Nat.le_refl _)) [(6,aI (0+1))] [] ⟨sR,sR,sR,sO,trivial⟩ bb1 fun a1 ha1=>
 (fun (i:Nat) (hH1:1≤i)=>.r 3<|.is 12 (show (decide ((i:Int)<0))=false from (decide_eq_false (by omega)))<|.finB (x:=.tup []) (r:=.tup []) [] trivial (.row V 3 1 ([])) (by exact sR)) a1 ha1)
theorem Zbx (V:Value) (lm:Int):Qh8 prog 152 [.rw 30 V 0,aI 0,aI 0,aI lm] (.row V 3 1 ([])) (.tup []) (.row V 3 1 ([])):=by
 exact Qjh (q:=30) func152 (
 .r 1<|.r 1<|let L1:Lp (Nat):=⟨fun a1=>⟨[(0,.rw 30 V 0),(1,aI 0),(2,aI 0),(3,aI lm),(8,aB true),(9,aB true)],[(30,.row V 3 1 ([]))]⟩,fun a1=>0-a1,fun a1=>0≤a1⟩
 .lp L1 0 (show 0≤0 from Nat.zero_le _) [] [] sr6 bb1 fun a1 ha1=>
 (fun (k:Nat) (hH1:0≤k)=>.run 4 [rng .i64 (0-0)] ⟨Qaj (by omega) (by omega),trivial⟩<|
 .r 2<|.is 23 (show (decide ((0-0)≤12))=true from (by decide))<|.lent 3<|.r 3<|.lop (lcR prog 30) ((193,[.rw 30 V 0,aI 0,aI 0],some 27),.row V 3 1 ([])) (fun (_:Unit) σ=>(σ.put (some 27) (.tup [])).setB 30 (.row V 3 1 ([]))) (Qdd (args':=[.rw 30 V 0,aI 0,aI 0]) sr3 (Zdf V)) fun _=>
 .finB (x:=.tup []) (r:=.tup []) [] trivial (.row V 3 1 ([])) (by exact sR)) a1 ha1)
theorem Qoc (V:Value):Qh8 prog 90 [.rw 30 V 0] (.row V 3 1 ([])) (.tup []) (.row V 3 1 ([])):=by
 exact Qjh (q:=30) func90 (
 .r 3<|.lent 5<|.r 3<|.op (cvR) (3,188,.int .i64 (0:Int),some 8) (fun (_:Unit) σ=>σ.put (some 8) (.val (.int .u64 (0:Int)))) (Qt3 (Qqw (by kernel_rfl) (by kernel_rfl) (rngu (by omega) (by omega)))) fun _=>
 .cs (args0:=[.val (.int .u64 (0:Int))]) (Zg8 0 (by omega) (by omega)) sr1<|
 .lop (lcR prog 30) ((152,[.rw 30 V 0,aI 0,aI (0:Int),aI (lenB 0)],some 10),.row V 3 1 ([])) (fun (_:Unit) σ=>(σ.put (some 10) (.tup [])).setB 30 (.row V 3 1 ([]))) (Qdd (args':=[.rw 30 V 0,aI 0,aI 0,aI (lenB 0)]) ⟨sR,sR,sO,sR,trivial⟩ (Zbx V (lenB 0))) fun _=>
 .finB (x:=.tup []) (r:=.tup []) [] trivial (.row V 3 1 ([])) (by exact sR))
theorem Qjw (V:Value):Qq4 prog 91 [.rw 30 V 0] (.row V 3 1 ([])) (.sl 1 false []):=by
 exact Qjg (q:=30) func91 (
 .r 1<|.r 3<|.is 8 (show (decide ((0:Int)<2))=true from (by decide))<|.r 2<|.frz 30 [2] [] [V=V,0=([]:List (List AV)).length] ⟨rfl,(by first | rfl | (simp;done) | (simp;omega)),trivial⟩<|
 .fi (.sl 1 false []) [])
theorem Qsl :Qaf prog 97 [.sl 1 false ([])] (.sl 1 false []):=by
 exact Qac func97 (
 .r 1<|.r 1<|.op (crR prog 30) (157,[.sl 1 false ([])],5) (fun (V:Value) σ=>(σ.put (some 5) (.rw 30 V ([]:List (List AV)).length)).setB 30 (.row V 3 1 (([]:List (List AV))))) (Qgm (args':=[.sl 1 false ([])]) sr1 (Qvj)) fun V1=>
 .r 1<|.lent 1<|.r 1<|.lop (lcR prog 30) ((90,[.rw 30 V1 (([]:List (List AV)).length)],some 7),.row V1 3 1 ([]:List (List AV))) (fun (_:Unit) σ=>(σ.put (some 7) (.tup [])).setB 30 (.row V1 3 1 ([]))) (Qdd (args':=[.rw 30 V1 0]) ⟨Sub.of_eq rfl,trivial⟩ (Qoc V1)) fun _=>
 .lent 1<|.r 1<|.lop (lcR prog 30) ((91,[.rw 30 V1 (([]:List (List AV)).length)],some 9),.row V1 3 1 ([])) (fun (_:Unit) σ=>(σ.put (some 9) (.sl 1 false ([]))).setB 30 gone) (Qci (args':=[.rw 30 V1 0]) ⟨Sub.of_eq rfl,trivial⟩ (Qjw V1)) fun _=>
 .r 1<|.fi (.sl 1 false []) [])
theorem Qsk (l:List Int) (hl:l.length≤100000):Qaf prog 97 [.sl 1 false (l.map intA)] (.sl 1 false ((Qc3 l).map intA)):=by
 cases l with
 | nil=>rw [show Qc3 []=[] from List.eq_nil_of_length_eq_zero (Nat.le_zero.1 (Qix []))];exact Qsl
 | cons x r=>exact Qk5 (x :: r) (by simp) hl
theorem Quw (f:Fsy) (c:Cal) (okf:OkF f) (okc:OkCal c) (hp:Qam f):Qaf prog 53 [.agg (fsyA f),.agg (calA c)] (.sl 1 false ((Qal f c).map intA)):=by
 have hl:=hp.1;have hr:=Qad hp;have hcn:=okc.name;have hcn2:=okc.name2;have hct:=okc.text;exact Qac func53 (
 .new fun b1=>.new fun b2=>.r 1<|.u 3 [b2]<|
 .br 16 (c.kind==15) (fun q1=>have p1:=beqT q1;.r 2<|.f (.sl 1 false ((Qal f c).map intA)) [] (.sl 1 true ([[aI 0]])) (by
  rw [show Qal f c=_ from if_pos (by omega)];exact Sub.loose _ _ _))
 <| fun q1=>have p1:=beqF q1;.u 4 [b2,b2]<|
 .litN fun V1=>.r 1<|.u 7 [b2,b2]<|
 let L1:Lp (Nat × Value):=⟨fun a1=>⟨[(2,.ptr 2 b1 0),(3,.ptr 3 b2 0),(29,aI (a1.1:Int)),(27,.sl 1 false ([c.ino,c.to].map intA)),(28,aI 2),(5,.rw 22 a1.2 ((lk0 f c ([c.ino,c.to].take a1.1)).length))],[(2,.box b1 28 (fsyA f)),(3,.box b2 33 (calA c)),(22,.row a1.2 3 1 ((lk0 f c ([c.ino,c.to].take a1.1)).map intA))]⟩,fun a1=>2-a1.1,fun a1=>a1.1≤2⟩
 .lp L1 (0,V1) (show 0≤2 from (by show 0≤2;omega)) [(29,aI 0),(27,.sl 1 true ([[aI c.ino],[aI c.to]])),(28,aI (([[aI c.ino],[aI c.to]]).length:Int)),(5,.rw 22 V1 2)] [(22,.row V1 3 1 ([[aI c.ino],[aI c.to]]))] ⟨sR,sR,sO,(Qo1 _ _),sR,sR,trivial⟩ ⟨sB,sB,⟨_,rfl,SubB.of_eq rfl⟩,trivial⟩ fun a1 ha1=>
 (fun (k:Nat) (V:Value) (hH1:k≤2)=>have hk0:=Quy f c ([c.ino,c.to].take k) [c.ino,c.to];have hk1:(lk0 f c ([c.ino,c.to].take k)).length≤6:=(by have h2:([c.ino,c.to].take k).length≤2:=(by rw [List.length_take];simp only [List.length_cons,List.length_nil];omega);have h3:=hk0.2;unfold lk0;simp only [List.length_cons,List.length_nil] at h3;omega);.r 1<|.br 30 (decide ((k:Int)<2)) (fun q2=>have p2:=decT q2;.idxM ([c.ino,c.to]) intA k (m:=(k:Int)) rfl (by simp only [List.length_cons,List.length_nil];omega) fun x1 hx1=>
 .r 2<|.u 2 [b1]<|
 .call (Qhx f x1 hp)<|
 .r 3<|.new fun b3=>.u 2 [b3]<|
 .r 2<|.br 40 ((dirE f x1) != 0) (fun q3=>have p3:=bneT q3;.run 2 [rng .i64 ((k:Int)+1)] ⟨Qaj (by omega) (by omega),trivial⟩<|
 .bk L1 (k,V) ((k+1),V) (show (k+1)≤2 from (by show _≤2;omega)) (show 2-(k+1)<2-k from (by omega)) [(29,aI ((k:Int)+1)),(5,.rw 22 V ((lk0 f c ([c.ino,c.to].take k)).length))] [(22,.row V 3 1 ((lk0 f c ([c.ino,c.to].take k)).map intA))] ⟨sR,sR,sO,sR,sR,Sub.of_eq (congrArg (AV.rw 22 V) (by rw [show lk0 f c ([c.ino,c.to].take (k+1))=lk0 f c ([c.ino,c.to].take k) from by rw [Qlp hx1];unfold lk1;rw [if_neg (bneT q3)]])),trivial⟩ ⟨sB,sB,⟨_,rfl,SubB.of_eq (by rw [show lk0 f c ([c.ino,c.to].take (k+1))=lk0 f c ([c.ino,c.to].take k) from by rw [Qlp hx1];unfold lk1;rw [if_neg (bneT q3)]])⟩,trivial⟩)
 <| fun q3=>have p3:=bneF q3;.u 7 [b2,b2]<|
 let L2:Lp (Nat × Value):=⟨fun a2=>⟨[(2,.ptr 2 b1 0),(3,.ptr 3 b2 0),(29,aI (k:Int)),(27,.sl 1 false ([c.ino,c.to].map intA)),(28,aI 2),(8,.ptr 8 b3 0),(47,aI (a2.1:Int)),(45,.sl 1 false ([c.name,c.name2].map txA)),(46,aI 2),(5,.rw 22 a2.2 ((lk2 (dirN f x1).l ([c.name,c.name2].take a2.1) (lk0 f c ([c.ino,c.to].take k))).length))],[(2,.box b1 28 (fsyA f)),(3,.box b2 33 (calA c)),(8,.box b3 84 [aI ((dirN f x1).ino),aI ((dirN f x1).kind),aI ((dirN f x1).links),aS ((dirN f x1).text),.sl 2 false ((dirN f x1).l.map entA)]),(22,.row a2.2 3 1 ((lk2 (dirN f x1).l ([c.name,c.name2].take a2.1) (lk0 f c ([c.ino,c.to].take k))).map intA))]⟩,fun a2=>2-a2.1,fun a2=>a2.1≤2⟩
 .lp L2 (0,V) (show 0≤2 from (by show 0≤2;omega)) [(47,aI 0),(45,.sl 1 true ([[aS c.name],[aS c.name2]])),(46,aI (([[aS c.name],[aS c.name2]]).length:Int)),(5,.rw 22 V ((lk0 f c ([c.ino,c.to].take k)).length))] [(22,.row V 3 1 ((lk0 f c ([c.ino,c.to].take k)).map intA))] ⟨sR,sR,sR,sR,sR,sR,sO,(Qy9 _ _),sR,sR,trivial⟩ ⟨sB,sB,sB,⟨_,rfl,SubB.of_eq rfl⟩,trivial⟩ fun a2 ha2=>
 (fun (j:Nat) (Y:Value) (hH2:j≤2)=>have hj0:=(Qux (dirN f x1).l ([c.name,c.name2].take j) (lk0 f c ([c.ino,c.to].take k))).2;have hj1:([c.name,c.name2].take j).length≤2:=(by rw [List.length_take];simp only [List.length_cons,List.length_nil];omega);.r 1<|.br 48 (decide ((j:Int)<2)) (fun q4=>have p4:=decT q4;.idxM ([c.name,c.name2]) txA j (m:=(j:Int)) rfl (by simp only [List.length_cons,List.length_nil];omega) fun x2 hx2=>
 have nlx2:x2.length≤1000000:=(by have h9:=List.mem_of_getElem? hx2;simp only [List.mem_cons,List.not_mem_nil,or_false] at h9;rcases h9 with e | e<;>rw [e]<;>assumption);.r 2<|.u 3 [b3]<|
 .call (Qfv ((dirN f x1).l) x2 (by have:=(Qc5 hp x1).2;omega) (Qc5 hp x1).1)<|
 .r 5<|.r 1<|.br 58 (isB ((dirN f x1).l) x2) (fun q5=>have p5:=booT q5;.r 3<|.app 8 Y ((lk2 (dirN f x1).l ([c.name,c.name2].take j) (lk0 f c ([c.ino,c.to].take k))).map intA) ([[aI (getI ((dirN f x1).l) x2)]]) (by simp only [List.length_map,List.length_cons,List.length_nil];omega) (by simp only [List.length_map,List.length_cons,List.length_nil];omega) fun V2=>
 .r 1<|.run 2 [rng .i64 ((j:Int)+1)] ⟨Qaj (by omega) (by omega),trivial⟩<|
 .bk L2 (j,Y) ((j+1),V2) (show (j+1)≤2 from (by show _≤2;omega)) (show 2-(j+1)<2-j from (by omega)) [(47,aI ((j:Int)+1)),(5,.rw 22 V2 (((lk2 (dirN f x1).l ([c.name,c.name2].take j) (lk0 f c ([c.ino,c.to].take k))).map intA).length+([[aI (getI ((dirN f x1).l) x2)]]:List (List AV)).length))] [(22,.row V2 3 1 (((lk2 (dirN f x1).l ([c.name,c.name2].take j) (lk0 f c ([c.ino,c.to].take k))).map intA)++([[aI (getI ((dirN f x1).l) x2)]])))] ⟨sR,sR,sR,sR,sR,sR,sO,sR,sR,Sub.of_eq (congrArg (AV.rw 22 V2) (by rw [Zcq hx2 q5];simp)),trivial⟩ ⟨sB,sB,sB,⟨_,rfl,SubB.of_eq (by rw [Zcq hx2 q5];simp [intA])⟩,trivial⟩)
 <| fun q5=>have p5:=booF q5;.run 2 [rng .i64 ((j:Int)+1)] ⟨Qaj (by omega) (by omega),trivial⟩<|
 .bk L2 (j,Y) ((j+1),Y) (show (j+1)≤2 from (by show _≤2;omega)) (show 2-(j+1)<2-j from (by omega)) [(47,aI ((j:Int)+1)),(5,.rw 22 Y ((lk2 (dirN f x1).l ([c.name,c.name2].take j) (lk0 f c ([c.ino,c.to].take k))).length))] [(22,.row Y 3 1 ((lk2 (dirN f x1).l ([c.name,c.name2].take j) (lk0 f c ([c.ino,c.to].take k))).map intA))] ⟨sR,sR,sR,sR,sR,sR,sO,sR,sR,Sub.of_eq (congrArg (AV.rw 22 Y) (by rw [Zjn hx2 q5])),trivial⟩ ⟨sB,sB,sB,⟨_,rfl,SubB.of_eq (by rw [Zjn hx2 q5])⟩,trivial⟩)
 <| fun q4=>have p4:=decF q4;.run 2 [rng .i64 ((k:Int)+1)] ⟨Qaj (by omega) (by omega),trivial⟩<|
 .bk L1 (k,V) ((k+1),Y) (show (k+1)≤2 from (by show _≤2;omega)) (show 2-(k+1)<2-k from (by omega)) [(29,aI ((k:Int)+1)),(5,.rw 22 Y ((lk2 (dirN f x1).l ([c.name,c.name2].take j) (lk0 f c ([c.ino,c.to].take k))).length))] [(22,.row Y 3 1 ((lk2 (dirN f x1).l ([c.name,c.name2].take j) (lk0 f c ([c.ino,c.to].take k))).map intA))] ⟨sR,sR,sO,sR,sR,Sub.of_eq (congrArg (AV.rw 22 Y) (by rw [show lk0 f c ([c.ino,c.to].take (k+1))=lk2 (dirN f x1).l ([c.name,c.name2].take j) (lk0 f c ([c.ino,c.to].take k)) from by rw [Qlp hx1];unfold lk1;rw [if_pos (bneF q3),show j=2 from by omega];rfl])),trivial⟩ ⟨sB,sB,⟨_,rfl,SubB.of_eq (by rw [show lk0 f c ([c.ino,c.to].take (k+1))=lk2 (dirN f x1).l ([c.name,c.name2].take j) (lk0 f c ([c.ino,c.to].take k)) from by rw [Qlp hx1];unfold lk1;rw [if_pos (bneF q3),show j=2 from by omega];rfl])⟩,trivial⟩) a2.1 a2.2 ha2)
 <| fun q2=>have p2:=decF q2;.frz 22 [5,30] [] [V=V,(lk0 f c ([c.ino,c.to].take k)).length=((lk0 f c ([c.ino,c.to].take k)).map intA).length] ⟨rfl,(by first | rfl | (simp;done) | (simp;omega)),trivial⟩<|
 .r 1<|.cs (args0:=[.sl 1 false ((lk0 f c ([c.ino,c.to].take k)).map intA)]) (Qk5 (Qk2 f c) (by have:=Qmp f c;omega) (by have:=Qmp f c;omega)) ⟨Sub.of_eq (congrArg (AV.sl 1 false) (by rw [show k=2 from by omega];rfl)),trivial⟩<|
 .r 1<|.f (.sl 1 false ((Qal f c).map intA)) [] (.sl 1 false ((Qc3 (Qk2 f c)).map intA)) (by
  rw [show Qal f c=_ from if_neg (by omega)];exact sR)) a1.1 a1.2 ha1)
structure Chg where
 ino:Int
 gone:Bool
 n:Nod
 deriving DecidableEq
def chgA (c:Chg):List AV:=[aI c.ino,aB c.gone,aI c.n.ino,aI c.n.kind,aI c.n.links,aS c.n.text,.sl 2 false (c.n.l.map entA)]
def chgR (c:Chg):List AV:=[aI c.ino,aB c.gone,aI c.n.ino,aI c.n.kind,aI c.n.links,aS c.n.text,bif c.gone then aN else .sl 2 false (c.n.l.map entA)]
theorem Zmf {l:List Chg} {t:Bool} (h:∀ c∈l,c.gone=true→c.n.l=[]):Sub (.sl 7 t (l.map chgR)) (.sl 7 false (l.map chgA)):=
 (Sub.sl2 (xs:=l.map chgR) (ys:=l.map chgA) (by simp) (fun i a b ha hb=>by
  rw [List.getElem?_map] at ha hb;cases hc:l[i]? with
  | none=>rw [hc] at ha;cases ha
  | some c=>
   rw [hc] at ha hb;obtain rfl:=Option.some.inj ha;obtain rfl:=Option.some.inj hb;refine ⟨sR,sR,sR,sR,sR,sR,?_,trivial⟩;cases hg:c.gone with
   | false=>exact sR
   | true=>
    rw [h c (List.mem_of_getElem? hc) hg];exact Sub.nil _ _)).trans (Sub.loose _ _ _)
def Qnz (l:List Int) (ns:List Nod):List Int:=ns.foldl (fun l n=>Qcq l n.ino) l
theorem Qlo (l:List Int):∀ (ns:List Nod) ,(Qnz l ns).length≤l.length+ns.length:=by
 intro ns
 induction ns generalizing l with
 | nil=>exact Nat.le_refl _
 | cons n r ih=>
  have:=ih (Qcq l n.ino);have:=Qhb l n.ino;show (Qnz (Qcq l n.ino) r).length≤_;simp only [List.length_cons];omega
def Qcp (a b:Fsy):List Int:=Qnz (Qnz [] a.l) b.l
def chgD (a b:Fsy) (i:Int):Option Chg:=if Qau b i=false then some ⟨i,true,nod0⟩ else if Qau a i=false∨¬ Qaa a i=Qaa b i then some ⟨i,false,Qaa b i⟩ else none
def chgL (a b:Fsy) (k:Nat):List Chg:=((Qcp a b).take k).filterMap (chgD a b)
def Qb8 (a b:Fsy):List Chg:=(Qcp a b).filterMap (chgD a b)
theorem Qhy {a b:Fsy} {k:Nat} {i:Int} {c:Chg} (hx:(Qcp a b)[k]?=some i) (h:chgD a b i=some c):chgL a b (k+1)=chgL a b k++[c]:=by
 unfold chgL;rw [Qak hx,List.filterMap_append];simp [h]
theorem Zeq {a b:Fsy} {k:Nat} {i:Int} (hx:(Qcp a b)[k]?=some i) (h:chgD a b i=none):chgL a b (k+1)=chgL a b k:=by
 unfold chgL;rw [Qak hx,List.filterMap_append];simp [h]
theorem Qg4 (a b:Fsy) (k:Nat):(chgL a b k).length≤k:=by
 have:=List.length_filterMap_le (chgD a b) ((Qcp a b).take k);rw [List.length_take] at this;unfold chgL;omega
theorem Zir {a b:Fsy} {k:Nat} (h:(Qcp a b).length≤k):chgL a b k=Qb8 a b:=by unfold chgL;rw [Qav h];rfl
theorem Qs4 {a b:Fsy}:∀ c∈Qb8 a b,c.gone=true→c.n.l=[]:=fun c hc hg=>by
 obtain ⟨i,_,h⟩:=List.mem_filterMap.1 hc;unfold chgD at h
 split at h
 ·obtain rfl:=Option.some.inj h;rfl
 ·split at h
  ·obtain rfl:=Option.some.inj h;cases hg
  ·cases h
theorem Qmm {x:Int}:∀ {ns:List Nod} {l:List Int},x∈Qnz l ns↔x∈l∨x∈ns.map Nod.ino
 | [],l=>by simp [Qnz]
 | n :: r,l=>by
  show x∈Qnz (Qcq l n.ino) r↔_;rw [Qmm,Qip,List.map_cons,List.mem_cons];constructor
  ·rintro ((h | h) | h)
   ·exact .inr (.inl h)
   ·exact .inl h
   ·exact .inr (.inr h)
  ·rintro (h | h | h)
   ·exact .inl (.inr h)
   ·exact .inl (.inl h)
   ·exact .inr h
theorem Qmn:∀ {ns:List Nod} {l:List Int},Asc l→Asc (Qnz l ns)
 | [],_,h=>h
 | n :: r,l,h=>Qmn (ns:=r) (Qiq h n.ino)
theorem Ze8 (f g:Fsy):Asc (Qcp f g):=Qmn (Qmn List.Pairwise.nil)
theorem Qti {f g:Fsy} {x:Int}:x∈Qcp f g↔x∈f.l.map Nod.ino∨x∈g.l.map Nod.ino:=by
 unfold Qcp;rw [Qmm,Qmm];simp
theorem Zi7 (f g:Fsy):Qc3 ((f.l++g.l).map Nod.ino)=Qcp f g:=Qkr (Qgj _) (Ze8 f g) fun x=>by
 rw [Qgi,Qti,List.map_append,List.mem_append]
structure ApOk (c:Chg):Prop where
 no:c.n.ino<1152921504606846977
 node:OkN c.n
theorem Qnm (f g:Fsy):(Qb8 f g).length≤f.l.length+g.l.length:=by
 have h1:=List.length_filterMap_le (chgD f g) (Qcp f g);have h2:=Qlo [] f.l;have h3:=Qlo (Qnz [] f.l) g.l;unfold Qb8;unfold Qcp at h1 ⊢;simp at h2;omega
end Go.Proofs.YtahlldgocpabjaaGreat
