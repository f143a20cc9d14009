import Derived.Test.YtkhodpknpligpaaGreatAl
import Derived.Test.YtkhodpknpligpaaGreatMrgT
import Derived.Lib.SlicesCompact
import Derived.Test.YtkhodpknpligpaaGreatMrgS
import Derived.Test.YtkhodpknpligpaaGreatShelf
import Derived.Sort.OwnSortedInts
set_option maxRecDepth 100000
set_option maxHeartbeats 8000000
set_option linter.unusedVariables false
set_option linter.unusedSimpArgs false
namespace Go.Proofs.YtkhodpknpligpaaGreat
open Go Go.RowKit Copyhold Go.Proofs.Tryz
def lenB (n:Int):Int:=if n=0 then 0 else if n=1 then 1 else if n≤3 then 2 else if n≤7 then 3 else 4
theorem len_c0 (w:World):Calls prog 201 #[.int .u64 0] w fun e w'=>e=.returned (.int .i64 0)∧w=w':=by
 go_enter func201,Tryz.ntmps201
 go_wp2_with fail
 go_ret
 exact ⟨by kernel_rfl,rfl⟩
theorem len_c1 (w:World):Calls prog 201 #[.int .u64 1] w fun e w'=>e=.returned (.int .i64 1)∧w=w':=by
 go_enter func201,Tryz.ntmps201
 go_wp2_with fail
 go_ret
 exact ⟨by kernel_rfl,rfl⟩
theorem len_c2 (w:World):Calls prog 201 #[.int .u64 2] w fun e w'=>e=.returned (.int .i64 2)∧w=w':=by
 go_enter func201,Tryz.ntmps201
 go_wp2_with fail
 go_ret
 exact ⟨by kernel_rfl,rfl⟩
theorem len_c3 (w:World):Calls prog 201 #[.int .u64 3] w fun e w'=>e=.returned (.int .i64 2)∧w=w':=by
 go_enter func201,Tryz.ntmps201
 go_wp2_with fail
 go_ret
 exact ⟨by kernel_rfl,rfl⟩
theorem len_c4 (w:World):Calls prog 201 #[.int .u64 4] w fun e w'=>e=.returned (.int .i64 3)∧w=w':=by
 go_enter func201,Tryz.ntmps201
 go_wp2_with fail
 go_ret
 exact ⟨by kernel_rfl,rfl⟩
theorem len_c5 (w:World):Calls prog 201 #[.int .u64 5] w fun e w'=>e=.returned (.int .i64 3)∧w=w':=by
 go_enter func201,Tryz.ntmps201
 go_wp2_with fail
 go_ret
 exact ⟨by kernel_rfl,rfl⟩
theorem len_c6 (w:World):Calls prog 201 #[.int .u64 6] w fun e w'=>e=.returned (.int .i64 3)∧w=w':=by
 go_enter func201,Tryz.ntmps201
 go_wp2_with fail
 go_ret
 exact ⟨by kernel_rfl,rfl⟩
theorem len_c7 (w:World):Calls prog 201 #[.int .u64 7] w fun e w'=>e=.returned (.int .i64 3)∧w=w':=by
 go_enter func201,Tryz.ntmps201
 go_wp2_with fail
 go_ret
 exact ⟨by kernel_rfl,rfl⟩
theorem len_c8 (w:World):Calls prog 201 #[.int .u64 8] w fun e w'=>e=.returned (.int .i64 4)∧w=w':=by
 go_enter func201,Tryz.ntmps201
 go_wp2_with fail
 go_ret
 exact ⟨by kernel_rfl,rfl⟩
theorem len_c9 (w:World):Calls prog 201 #[.int .u64 9] w fun e w'=>e=.returned (.int .i64 4)∧w=w':=by
 go_enter func201,Tryz.ntmps201
 go_wp2_with fail
 go_ret
 exact ⟨by kernel_rfl,rfl⟩
theorem Zme (w:World):Calls prog 201 #[.int .u64 10] w fun e w'=>e=.returned (.int .i64 4)∧w=w':=by
 go_enter func201,Tryz.ntmps201
 go_wp2_with fail
 go_ret
 exact ⟨by kernel_rfl,rfl⟩
theorem Zmd (w:World):Calls prog 201 #[.int .u64 11] w fun e w'=>e=.returned (.int .i64 4)∧w=w':=by
 go_enter func201,Tryz.ntmps201
 go_wp2_with fail
 go_ret
 exact ⟨by kernel_rfl,rfl⟩
theorem Zmc (w:World):Calls prog 201 #[.int .u64 12] w fun e w'=>e=.returned (.int .i64 4)∧w=w':=by
 go_enter func201,Tryz.ntmps201
 go_wp2_with fail
 go_ret
 exact ⟨by kernel_rfl,rfl⟩
theorem Zc6 (n:Int) (h0:0≤n) (h1:n≤12) (w:World):Calls prog 201 #[.int .u64 n] w fun e w'=>e=.returned (.int .i64 (lenB n))∧w=w':=by
 rcases (show n=0∨n=1∨n=2∨n=3∨n=4∨n=5∨n=6∨n=7∨n=8∨n=9∨n=10∨n=11∨n=12 from by omega) with rfl | rfl | rfl | rfl | rfl | rfl | rfl | rfl | rfl | rfl | rfl | rfl | rfl
 ·exact len_c0 w
 ·exact len_c1 w
 ·exact len_c2 w
 ·exact len_c3 w
 ·exact len_c4 w
 ·exact len_c5 w
 ·exact len_c6 w
 ·exact len_c7 w
 ·exact len_c8 w
 ·exact len_c9 w
 ·exact Zme w
 ·exact Zmd w
 ·exact Zmc w
theorem Zc7 (n:Int) (h0:0≤n) (h1:n≤12) (w:World):Calls prog 160 #[.int .u64 n] w fun e w'=>e=.returned (.int .i64 (lenB n))∧w=w':=by
 go_enter func160,Tryz.ntmps160
 go_wp2_with fail
 refine (Zc6 n h0 h1 _).mono ?_;rintro e w1 ⟨rfl,rfl⟩
 go_wp2_with fail
 go_ret
 exact ⟨rfl,rfl⟩
theorem Zhz (n:Int) (h0:0≤n) (h1:n≤12):Qag prog 160 [.val (.int .u64 n)] (aI (lenB n)):=Qdz (fun D w=>.val _) fun D w vs h=>by
 obtain ⟨u,rfl,hu⟩:=Qc8.one h;cases hu;exact (Zc7 n h0 h1 w).mono fun e w' ⟨g1,g2⟩=>⟨g1,g2 ▸ Below.refl _ _⟩
def lk2 (l:List Ent) (ss:List Txt) (L:List Int):List Int:=ss.foldl (fun L s=>if isB l s=true then L++[getI l s] else L) L
def lk1 (f:Fsy) (c:Cal) (L:List Int) (i:Int):List Int:=if dirE f i=0 then lk2 (dirN f i).l [c.name,c.name2] L else L
def lk0 (f:Fsy) (c:Cal) (is:List Int):List Int:=is.foldl (lk1 f c) [c.ino,c.to]
def Qmp (f:Fsy) (c:Cal):List Int:=lk0 f c [c.ino,c.to]
theorem Zc4 {l:List Ent} {ss:List Txt} {L:List Int} {j:Nat} {s:Txt} (h:ss[j]?=some s) (q:isB l s=true):lk2 l (ss.take (j+1)) L=lk2 l (ss.take j) L++[getI l s]:=by
 unfold lk2;rw [Qaq h,W1o,List.foldl_cons,List.foldl_nil,W1x q]
theorem Zj9 {l:List Ent} {ss:List Txt} {L:List Int} {j:Nat} {s:Txt} (h:ss[j]?=some s) (q:isB l s=false):lk2 l (ss.take (j+1)) L=lk2 l (ss.take j) L:=by
 unfold lk2;rw [Qaq h,W1o,List.foldl_cons,List.foldl_nil,W1w (by rw [q];decide)]
theorem Qlk {f:Fsy} {c:Cal} {is:List Int} {j:Nat} {i:Int} (h:is[j]?=some i):lk0 f c (is.take (j+1))=lk1 f c (lk0 f c (is.take j)) i:=by
 unfold lk0;rw [Qaq h,W1o];rfl
theorem Qup (l:List Ent):∀ (ss:List Txt) (L:List Int),L.length≤(lk2 l ss L).length∧(lk2 l ss L).length≤L.length+ss.length
 | [],L=>⟨W0m _,W0m _⟩
 | s :: r,L=>by
  have h:=Qup l r (if isB l s=true then L++[getI l s] else L);have e:lk2 l (s :: r) L=lk2 l r (if isB l s=true then L++[getI l s] else L):=rfl;rw [e];have h2:L.length≤(if isB l s=true then L++[getI l s] else L).length∧(if isB l s=true then L++[getI l s] else L).length≤L.length+1:=by
   split
   ·rw [W0e];exact ⟨by omega,W0m _⟩
   ·exact ⟨W0m _,by omega⟩
  have h3:(s :: r).length=r.length+1:=rfl;omega
theorem Quq (f:Fsy) (c:Cal):∀ (is:List Int) (L:List Int),L.length≤(is.foldl (lk1 f c) L).length∧(is.foldl (lk1 f c) L).length≤L.length+2*is.length
 | [],L=>⟨W0m _,W0m _⟩
 | i :: r,L=>by
  have h:=Quq f c r (lk1 f c L i);have h2:L.length≤(lk1 f c L i).length∧(lk1 f c L i).length≤L.length+2:=by
   unfold lk1
   split
   ·exact Qup _ _ _
   ·exact ⟨W0m _,by omega⟩
  have e:(i :: r).foldl (lk1 f c) L=r.foldl (lk1 f c) (lk1 f c L i):=rfl;rw [e];simp only [W0b];omega
theorem Qmo (f:Fsy) (c:Cal):2≤(Qmp f c).length∧(Qmp f c).length≤6:=by
 have:=Quq f c [c.ino,c.to] [c.ino,c.to];unfold Qmp lk0;simp only [W0b,W0f] at this;omega
theorem Qzt {t:Bool} (a b:Txt):Sub (.sl 1 t [[aS a],[aS b]]) (.sl 1 false ([a,b].map txA)):=W2p _ _ _
def Asc (l:List Int):Prop:=l.Pairwise (· < ·)
theorem Qvx:∀ {a b:List Int},Asc a→Asc b→(∀ x,x∈a↔x∈b)→a=b
 | [],[],_,_,_=>rfl
 | [],y :: r,_,_,h=>absurd ((h y).2 (by simp)) (by simp)
 | x :: r,[],_,_,h=>absurd ((h x).1 (by simp)) (by simp)
 | x :: r,y :: q,ha,hb,h=>by
  obtain ⟨a1,a2⟩:=W1k.1 ha;obtain ⟨b1,b2⟩:=W1k.1 hb;have hx:=(h x).1 (by simp);have hy:=(h y).2 (by simp);have e:x=y:=by
   rcases W0y.1 hx with e | e
   ·exact e
   ·rcases W0y.1 hy with e2 | e2
    ·exact e2.symm
    ·have:=b1 x e;have:=a1 y e2;omega
  subst e;congr 1;refine Qvx a2 b2 fun z=>?_;have hz:=h z;constructor
  ·intro hm;rcases W0y.1 (hz.1 (W11 _ hm)) with e | e
   ·have:=a1 z hm;omega
   ·exact e
  ·intro hm;rcases W0y.1 (hz.2 (W11 _ hm)) with e | e
   ·have:=b1 z hm;omega
   ·exact e
theorem Zfw {l:List Int} (h:Asc l) (n:Int):(∀ x∈l.take (pN l n),x<n)∧∀ x∈l.drop (pN l n),n≤x:=by
 constructor
 ·intro x hx;obtain ⟨i,hi,rfl⟩:=List.mem_iff_getElem.1 hx;rw [W0g] at hi;rw [List.getElem_take];exact (Zb6 (n:=n) (l:=l) (k:=i) (by omega) (W0d (by omega))).2 (by omega)
 ·intro x hx;obtain ⟨i,hi,rfl⟩:=List.mem_iff_getElem.1 hx;rw [W0p] at hi;rw [List.getElem_drop];have h0:¬ l[pN l n]'(by omega)<n:=fun hc=>by
   have:=(Zb6 (n:=n) (l:=l) (k:=pN l n) (W0m _) (W0d (by omega))).1 hc;omega
  by_cases hi0:i=0
  ·subst hi0;simp only [Nat.add_zero];omega
  ·have:=W1c.1 h (pN l n) (pN l n+i) (by omega) (by omega) (by omega);omega
theorem Zal (l:List Int) (n:Int):Qpg l n=l.take (pN l n)++n :: (l.drop (pN l n)).filter fun x=>x != n:=by
 unfold Qpg wiK;rw [W1a (l:=l.drop (pN l n)) (i:=l.length-pN l n) (by rw [W0p];exact W0m _)]
theorem Zgc {l:List Int} {n x:Int}:x∈Qpg l n↔x=n∨x∈l:=by
 rw [Zal];have e:x∈l↔x∈l.take (pN l n)∨x∈l.drop (pN l n):=by rw [← W04,W1g]
 rw [e,W04,W0y,W1l];constructor
 ·rintro (h | h | h)
  ·exact .inr (.inl h)
  ·exact .inl h
  ·exact .inr (.inr h.1)
 ·rintro (h | h | h)
  ·exact .inr (.inl h)
  ·exact .inl h
  ·by_cases hx:x=n
   ·exact .inr (.inl hx)
   ·exact .inr (.inr ⟨h,by simpa using hx⟩)
theorem Zge {l:List Int} (h:Asc l) (n:Int):Asc (Qpg l n):=by
 obtain ⟨h1,h2⟩:=Zfw h n;rw [Zal];have hs:Asc (l.take (pN l n)):=List.Pairwise.sublist (List.take_sublist _ _) h;have hd:Asc (l.drop (pN l n)):=List.Pairwise.sublist (List.drop_sublist _ _) h;refine List.pairwise_append.2 ⟨hs,W1k.2 ⟨fun y hy=>?_,List.Pairwise.filter _ hd⟩,fun a ha b hb=>?_⟩
 ·obtain ⟨y1,y2⟩:=W1l.1 hy;have:=h2 y y1;have:y ≠ n:=by simpa using y2
  omega
 ·have:=h1 a ha;rcases W0y.1 hb with rfl | hb
  ·exact this
  ·have:=h2 b (W1l.1 hb).1;omega
def Qda (l:List Int):List Int:=Lib.compact (l.mergeSort fun x y=>decide (x≤y))
theorem Qqg (l:List Int) {j:Nat} (h:j<l.length):l.toArray[j]! = l[j]:=by simp [h]
theorem Qvi {l:List Int} {x:Int}:x∈Lib.compact l↔x∈l:=by
 unfold Lib.compact Lib.compactUpTo;rw [W1i];constructor
 ·rintro ⟨j,hj,rfl⟩;have:=List.mem_range.1 (W1l.1 hj).1;rw [Qqg l this];exact W1m _
 ·intro hx;obtain ⟨i,hi,he⟩:=List.mem_iff_getElem.1 hx;have key:∀ (n i:Nat) (hi:i<l.length),i≤n→l[i]=x→∃ j,j<l.length∧Lib.keeps l.toArray j=true∧l.toArray[j]! = x:=by
   intro n
   induction n with
   | zero=>
    intro i hi h0 he;obtain rfl:i=0:=by omega
    exact ⟨0,hi,Lib.keeps_lt_one _ 0 (by omega),by rw [Qqg l hi];exact he⟩
   | succ n ih=>
    intro i hi h0 he;cases hk:Lib.keeps l.toArray i with
    | true=>exact ⟨i,hi,hk,by rw [Qqg l hi];exact he⟩
    | false=>
     have hi0:i ≠ 0:=fun e=>by subst e;rw [Lib.keeps_lt_one _ 0 (by omega)] at hk;cases hk
     have h2:l[i]'hi=l[i-1]'(by omega):=by
      unfold Lib.keeps at hk;have:=of_decide_eq_false hk;rw [not_or,Decidable.not_not] at this;rw [← Qqg l hi,← Qqg l (show i-1<l.length by omega)];exact this.2
     exact ih (i-1) (by omega) (by omega) (by rw [← h2];exact he)
  obtain ⟨j,h1,h2,h3⟩:=key i i hi (W0m _) he;exact ⟨j,W1l.2 ⟨List.mem_range.2 h1,h2⟩,h3⟩
theorem Qvj {l:List Int} (h:l.Pairwise (·≤·)):Asc (Lib.compact l):=by
 unfold Lib.compact Lib.compactUpTo Asc;rw [List.pairwise_map,List.pairwise_filter];have hp:=List.pairwise_lt_range (n:=l.length);refine List.Pairwise.imp_of_mem (fun {a b} ha hb hab h1 h2=>?_) hp;have ha:=List.mem_range.1 ha;have hb:=List.mem_range.1 hb;rw [Qqg l ha,Qqg l hb];unfold Lib.keeps at h2;have h3:=of_decide_eq_true h2;have h4:l[b]'hb ≠ l[b-1]'(by omega):=by
  rcases h3 with h3 | h3
  ·omega
  ·rwa [Qqg l hb,Qqg l (show b-1<l.length by omega)] at h3
 have h5:l[b-1]'(by omega)≤l[b]'hb:=W1c.1 h (b-1) b (by omega) hb (by omega);by_cases e:a=b-1
 ·subst e;omega
 ·have h6:l[a]'ha≤l[b-1]'(by omega):=W1c.1 h a (b-1) ha (by omega) (by omega);omega
theorem Qrg {l:List Int} {x:Int}:x∈Qda l↔x∈l:=by
 unfold Qda;rw [Qvi];exact (List.mergeSort_perm _ _).mem_iff
theorem Ql2 (l:List Int):Asc (Qda l):=by
 unfold Qda;refine Qvj ?_;have:=List.pairwise_mergeSort (le:=fun (x y:Int)=>decide (x≤y)) (fun a b c h1 h2=>by simp at *;omega) (fun a b=>by simp;omega) l;exact this.imp fun h=>by simpa using h
theorem Qnh (l:List Int):(Lib.compact l).length≤l.length:=by
 unfold Lib.compact Lib.compactUpTo;rw [W0a];have:=W2g (Lib.keeps l.toArray) (List.range l.length);rw [List.length_range] at this;exact this
theorem Qis (l:List Int):(Qda l).length≤l.length:=by
 unfold Qda;have:=Qnh (l.mergeSort fun x y=>decide (x≤y))
 rwa [List.length_mergeSort] at this
def Qby (f:Fsy) (c:Cal):List Int:=if c.kind=15 then [0] else Qda (Qmp f c)
end Go.Proofs.YtkhodpknpligpaaGreat

namespace Go.Proofs.YtkhodpknpligpaaGreat
open Go Go.RowKit Copyhold Go.Proofs.Tryz
open Copyhold.Name (Srt insE delE getE isAt)
def updF:List (Int × Option Nod)→Option Nod→Int→Option Nod
 | [],x,_=>x
 | (i,v) :: r,x,j=>if j=i then v else updF r x j
def Upd (f k:Fsy) (u:List (Int × Option Nod)):Prop:=∀ j,atF k j=updF u (atF f j) j
theorem Upd.self (f:Fsy):Upd f f []:=fun _=>rfl
theorem Upd.out {f k:Fsy} {u:List (Int × Option Nod)} (h:Upd f k u) {j:Int} (hj:∀ p∈u,¬ p.1=j):atF k j=atF f j:=by
 rw [h j];clear h
 induction u with
 | nil=>rfl
 | cons p r ih=>
  obtain ⟨i,v⟩:=p;have h1:¬ i=j:=hj (i,v) (by simp);show (if j=i then v else updF r (atF f j) j)=_;rw [W1w (fun e=>h1 e.symm)];exact ih fun q hq=>hj q (by simp [hq])
structure Agr (f g:Fsy) (c:Cal) (u:List (Int × Option Nod)):Prop where
 looks:∀ p∈u,p.1∈Qmp f c
 few:u.length≤2
 updf:Upd f (doF f c).1 u
 updg:Upd g (doF g c).1 u
 same:(doF f c).2=(doF g c).2
 nextf:(doF f c).1.next=f.next
 nextg:(doF g c).1.next=g.next
 lenf:(doF f c).1.l.length≤f.l.length
theorem B_eq {f g:Fsy} {i:Int} (h:atF f i=atF g i):Qav f i=Qav g i∧Qab f i=Qab g i:=by rw [at_B,at_B,at_N,at_N,h];exact ⟨rfl,rfl⟩
theorem of_eq {f g:Fsy} {i k:Int} (h:atF f i=atF g i):ofE f i k=ofE g i k:=by
 obtain ⟨h1,h2⟩:=B_eq h;unfold ofE;rw [h1,h2]
def Qip (c:Cal):Prop:=c.kind=6∨c.kind=7∨c.kind=8∨c.kind=12∨c.kind=15
end Go.Proofs.YtkhodpknpligpaaGreat

namespace Go.Proofs.YtkhodpknpligpaaGreat
open Go Go.RowKit Copyhold Go.Proofs.Tryz
theorem Qqi:∀ (l:List Int),(l.map intA).flatten=l.map aI
 | []=>rfl
 | x :: r=>by
  rw [W1t,W1f,Qqi r];rfl
theorem Zbr {D:Nat→Prop} {w:World} {V:Value} {e:TypeId} {l:List Int} (h:BoxR D w (.row V e 1 (l.map intA))) (h1:1≤l.length) :
  ∃ g cap cur,V=.slice (some ⟨g,0,none⟩) l.length cap∧w.heap[g]?=some (.cells cur e (0,0))∧l.length≤cap∧cap≤maxLen∧cur.size=cap*1∧cur.toList.take l.length=l.map (Value.int .i64):=by
 obtain ⟨_,us,h2,_,h4⟩:=h;have hn:us.length=l.length:=by have:=h2.1;rw [W0a] at this;omega
 have hus:us=l.map (Value.int .i64):=by
  apply List.ext_getElem?;intro j;by_cases hj:j<l.length
  ·have hu:us[j]?=some us[j]:=W0d (by omega);have:=h4 j (aI l[j]) us[j] (by rw [Qqi,W0v,W0d hj];rfl) hu;rw [hu,W0v,W0d hj];generalize us[j]=q at this;cases this;rfl
  ·rw [W1h (by omega),W1h (by rw [W0a];omega)]
 rw [W0a] at h2;rcases h2.2 with ⟨_,h0⟩ | ⟨g,cap,cur,hv,_,hb,a1,a2,a3,a4⟩
 ·omega
 ·exact ⟨g,cap,cur,hv,hb,a1,a2,a3,by rw [Nat.mul_one] at a4;rw [a4,hus]⟩
theorem Zne {D:Nat→Prop} {w:World} {V:Value} {e:TypeId} {l:List Int} (h:w.ownsRow 0 e 1 V l.length (l.map (Value.int .i64))):BoxR D w (.row V e 1 (l.map intA)):=by
 refine ⟨fun x hx=>?_,l.map (Value.int .i64),by rw [W0a];exact h,fun u hu=>?_,fun j a u ha hu=>?_⟩
 ·obtain ⟨y,_,rfl⟩:=W1i.1 hx;rfl
 ·obtain ⟨y,_,rfl⟩:=W1i.1 hu;rfl
 ·rw [Qqi,W0v] at ha;rw [W0v] at hu;cases hl:l[j]? with
  | none=>rw [hl] at ha;cases ha
  | some x=>
   rw [hl] at ha hu;obtain rfl:=W0c ha;obtain rfl:=W0c hu;exact .val _
theorem Qn8 (l:List Int) (V:Value) (h1:1≤l.length) (hl:l.length≤1000000):Qh2 prog 130 [.rw 30 V l.length] (.row V 3 1 (l.map intA)) (.tup []) (.row V 3 1 ((l.mergeSort fun x y=>decide (x≤y)).map intA)):=by
 intro D w vs hD hvs hy hyD;obtain ⟨g,cap,cur,rfl,hb,hc1,hc2,hc3,ht⟩:=Zbr hy h1;obtain ⟨u,rfl,hu⟩:=Qc8.one hvs;have hu':u=.slice (some ⟨g,0,none⟩) l.length cap:=by cases hu;rfl
 subst hu';have hg:g<w.heap.size:=(W06.1 hb).1;refine (Tryz.slices_Sort_int g 0 cap l w (holds_of_blockI hb ht) hg (by omega)).mono ?_;rintro e w' ⟨rfl,n,os,rfl⟩;have hgb:=Go.grownBy_sortedI (w:=w) (g:=g) (n:=n) (os:=os) (l.mergeSort fun x y=>decide (x≤y)).toArray;have hlen:(l.mergeSort fun x y=>decide (x≤y)).length=l.length:=List.length_mergeSort l;have how:=Go.ownsRow_sortedI (n:=n) (os:=os) (ts:=l.mergeSort fun x y=>decide (x≤y)) hlen (W0j g) hb hc1 hc2 hc3;refine ⟨_,D,rfl,⟨hgb.os,hgb.tape,hgb.output,hgb.size,fun k hk=>absurd hk (by omega)⟩,fun k hk hl=>hgb.block k hl (fun e=>hk e.symm),fun _ h=>h,fun b hb=>⟨W08 (hD b hb) hgb.size,.inl hb⟩,fun g' hg'=>⟨.inl hg',hyD g' hg'⟩,Zne (by rw [hlen];exact how),.tup [] #[] rfl (by simp)⟩
theorem Qjk (l:List Int) (V:Value) (h1:1≤l.length) (hl:l.length≤1000000):Qq4 prog 131 [.rw 30 V l.length] (.row V 3 1 (l.map intA)) (.sl 1 false ((Lib.compact l).map intA)):=by
 intro D w vs hD hvs hy hyD;obtain ⟨g,cap,cur,rfl,hb,hc1,hc2,hc3,ht⟩:=Zbr hy h1;obtain ⟨u,rfl,hu⟩:=Qc8.one hvs;have hu':u=.slice (some ⟨g,0,none⟩) l.length cap:=by cases hu;rfl
 subst hu';have hg:g<w.heap.size:=(W06.1 hb).1;refine (Tryz.slices_Compact_int g 0 cap l w (holds_of_blockI hb ht) (by omega) hc1).mono ?_;rintro e w' ⟨rfl,q,hw'⟩;have hcl:=Qnh l;have hlen:(Lib.compact l++List.replicate (l.length-(Lib.compact l).length) 0).length=l.length:=by rw [W0e,W00];omega
 have hgr:∀ W:World,Go.Sort.grow W #[]=W:=fun W=>by simp [Go.Sort.grow]
 rw [← hgr (Go.Sort.putRow _ _ _ _ _)] at hw';have hgb:=Go.grownBy_sortedI (w:=w) (g:=g) (n:=q) (os:=#[]) (Lib.compact l++List.replicate (l.length-(Lib.compact l).length) 0).toArray;have how:=Go.ownsRow_sortedI (n:=q) (os:=#[]) (ts:=Lib.compact l++List.replicate (l.length-(Lib.compact l).length) 0) hlen (W0j g) hb hc1 hc2 hc3;rw [← hw'] at hgb how;refine ⟨_,fun b=>D b∨b=g,rfl,⟨hgb.os,hgb.tape,hgb.output,hgb.size,fun k hk=>absurd hk (by omega)⟩,fun k hk hl=>hgb.block k hl (fun e=>hk e.symm),fun _ h=>.inl h,fun b hb=>?_,?_⟩
 ·rcases hb with hb | rfl
  ·exact ⟨W08 (hD b hb) hgb.size,.inl hb⟩
  ·exact ⟨W08 hg hgb.size,.inr (.inl rfl)⟩
 ·have h:=Ra.sl (D:=fun b=>D b∨b=g) (w:=w') 1 false ((Lib.compact l).map intA) (some ⟨g,0,none⟩) cap g 0 (fun i _=>.int .i64 ((Lib.compact l).getD i 0)) (by rw [W0a];omega) (fun h=>by cases h) (fun _=>⟨rfl,.inr rfl,W08 hg hgb.size⟩)
   (fun i e he=>by
    rw [W0v] at he;cases hc:(Lib.compact l)[i]? with
    | none=>rw [hc] at he;cases he
    | some x=>rw [hc] at he;obtain rfl:=W0c he;rfl)
   (fun i e j x he hx=>by
    rw [W0v] at he;cases hc:(Lib.compact l)[i]? with
    | none=>rw [hc] at he;cases he
    | some y=>
     rw [hc] at he;obtain rfl:=W0c he;have hj:j=0:=by have:=(W0i.1 hx).1;have e:(intA y).length=1:=rfl;omega
     subst hj;have hi:=(W0i.1 hc).1;refine ⟨?_,rfl⟩;rw [Nat.mul_one,Nat.add_zero,Nat.zero_add,how.cellAt i (by omega),W0v,W0o hi,hc];simp [List.getD,hc])
   (fun i e j x he hx=>by
    rw [W0v] at he;cases hc:(Lib.compact l)[i]? with
    | none=>rw [hc] at he;cases he
    | some y=>
     rw [hc] at he;obtain rfl:=W0c he;have hj:j=0:=by have:=(W0i.1 hx).1;have e:(intA y).length=1:=rfl;omega
     subst hj;obtain rfl:=W0c hx;have e:(Lib.compact l).getD i 0=y:=by simp [List.getD,hc]
     show Ra _ _ (aI y) (.int .i64 ((Lib.compact l).getD i 0));rw [e];exact .val _)
  rw [W0a] at h;exact h
theorem Qvm (l:List Int) (h1:1≤l.length) (hl:l.length≤100000):Qd3 prog 253 [.sl 1 false (l.map intA)] 3 1 (l.map intA):=by
 exact Qek func253 (
 .r 1<|.r 1<|.isNil (l.map intA) fun b1 hnb1=>
 .br 4 (b1) (fun q1=>have p1:=booT q1;.r 1<|.rowNil 199 2 3 1<|.finRow (x:=[]) (r:=l.map intA) [] trivial 199 3 1 (0) (.slice none 0 0) (by first | (simp;done) | (exfalso;have h0:l=[]:=(by simpa using hnb1 (by assumption));rw [h0] at h1;simp at h1)))
 <| fun q1=>have p1:=booF q1;.lit0 fun V1=>.r 1<|.app 8 V1 ([]:List (List AV)) (l.map intA) (by simp<;>omega) (by simp<;>omega) fun V2=>
 .r 1<|.finRow (x:=([]:List (List AV))++(l.map intA)) (r:=l.map intA) [] trivial 5 3 1 (([]:List (List AV)).length+(l.map intA).length) V2 (by first | (simp;done) | (exfalso;have h0:l=[]:=(by simpa using hnb1 (by assumption));rw [h0] at h1;simp at h1)))
theorem Qkt (l:List Int) (h1:1≤l.length) (hl:l.length≤100000):Qag prog 219 [.sl 1 false (l.map intA)] (.sl 1 false ((Qda l).map intA)):=by
 exact Qac func219 (let R:AV:=.sl 1 false ((Qda l).map intA);
 .r 1<|.r 1<|.op (crR prog 30) (253,[.sl 1 false (l.map intA)],5) (fun (V:Value) σ=>(σ.put (some 5) (.rw 30 V (l.map intA).length)).setB 30 (.row V 3 1 (l.map intA))) (Qgh (args':=[.sl 1 false (l.map intA)]) sr1 (Qvm l h1 hl)) fun V1=>
 .r 1<|.lent 1<|.r 1<|.lop (lcR prog 30) ((130,[.rw 30 V1 ((l.map intA).length)],some 7),.row V1 3 1 (l.map intA)) (fun (_:Unit) σ=>(σ.put (some 7) (.tup [])).setB 30 (.row V1 3 1 ((l.mergeSort fun x y=>decide (x≤y)).map intA))) (Qde (args':=[.rw 30 V1 l.length]) ⟨W2n (W1y (AV.rw 30 V1) (by simp)),trivial⟩ (Qn8 l V1 h1 (by omega))) fun _=>
 .lent 1<|.r 1<|.lop (lcR prog 30) ((131,[.rw 30 V1 ((l.map intA).length)],some 9),.row V1 3 1 ((l.mergeSort fun x y=>decide (x≤y)).map intA)) (fun (_:Unit) σ=>(σ.put (some 9) (.sl 1 false ((Qda l).map intA))).setB 30 gone) (Qcs (args':=[.rw 30 V1 ((l.mergeSort fun x y=>decide (x≤y)).length)]) ⟨W2n (W1y (AV.rw 30 V1) (by simp [List.length_mergeSort])),trivial⟩ (Qjk (l.mergeSort fun x y=>decide (x≤y)) V1 (by rw [List.length_mergeSort];exact h1) (by rw [List.length_mergeSort];omega))) fun _=>
 .r 1<|.fi R [])
theorem Qvn :Qd3 prog 253 [.sl 1 false ([])] 3 1 ([]):=by
 exact Qek func253 (
 .r 1<|.r 1<|.isNil ([]) fun b1 hnb1=>
 .bb 4 b1 (fun p1=>.r 1<|.rowNil 199 2 3 1<|.finRow (x:=[]) (r:=[]) [] trivial 199 3 1 (0) (.slice none 0 0) (by first | (simp;done) | rfl))
 <| fun p1=>.lit0 fun V1=>.r 1<|.app 8 V1 ([]:List (List AV)) ([]) (by simp<;>omega) (by simp<;>omega) fun V2=>
 .r 1<|.finRow (x:=([]:List (List AV))++([])) (r:=[]) [] trivial 5 3 1 (([]:List (List AV)).length+([]:List (List AV)).length) V2 (by first | (simp;done) | rfl))
theorem Zdn (V:Value):Qh2 prog 191 [.rw 30 V 0,aI 0,aI 0] (.row V 3 1 ([])) (.tup []) (.row V 3 1 ([])):=by
 exact Qja (q:=30) func191 (
 .run 3 [rng .i64 (0+1)] ⟨Qal,trivial⟩<|
 let L1:Lp (Nat):=⟨fun a1=>⟨[(0,.rw 30 V 0),(1,aI 0),(2,aI 0),(6,aI (a1:Int))],[(30,.row V 3 1 ([]))]⟩,fun a1=>0-a1,fun a1=>1≤a1⟩
 .lp L1 1 (show 1≤1 from (W0m _)) [(6,aI (0+1))] [] ⟨sR,sR,sR,sO,trivial⟩ bb1 fun a1 ha1=>
 (fun (i:Nat) (hH1:1≤i)=>.r 3<|.is 12 (show (decide ((i:Int)<0))=false from (decide_eq_false (by omega)))<|.finB (x:=.tup []) (r:=.tup []) [] trivial (.row V 3 1 ([])) (by exact sR)) a1 ha1)
theorem Zb2 (V:Value) (lm:Int):Qh2 prog 159 [.rw 30 V 0,aI 0,aI 0,aI lm] (.row V 3 1 ([])) (.tup []) (.row V 3 1 ([])):=by
 exact Qja (q:=30) func159 (
 .r 1<|.r 1<|let L1:Lp (Nat):=⟨fun a1=>⟨[(0,.rw 30 V 0),(1,aI 0),(2,aI 0),(3,aI lm),(8,aB true),(9,aB true)],[(30,.row V 3 1 ([]))]⟩,fun a1=>0-a1,fun a1=>0≤a1⟩
 .lp L1 0 (show 0≤0 from W0j _) [] [] sr6 bb1 fun a1 ha1=>
 (fun (k:Nat) (hH1:0≤k)=>.run 4 [rng .i64 (0-0)] ⟨Qal,trivial⟩<|
 .r 2<|.is 23 (show (decide ((0-0)≤12))=true from (by decide))<|.lent 3<|.r 3<|.lop (lcR prog 30) ((191,[.rw 30 V 0,aI 0,aI 0],some 27),.row V 3 1 ([])) (fun (_:Unit) σ=>(σ.put (some 27) (.tup [])).setB 30 (.row V 3 1 ([]))) (Qde (args':=[.rw 30 V 0,aI 0,aI 0]) sr3 (Zdn V)) fun _=>
 .finB (x:=.tup []) (r:=.tup []) [] trivial (.row V 3 1 ([])) (by exact sR)) a1 ha1)
theorem Qn9 (V:Value):Qh2 prog 130 [.rw 30 V 0] (.row V 3 1 ([])) (.tup []) (.row V 3 1 ([])):=by
 exact Qja (q:=30) func130 (
 .r 3<|.lent 5<|.r 3<|.op (cvR) (3,215,.int .i64 (0:Int),some 8) (fun (_:Unit) σ=>σ.put (some 8) (.val (.int .u64 (0:Int)))) (Qt3 (Qqu (by kernel_rfl) (by kernel_rfl) (rngu (by omega) (by omega)))) fun _=>
 .cs (args0:=[.val (.int .u64 (0:Int))]) (Zhz 0 (by omega) (by omega)) sr1<|
 .lop (lcR prog 30) ((159,[.rw 30 V 0,aI 0,aI (0:Int),aI (lenB 0)],some 10),.row V 3 1 ([])) (fun (_:Unit) σ=>(σ.put (some 10) (.tup [])).setB 30 (.row V 3 1 ([]))) (Qde (args':=[.rw 30 V 0,aI 0,aI 0,aI (lenB 0)]) ⟨sR,sR,sO,sR,trivial⟩ (Zb2 V (lenB 0))) fun _=>
 .finB (x:=.tup []) (r:=.tup []) [] trivial (.row V 3 1 ([])) (by exact sR))
theorem Qjl (V:Value):Qq4 prog 131 [.rw 30 V 0] (.row V 3 1 ([])) (.sl 1 false []):=by
 exact Qi9 (q:=30) func131 (
 .r 1<|.r 3<|.is 8 (show (decide ((0:Int)<2))=true from (by decide))<|.r 2<|.frz 30 [2] [] [V=V,0=([]:List (List AV)).length] ⟨rfl,(by first | rfl | (simp;done) | (simp;omega)),trivial⟩<|
 .fi (.sl 1 false []) [])
theorem Qsn :Qag prog 219 [.sl 1 false ([])] (.sl 1 false []):=by
 exact Qac func219 (
 .r 1<|.r 1<|.op (crR prog 30) (253,[.sl 1 false ([])],5) (fun (V:Value) σ=>(σ.put (some 5) (.rw 30 V ([]:List (List AV)).length)).setB 30 (.row V 3 1 (([]:List (List AV))))) (Qgh (args':=[.sl 1 false ([])]) sr1 (Qvn)) fun V1=>
 .r 1<|.lent 1<|.r 1<|.lop (lcR prog 30) ((130,[.rw 30 V1 (([]:List (List AV)).length)],some 7),.row V1 3 1 ([]:List (List AV))) (fun (_:Unit) σ=>(σ.put (some 7) (.tup [])).setB 30 (.row V1 3 1 ([]))) (Qde (args':=[.rw 30 V1 0]) ⟨W2n rfl,trivial⟩ (Qn9 V1)) fun _=>
 .lent 1<|.r 1<|.lop (lcR prog 30) ((131,[.rw 30 V1 (([]:List (List AV)).length)],some 9),.row V1 3 1 ([])) (fun (_:Unit) σ=>(σ.put (some 9) (.sl 1 false ([]))).setB 30 gone) (Qcs (args':=[.rw 30 V1 0]) ⟨W2n rfl,trivial⟩ (Qjl V1)) fun _=>
 .r 1<|.fi (.sl 1 false []) [])
theorem Qsm (l:List Int) (hl:l.length≤100000):Qag prog 219 [.sl 1 false (l.map intA)] (.sl 1 false ((Qda l).map intA)):=by
 cases l with
 | nil=>rw [show Qda []=[] from W0l (Nat.le_zero.1 (Qis []))];exact Qsn
 | cons x r=>exact Qkt (x :: r) (by simp) hl
theorem Quo (f:Fsy) (c:Cal) (okf:OkF f) (okc:OkCal c) (hp:Qat f):Qag prog 243 [.agg (fsyA f),.agg (calA c)] (.sl 1 false ((Qby f c).map intA)):=by
 have hl:=hp.1;have hr:=Qah hp;have hcn:=okc.name;have hcn2:=okc.name2;have hct:=okc.text;exact Qac func243 (
 .new fun b1=>.new fun b2=>.r 1<|.u 3 [b2]<|
 .br 16 (c.kind==15) (fun q1=>have p1:=beqT q1;.r 2<|.f (.sl 1 false ((Qby f c).map intA)) [] (.sl 1 true ([[aI 0]])) (by
  rw [show Qby f c=_ from W1x (by omega)];exact W2p _ _ _))
 <| fun q1=>have p1:=beqF q1;.u 4 [b2,b2]<|
 .litN fun V1=>.r 1<|.u 7 [b2,b2]<|
 let L1:Lp (Nat × Value):=⟨fun a1=>⟨[(2,.ptr 2 b1 0),(3,.ptr 3 b2 0),(29,aI (a1.1:Int)),(27,.sl 1 false ([c.ino,c.to].map intA)),(28,aI 2),(5,.rw 22 a1.2 ((lk0 f c ([c.ino,c.to].take a1.1)).length))],[(2,.box b1 38 (fsyA f)),(3,.box b2 60 (calA c)),(22,.row a1.2 3 1 ((lk0 f c ([c.ino,c.to].take a1.1)).map intA))]⟩,fun a1=>2-a1.1,fun a1=>a1.1≤2⟩
 .lp L1 (0,V1) (show 0≤2 from (by show 0≤2;omega)) [(29,aI 0),(27,.sl 1 true ([[aI c.ino],[aI c.to]])),(28,aI (([[aI c.ino],[aI c.to]]).length:Int)),(5,.rw 22 V1 2)] [(22,.row V1 3 1 ([[aI c.ino],[aI c.to]]))] ⟨sR,sR,sO,(Qoz _ _),sR,sR,trivial⟩ ⟨sB,sB,⟨_,rfl,W2o rfl⟩,trivial⟩ fun a1 ha1=>
 (fun (k:Nat) (V:Value) (hH1:k≤2)=>have hk0:=Quq f c ([c.ino,c.to].take k) [c.ino,c.to];have hk1:(lk0 f c ([c.ino,c.to].take k)).length≤6:=(by have h2:([c.ino,c.to].take k).length≤2:=(by rw [W0g];simp only [W0b,W0f];omega);have h3:=hk0.2;unfold lk0;simp only [W0b,W0f] at h3;omega);.r 1<|.br 30 (decide ((k:Int)<2)) (fun q2=>have p2:=decT q2;.idxM ([c.ino,c.to]) intA k (m:=(k:Int)) rfl (by simp only [W0b,W0f];omega) fun x1 hx1=>
 .r 2<|.u 2 [b1]<|
 .call (Qhr f x1 hp)<|
 .r 3<|.new fun b3=>.u 2 [b3]<|
 .r 2<|.br 40 ((dirE f x1) != 0) (fun q3=>have p3:=bneT q3;.run 2 [rng .i64 ((k:Int)+1)] ⟨Qal,trivial⟩<|
 .bk L1 (k,V) ((k+1),V) (show (k+1)≤2 from (by show _≤2;omega)) (show 2-(k+1)<2-k from (by omega)) [(29,aI ((k:Int)+1)),(5,.rw 22 V ((lk0 f c ([c.ino,c.to].take k)).length))] [(22,.row V 3 1 ((lk0 f c ([c.ino,c.to].take k)).map intA))] ⟨sR,sR,sO,sR,sR,W2n (W1y (AV.rw 22 V) (by rw [show lk0 f c ([c.ino,c.to].take (k+1))=lk0 f c ([c.ino,c.to].take k) from by rw [Qlk hx1];unfold lk1;rw [W1w (bneT q3)]])),trivial⟩ ⟨sB,sB,⟨_,rfl,W2o (by rw [show lk0 f c ([c.ino,c.to].take (k+1))=lk0 f c ([c.ino,c.to].take k) from by rw [Qlk hx1];unfold lk1;rw [W1w (bneT q3)]])⟩,trivial⟩)
 <| fun q3=>have p3:=bneF q3;.u 7 [b2,b2]<|
 let L2:Lp (Nat × Value):=⟨fun a2=>⟨[(2,.ptr 2 b1 0),(3,.ptr 3 b2 0),(29,aI (k:Int)),(27,.sl 1 false ([c.ino,c.to].map intA)),(28,aI 2),(8,.ptr 8 b3 0),(47,aI (a2.1:Int)),(45,.sl 1 false ([c.name,c.name2].map txA)),(46,aI 2),(5,.rw 22 a2.2 ((lk2 (dirN f x1).l ([c.name,c.name2].take a2.1) (lk0 f c ([c.ino,c.to].take k))).length))],[(2,.box b1 38 (fsyA f)),(3,.box b2 60 (calA c)),(8,.box b3 85 [aI ((dirN f x1).ino),aI ((dirN f x1).kind),aI ((dirN f x1).links),aS ((dirN f x1).text),.sl 2 false ((dirN f x1).l.map entA)]),(22,.row a2.2 3 1 ((lk2 (dirN f x1).l ([c.name,c.name2].take a2.1) (lk0 f c ([c.ino,c.to].take k))).map intA))]⟩,fun a2=>2-a2.1,fun a2=>a2.1≤2⟩
 .lp L2 (0,V) (show 0≤2 from (by show 0≤2;omega)) [(47,aI 0),(45,.sl 1 true ([[aS c.name],[aS c.name2]])),(46,aI (([[aS c.name],[aS c.name2]]).length:Int)),(5,.rw 22 V ((lk0 f c ([c.ino,c.to].take k)).length))] [(22,.row V 3 1 ((lk0 f c ([c.ino,c.to].take k)).map intA))] ⟨sR,sR,sR,sR,sR,sR,sO,(Qzt _ _),sR,sR,trivial⟩ ⟨sB,sB,sB,⟨_,rfl,W2o rfl⟩,trivial⟩ fun a2 ha2=>
 (fun (j:Nat) (Y:Value) (hH2:j≤2)=>have hj0:=(Qup (dirN f x1).l ([c.name,c.name2].take j) (lk0 f c ([c.ino,c.to].take k))).2;have hj1:([c.name,c.name2].take j).length≤2:=(by rw [W0g];simp only [W0b,W0f];omega);.r 1<|.br 48 (decide ((j:Int)<2)) (fun q4=>have p4:=decT q4;.idxM ([c.name,c.name2]) txA j (m:=(j:Int)) rfl (by simp only [W0b,W0f];omega) fun x2 hx2=>
 have nlx2:x2.length≤1000000:=(by have h9:=W0h hx2;simp only [W0y,List.not_mem_nil,or_false] at h9;rcases h9 with e | e<;>rw [e]<;>assumption);.r 2<|.u 3 [b3]<|
 .call (Qfk ((dirN f x1).l) x2 (by have:=(Qef hp x1).2;omega) (Qef hp x1).1)<|
 .r 5<|.r 1<|.br 58 (isB ((dirN f x1).l) x2) (fun q5=>have p5:=booT q5;.r 3<|.app 8 Y ((lk2 (dirN f x1).l ([c.name,c.name2].take j) (lk0 f c ([c.ino,c.to].take k))).map intA) ([[aI (getI ((dirN f x1).l) x2)]]) (by simp only [W0a,W0b,W0f];omega) (by simp only [W0a,W0b,W0f];omega) fun V2=>
 .r 1<|.run 2 [rng .i64 ((j:Int)+1)] ⟨Qal,trivial⟩<|
 .bk L2 (j,Y) ((j+1),V2) (show (j+1)≤2 from (by show _≤2;omega)) (show 2-(j+1)<2-j from (by omega)) [(47,aI ((j:Int)+1)),(5,.rw 22 V2 (((lk2 (dirN f x1).l ([c.name,c.name2].take j) (lk0 f c ([c.ino,c.to].take k))).map intA).length+([[aI (getI ((dirN f x1).l) x2)]]:List (List AV)).length))] [(22,.row V2 3 1 (((lk2 (dirN f x1).l ([c.name,c.name2].take j) (lk0 f c ([c.ino,c.to].take k))).map intA)++([[aI (getI ((dirN f x1).l) x2)]])))] ⟨sR,sR,sR,sR,sR,sR,sO,sR,sR,W2n (W1y (AV.rw 22 V2) (by rw [Zc4 hx2 q5];simp)),trivial⟩ ⟨sB,sB,sB,⟨_,rfl,W2o (by rw [Zc4 hx2 q5];simp [intA])⟩,trivial⟩)
 <| fun q5=>have p5:=booF q5;.run 2 [rng .i64 ((j:Int)+1)] ⟨Qal,trivial⟩<|
 .bk L2 (j,Y) ((j+1),Y) (show (j+1)≤2 from (by show _≤2;omega)) (show 2-(j+1)<2-j from (by omega)) [(47,aI ((j:Int)+1)),(5,.rw 22 Y ((lk2 (dirN f x1).l ([c.name,c.name2].take j) (lk0 f c ([c.ino,c.to].take k))).length))] [(22,.row Y 3 1 ((lk2 (dirN f x1).l ([c.name,c.name2].take j) (lk0 f c ([c.ino,c.to].take k))).map intA))] ⟨sR,sR,sR,sR,sR,sR,sO,sR,sR,W2n (W1y (AV.rw 22 Y) (by rw [Zj9 hx2 q5])),trivial⟩ ⟨sB,sB,sB,⟨_,rfl,W2o (by rw [Zj9 hx2 q5])⟩,trivial⟩)
 <| fun q4=>have p4:=decF q4;.run 2 [rng .i64 ((k:Int)+1)] ⟨Qal,trivial⟩<|
 .bk L1 (k,V) ((k+1),Y) (show (k+1)≤2 from (by show _≤2;omega)) (show 2-(k+1)<2-k from (by omega)) [(29,aI ((k:Int)+1)),(5,.rw 22 Y ((lk2 (dirN f x1).l ([c.name,c.name2].take j) (lk0 f c ([c.ino,c.to].take k))).length))] [(22,.row Y 3 1 ((lk2 (dirN f x1).l ([c.name,c.name2].take j) (lk0 f c ([c.ino,c.to].take k))).map intA))] ⟨sR,sR,sO,sR,sR,W2n (W1y (AV.rw 22 Y) (by rw [show lk0 f c ([c.ino,c.to].take (k+1))=lk2 (dirN f x1).l ([c.name,c.name2].take j) (lk0 f c ([c.ino,c.to].take k)) from by rw [Qlk hx1];unfold lk1;rw [W1x (bneF q3),show j=2 from by omega];rfl])),trivial⟩ ⟨sB,sB,⟨_,rfl,W2o (by rw [show lk0 f c ([c.ino,c.to].take (k+1))=lk2 (dirN f x1).l ([c.name,c.name2].take j) (lk0 f c ([c.ino,c.to].take k)) from by rw [Qlk hx1];unfold lk1;rw [W1x (bneF q3),show j=2 from by omega];rfl])⟩,trivial⟩) a2.1 a2.2 ha2)
 <| fun q2=>have p2:=decF q2;.frz 22 [5,30] [] [V=V,(lk0 f c ([c.ino,c.to].take k)).length=((lk0 f c ([c.ino,c.to].take k)).map intA).length] ⟨rfl,(by first | rfl | (simp;done) | (simp;omega)),trivial⟩<|
 .r 1<|.cs (args0:=[.sl 1 false ((lk0 f c ([c.ino,c.to].take k)).map intA)]) (Qkt (Qmp f c) (by have:=Qmo f c;omega) (by have:=Qmo f c;omega)) ⟨W2n (W1y (AV.sl 1 false) (by rw [show k=2 from by omega];rfl)),trivial⟩<|
 .r 1<|.f (.sl 1 false ((Qby f c).map intA)) [] (.sl 1 false ((Qda (Qmp f c)).map intA)) (by
  rw [show Qby f c=_ from W1w (by omega)];exact sR)) a1.1 a1.2 ha1)
structure Chg where
 ino:Int
 gone:Bool
 n:Nod
 deriving DecidableEq
def chgA (c:Chg):List AV:=[aI c.ino,aB c.gone,aI c.n.ino,aI c.n.kind,aI c.n.links,aS c.n.text,.sl 2 false (c.n.l.map entA)]
def chgR (c:Chg):List AV:=[aI c.ino,aB c.gone,aI c.n.ino,aI c.n.kind,aI c.n.links,aS c.n.text,bif c.gone then aN else .sl 2 false (c.n.l.map entA)]
theorem Zna {l:List Chg} {t:Bool} (h:∀ c∈l,c.gone=true→c.n.l=[]):Sub (.sl 7 t (l.map chgR)) (.sl 7 false (l.map chgA)):=
 (Sub.sl2 (xs:=l.map chgR) (ys:=l.map chgA) (by simp) (fun i a b ha hb=>by
  rw [W0v] at ha hb;cases hc:l[i]? with
  | none=>rw [hc] at ha;cases ha
  | some c=>
   rw [hc] at ha hb;obtain rfl:=W0c ha;obtain rfl:=W0c hb;refine ⟨sR,sR,sR,sR,sR,sR,?_,trivial⟩;cases hg:c.gone with
   | false=>exact sR
   | true=>
    rw [h c (W0h hc) hg];exact Sub.nil _ _)).trans (W2p _ _ _)
def Qnz (l:List Int) (ns:List Nod):List Int:=ns.foldl (fun l n=>Qpg l n.ino) l
theorem Qli (l:List Int):∀ (ns:List Nod) ,(Qnz l ns).length≤l.length+ns.length:=by
 intro ns
 induction ns generalizing l with
 | nil=>exact W0m _
 | cons n r ih=>
  have:=ih (Qpg l n.ino);have:=Zgd l n.ino;show (Qnz (Qpg l n.ino) r).length≤_;simp only [W0b];omega
def Qct (a b:Fsy):List Int:=Qnz (Qnz [] a.l) b.l
def chgD (a b:Fsy) (i:Int):Option Chg:=if Qav b i=false then some ⟨i,true,nod0⟩ else if Qav a i=false∨¬ Qab a i=Qab b i then some ⟨i,false,Qab b i⟩ else none
def chgL (a b:Fsy) (k:Nat):List Chg:=((Qct a b).take k).filterMap (chgD a b)
def Qbi (a b:Fsy):List Chg:=(Qct a b).filterMap (chgD a b)
theorem Qhs {a b:Fsy} {k:Nat} {i:Int} {c:Chg} (hx:(Qct a b)[k]?=some i) (h:chgD a b i=some c):chgL a b (k+1)=chgL a b k++[c]:=by
 unfold chgL;rw [Qaq hx,List.filterMap_append];simp [h]
theorem Zfg {a b:Fsy} {k:Nat} {i:Int} (hx:(Qct a b)[k]?=some i) (h:chgD a b i=none):chgL a b (k+1)=chgL a b k:=by
 unfold chgL;rw [Qaq hx,List.filterMap_append];simp [h]
theorem Qg0 (a b:Fsy) (k:Nat):(chgL a b k).length≤k:=by
 have:=List.length_filterMap_le (chgD a b) ((Qct a b).take k);rw [W0g] at this;unfold chgL;omega
theorem Zje {a b:Fsy} {k:Nat} (h:(Qct a b).length≤k):chgL a b k=Qbi a b:=by unfold chgL;rw [Qap h];rfl
theorem Qs2 {a b:Fsy}:∀ c∈Qbi a b,c.gone=true→c.n.l=[]:=fun c hc hg=>by
 obtain ⟨i,_,h⟩:=W2i.1 hc;unfold chgD at h
 split at h
 ·obtain rfl:=W0c h;rfl
 ·split at h
  ·obtain rfl:=W0c h;cases hg
  ·cases h
theorem Qmm {x:Int}:∀ {ns:List Nod} {l:List Int},x∈Qnz l ns↔x∈l∨x∈ns.map Nod.ino
 | [],l=>by simp [Qnz]
 | n :: r,l=>by
  show x∈Qnz (Qpg l n.ino) r↔_;rw [Qmm,Zgc,W1t,W0y];constructor
  ·rintro ((h | h) | h)
   ·exact .inr (.inl h)
   ·exact .inl h
   ·exact .inr (.inr h)
  ·rintro (h | h | h)
   ·exact .inl (.inr h)
   ·exact .inl (.inl h)
   ·exact .inr h
theorem Qmn:∀ {ns:List Nod} {l:List Int},Asc l→Asc (Qnz l ns)
 | [],_,h=>h
 | n :: r,l,h=>Qmn (ns:=r) (Zge h n.ino)
theorem Qti (f g:Fsy):Asc (Qct f g):=Qmn (Qmn List.Pairwise.nil)
theorem Qg5 {f g:Fsy} {x:Int}:x∈Qct f g↔x∈f.l.map Nod.ino∨x∈g.l.map Nod.ino:=by
 unfold Qct;rw [Qmm,Qmm];simp
theorem Zju (f g:Fsy):Qda ((f.l++g.l).map Nod.ino)=Qct f g:=Qvx (Ql2 _) (Qti f g) fun x=>by
 rw [Qrg,Qg5,W1r,W04]
theorem Qor {f:Fsy} {x:Int}:x∈f.l.map Nod.ino↔∃ n,atF f x=some n:=by
 constructor
 ·intro h;obtain ⟨n,hn,rfl⟩:=W1i.1 h;cases hc:atF f n.ino with
  | some m=>exact ⟨m,rfl⟩
  | none=>
   have:=W10.1 hc n hn;simp [isNo] at this
 ·rintro ⟨n,hn⟩;exact W1i.2 ⟨n,Qdh hn,Qei hn⟩
theorem no_mem {f g:Fsy} {x:Int} (h:¬ x∈Qct f g):atF f x=none∧atF g x=none:=by
 rw [Qg5,Qor,Qor] at h;constructor
 ·cases hc:atF f x with
  | none=>rfl
  | some n=>exact absurd (.inl ⟨n,hc⟩) h
 ·cases hc:atF g x with
  | none=>rfl
  | some n=>exact absurd (.inr ⟨n,hc⟩) h
theorem Qxz {f g:Fsy} {i:Int}:chgD f g i=none↔(∃ n,atF g i=some n∧atF f i=some n):=by
 unfold chgD;rw [at_B,at_B,at_N,at_N];cases hg:atF g i with
 | none=>simp
 | some n=>
  cases hf:atF f i with
  | none=>simp
  | some m=>simp
theorem Qfp {f g:Fsy} {i:Int} {c:Chg} (h:chgD f g i=some c):c.ino=i∧((c.gone=true∧atF g i=none)∨(c.gone=false∧atF g i=some c.n)):=by
 unfold chgD at h;rw [at_B,at_B] at h;cases hg:atF g i with
 | none=>
  rw [hg] at h;simp at h;subst h;exact ⟨rfl,.inl ⟨rfl,rfl⟩⟩
 | some n=>
  rw [hg] at h;have hn:Qab g i=n:=by rw [at_N,hg];rfl
  simp only [Option.isSome_some,Bool.true_eq_false,if_false] at h
  split at h
  ·obtain rfl:=W0c h;exact ⟨rfl,.inr ⟨rfl,by rw [hn]⟩⟩
  ·cases h
theorem Qz6 {f g:Fsy} {c:Chg} (h:c∈Qbi f g):¬ atF f c.ino=atF g c.ino:=by
 obtain ⟨i,hi,hc⟩:=W2i.1 h;obtain ⟨e,_⟩:=Qfp hc;rw [e];intro he;cases hg:atF g i with
 | none=>
  rcases Qg5.1 hi with h1 | h1
  ·obtain ⟨n,hn⟩:=Qor.1 h1;rw [he,hg] at hn;cases hn
  ·obtain ⟨n,hn⟩:=Qor.1 h1;rw [hg] at hn;cases hn
 | some n=>
  have:=Qxz.2 ⟨n,hg,he.trans hg⟩;rw [this] at hc;cases hc
def maxD (a b:Int):Int:=if b>a then b else a
structure ApOk (c:Chg):Prop where
 no:c.n.ino<1152921504606846977
 node:OkN c.n
theorem Qik (f g:Fsy):(Qbi f g).length≤f.l.length+g.l.length:=by
 have h1:=List.length_filterMap_le (chgD f g) (Qct f g);have h2:=Qli [] f.l;have h3:=Qli (Qnz [] f.l) g.l;unfold Qbi;unfold Qct at h1 ⊢;simp at h2;omega
end Go.Proofs.YtkhodpknpligpaaGreat
