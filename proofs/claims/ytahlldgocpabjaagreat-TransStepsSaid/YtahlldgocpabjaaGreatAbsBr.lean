import Derived.Test.YtahlldgocpabjaaGreatMrgG
import Derived.Test.YtahlldgocpabjaaGreatMrgA
set_option linter.unusedVariables false
namespace Copyhold
open Go Go.RowKit
def Qh9 (D:Nat→Prop) (w:World) (xs:List AV) (cs:List Value):Prop:=cs.length=xs.length∧∀ (j:Nat) (a:AV) (u:Value),xs[j]?=some a→cs[j]?=some u→Ra D w a u
theorem Qom {α:Type} {R:α→List Value→Prop} {w:World} {k:Nat} {enc:α→List AV} {l:List α} {v:Value} (h:SlOf R w k v l) (D:Nat→Prop) (hD:∀ b,b<w.heap.size→D b)
  (hR:∀ x∈l,∀ cs,cs.length=k→R x cs→(∀ u∈cs,u.oneCell'=true)∧Qh9 D w (enc x) cs):Ra D w (.sl k false (l.map enc)) v:=by
 obtain ⟨css,⟨A,c,rfl,hnc,hl,hcells⟩,hcl,hel⟩:=h;have key:∀ (i:Nat) (x:α),l[i]?=some x→∃ cs,css[i]?=some cs∧cs.length=k∧(∀ u∈cs,u.oneCell'=true)∧Qh9 D w (enc x) cs:=fun i x hx=>by
  have hi:i<l.length:=(List.getElem?_eq_some_iff.1 hx).1;have hc:css[i]?=some (css[i]'(by omega)):=List.getElem?_eq_getElem (by omega);obtain ⟨h1,h2⟩:=hel i _ x hc hx;obtain ⟨h3,h4⟩:=hR x (List.mem_of_getElem? hx) _ h1 h2;exact ⟨_,hc,h1,h3,h4⟩
 have hall:∀ cs∈css,cs.length=k:=fun cs hm=>by
  obtain ⟨j,hj,rfl⟩:=List.mem_iff_getElem.1 hm;exact (hel j _ _ (List.getElem?_eq_getElem hj) (List.getElem?_eq_getElem (by omega))).1
 have hb:0<l.length→∃ b off,A=some ⟨b,off,none⟩∧b<w.heap.size∧∀ (j:Nat) (x:Value),css.flatten[j]?=some x→w.cell? ⟨b,off+j,none⟩=some x:=hcells;obtain ⟨b,off,hbo⟩:∃ b off,0<l.length→A=some ⟨b,off,none⟩∧b<w.heap.size∧∀ (j:Nat) (x:Value),css.flatten[j]?=some x→w.cell? ⟨b,off+j,none⟩=some x:=by
  by_cases h0:0<l.length
  ·obtain ⟨b,off,h⟩:=hb h0;exact ⟨b,off,fun _=>h⟩
  ·exact ⟨0,0,fun h=>absurd h h0⟩
 have main:=Ra.sl (D:=D) (w:=w) k false (l.map enc) A c b off (fun i j=>(css.getD i []).getD j undef) (by simpa using hnc) (fun h=>by cases h) (fun h0=>by
   obtain ⟨h1,h2,_⟩:=hbo (by simpa using h0);exact ⟨h1,hD b h2,h2⟩) (fun i e he=>by
   simp only [List.getElem?_map] at he;cases hx:l[i]? with
   | none=>rw [hx] at he;cases he
   | some x=>
    rw [hx] at he;obtain rfl:=Option.some.inj he;obtain ⟨cs,_,h2,_,h4⟩:=key i x hx;rw [← h4.1,h2]) (fun i e j y he hy=>by
   simp only [List.getElem?_map] at he;cases hx:l[i]? with
   | none=>rw [hx] at he;cases he
   | some x=>
    rw [hx] at he;obtain rfl:=Option.some.inj he;obtain ⟨cs,h1,h2,h3,h4⟩:=key i x hx;have hj:j<cs.length:=by rw [h4.1];exact (List.getElem?_eq_some_iff.1 hy).1
    have hc:cs[j]?=some cs[j]:=List.getElem?_eq_getElem hj;have hi:i<l.length:=(List.getElem?_eq_some_iff.1 hx).1;obtain ⟨_,_,hcc⟩:=hbo (by omega);simp only [List.getD,h1,Option.getD_some,hc];refine ⟨hcc _ _ ?_,h3 _ (List.getElem_mem hj)⟩;rw [Qik css hall i j (by omega),h1];exact hc) (fun i e j y he hy=>by
   simp only [List.getElem?_map] at he;cases hx:l[i]? with
   | none=>rw [hx] at he;cases he
   | some x=>
    rw [hx] at he;obtain rfl:=Option.some.inj he;obtain ⟨cs,h1,h2,h3,h4⟩:=key i x hx;have hj:j<cs.length:=by rw [h4.1];exact (List.getElem?_eq_some_iff.1 hy).1
    have hc:cs[j]?=some cs[j]:=List.getElem?_eq_getElem hj;simp only [List.getD,h1,Option.getD_some,hc];exact h4.2 j y _ hy hc)
 rw [List.length_map] at main;exact main
def txA (l:List UInt8):List AV:=[aS l]
theorem Zdo {P:Program} {f:FuncId} {args:List AV} {V:Value} (h:∀ (D:Nat→Prop) (w:World) (vs:Array Value),Qc0 D w args vs→Calls P f vs w (fun e w'=>e=.returned V∧Below w.heap.size w w')):Qaf P f args (.val V):=by
 intro D w vs hD hv;refine (h D w vs hv).mono ?_;rintro e w' ⟨rfl,hb⟩;exact ⟨V,D,rfl,hb,fun _ h=>h,fun b h=>⟨Nat.lt_of_lt_of_le (hD b h) hb.size,.inl h⟩,.val V⟩
theorem Qc0.one {D:Nat→Prop} {w:World} {x:AV} {vs:Array Value} (h:Qc0 D w [x] vs):∃ v,vs=#[v]∧Ra D w x v:=by
 obtain ⟨h1,h2⟩:=h;obtain ⟨v,rfl⟩:=Ze7 h1.symm;exact ⟨v,rfl,h2 0 x v rfl rfl⟩
theorem Qc0.two {D:Nat→Prop} {w:World} {x y:AV} {vs:Array Value} (h:Qc0 D w [x,y] vs):∃ u v,vs=#[u,v]∧Ra D w x u∧Ra D w y v:=by
 obtain ⟨h1,h2⟩:=h;obtain ⟨u,v,rfl⟩:=Ze6 h1.symm;exact ⟨u,v,rfl,h2 0 x u rfl rfl,h2 1 y v rfl rfl⟩
end Copyhold
