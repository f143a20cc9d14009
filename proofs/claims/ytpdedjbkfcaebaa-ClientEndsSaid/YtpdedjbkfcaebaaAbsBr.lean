/- Between slices as they stand in memory, element by element, and abstract ones; contracts of both kinds. Over any program. No conditions beyond each law's own. -/
import Derived.Test.YtpdedjbkfcaebaaAbs12
import Derived.Test.YtpdedjbkfcaebaaLawOf
set_option linter.unusedVariables false
namespace Copyhold
open Go Go.RowKit
def CellsR (D : Nat → Prop) (w : World) (xs : List AV) (cs : List Value) : Prop := cs.length = xs.length ∧ ∀ (j : Nat) (a : AV) (u : Value), xs[j]? = some a → cs[j]? = some u → Ra D w a u
theorem chunk_get {k : Nat} {us : List Value} {n : Nat} (hl : us.length = n * k) {i j : Nat} (hi : i < n) (hj : j < k) : ((us.drop (i * k)).take k)[j]? = us[i * k + j]? := by
  rw [List.getElem?_take, if_pos hj, List.getElem?_drop]
theorem slOf_of_ra {α : Type} {R : α → List Value → Prop} {D : Nat → Prop} {w : World} {k : Nat} {t : Bool} {enc : α → List AV} {l : List α} {v : Value} (h : Ra D w (.sl k t (l.map enc)) v) (hk : ∀ x ∈ l, (enc x).length = k)
    (hR : ∀ x ∈ l, ∀ cs, CellsR D w (enc x) cs → R x cs) : SlOf R w k v l := by
  obtain ⟨us, hsl, hone, hru⟩ := sl_of_ra h
  rw [List.length_map] at hsl
  have hk' : ∀ e ∈ l.map enc, e.length = k := fun e he => by
    obtain ⟨x, hx, rfl⟩ := List.mem_map.1 he
    exact hk x hx
  have hul : us.length = l.length * k := by
    obtain ⟨A, c, _, _, hl, _⟩ := hsl
    exact hl
  have hin : ∀ i, i < l.length → i * k + k ≤ l.length * k := fun i hi => by
    have := Nat.mul_le_mul_right k (Nat.succ_le_of_lt hi)
    rw [Nat.succ_mul] at this
    exact this
  have hflat : ((List.range l.length).map fun i => (us.drop (i * k)).take k).flatten = us := by
    apply List.ext_getElem?
    intro j
    have hall : ∀ cs ∈ (List.range l.length).map (fun i => (us.drop (i * k)).take k), cs.length = k := fun cs hcs => by
      simp only [List.mem_map, List.mem_range] at hcs
      obtain ⟨i, hi, rfl⟩ := hcs
      have := hin i hi
      rw [List.length_take, List.length_drop]
      omega
    have hlen : ∀ (css : List (List Value)), (∀ cs ∈ css, cs.length = k) → css.flatten.length = css.length * k := fun css => by
      induction css with
      | nil => simp
      | cons c r ih =>
        intro h
        simp only [List.flatten_cons, List.length_append, List.length_cons, ih (fun e he => h e (by simp [he])), h c (by simp)]
        rw [Nat.succ_mul]
        omega
    have hlenf := hlen _ hall
    rw [List.length_map, List.length_range] at hlenf
    by_cases hj : j < l.length * k
    · have h0 : 0 < k := by
        rcases Nat.eq_zero_or_pos k with h | h
        · rw [h] at hj; omega
        · exact h
      have h1 : j / k < l.length := Nat.div_lt_of_lt_mul (by rw [Nat.mul_comm]; exact hj)
      have h2 : j % k < k := Nat.mod_lt _ h0
      have e : j = j / k * k + j % k := by rw [Nat.mul_comm]; exact (Nat.div_add_mod j k).symm
      conv => lhs; rw [e]
      rw [flatten_get _ hall _ _ h2]
      simp only [List.getElem?_map, List.getElem?_range h1, Option.map_some, Option.bind_some]
      rw [chunk_get hul h1 h2, ← e]
    · rw [List.getElem?_eq_none (by omega), List.getElem?_eq_none (by omega)]
  refine ⟨(List.range l.length).map fun i => (us.drop (i * k)).take k, by rw [hflat]; exact hsl, by simp, fun i cs a hc ha => ?_⟩
  have hi : i < l.length := (List.getElem?_eq_some_iff.1 ha).1
  simp only [List.getElem?_map, List.getElem?_range hi, Option.map_some, Option.some.injEq] at hc
  subst hc
  have hcl : ((us.drop (i * k)).take k).length = k := by
    have := hin i hi
    rw [List.length_take, List.length_drop]
    omega
  have hm := List.mem_of_getElem? ha
  refine ⟨hcl, hR a hm _ ⟨by rw [hcl, hk a hm], fun j x u hx hu => ?_⟩⟩
  have hj : j < k := by have := (List.getElem?_eq_some_iff.1 hu).1; omega
  rw [chunk_get hul hi hj] at hu
  exact hru _ x u (flat_get hk' i (enc a) j x (by simp [ha]) hx) hu
theorem ra_of_slOf {α : Type} {R : α → List Value → Prop} {w : World} {k : Nat} {enc : α → List AV} {l : List α} {v : Value} (h : SlOf R w k v l) (D : Nat → Prop) (hD : ∀ b, b < w.heap.size → D b)
    (hR : ∀ x ∈ l, ∀ cs, cs.length = k → R x cs → (∀ u ∈ cs, u.oneCell' = true) ∧ CellsR D w (enc x) cs) : Ra D w (.sl k false (l.map enc)) v := by
  obtain ⟨css, ⟨A, c, rfl, hnc, hl, hcells⟩, hcl, hel⟩ := h
  have key : ∀ (i : Nat) (x : α), l[i]? = some x → ∃ cs, css[i]? = some cs ∧ cs.length = k ∧ (∀ u ∈ cs, u.oneCell' = true) ∧ CellsR D w (enc x) cs := fun i x hx => by
    have hi : i < l.length := (List.getElem?_eq_some_iff.1 hx).1
    have hc : css[i]? = some (css[i]'(by omega)) := List.getElem?_eq_getElem (by omega)
    obtain ⟨h1, h2⟩ := hel i _ x hc hx
    obtain ⟨h3, h4⟩ := hR x (List.mem_of_getElem? hx) _ h1 h2
    exact ⟨_, hc, h1, h3, h4⟩
  have hall : ∀ cs ∈ css, cs.length = k := fun cs hm => by
    obtain ⟨j, hj, rfl⟩ := List.mem_iff_getElem.1 hm
    exact (hel j _ _ (List.getElem?_eq_getElem hj) (List.getElem?_eq_getElem (by omega))).1
  have hb : 0 < l.length → ∃ b off, A = some ⟨b, off, none⟩ ∧ b < w.heap.size ∧ ∀ (j : Nat) (x : Value), css.flatten[j]? = some x → w.cell? ⟨b, off + j, none⟩ = some x := hcells
  obtain ⟨b, off, hbo⟩ : ∃ b off, 0 < l.length → A = some ⟨b, off, none⟩ ∧ b < w.heap.size ∧ ∀ (j : Nat) (x : Value), css.flatten[j]? = some x → w.cell? ⟨b, off + j, none⟩ = some x := by
    by_cases h0 : 0 < l.length
    · obtain ⟨b, off, h⟩ := hb h0
      exact ⟨b, off, fun _ => h⟩
    · exact ⟨0, 0, fun h => absurd h h0⟩
  have main := Ra.sl (D := D) (w := w) k false (l.map enc) A c b off (fun i j => (css.getD i []).getD j undef) (by simpa using hnc) (fun h => by cases h) (fun h0 => by
      obtain ⟨h1, h2, _⟩ := hbo (by simpa using h0)
      exact ⟨h1, hD b h2, h2⟩) (fun i e he => by
      simp only [List.getElem?_map] at he
      cases hx : l[i]? with
      | none => rw [hx] at he; cases he
      | some x =>
        rw [hx] at he
        obtain rfl := Option.some.inj he
        obtain ⟨cs, _, h2, _, h4⟩ := key i x hx
        rw [← h4.1, h2]) (fun i e j y he hy => by
      simp only [List.getElem?_map] at he
      cases hx : l[i]? with
      | none => rw [hx] at he; cases he
      | some x =>
        rw [hx] at he
        obtain rfl := Option.some.inj he
        obtain ⟨cs, h1, h2, h3, h4⟩ := key i x hx
        have hj : j < cs.length := by rw [h4.1]; exact (List.getElem?_eq_some_iff.1 hy).1
        have hc : cs[j]? = some cs[j] := List.getElem?_eq_getElem hj
        have hi : i < l.length := (List.getElem?_eq_some_iff.1 hx).1
        obtain ⟨_, _, hcc⟩ := hbo (by omega)
        simp only [List.getD, h1, Option.getD_some, hc]
        refine ⟨hcc _ _ ?_, h3 _ (List.getElem_mem hj)⟩
        rw [flatten_get css hall i j (by omega), h1]
        exact hc) (fun i e j y he hy => by
      simp only [List.getElem?_map] at he
      cases hx : l[i]? with
      | none => rw [hx] at he; cases he
      | some x =>
        rw [hx] at he
        obtain rfl := Option.some.inj he
        obtain ⟨cs, h1, h2, h3, h4⟩ := key i x hx
        have hj : j < cs.length := by rw [h4.1]; exact (List.getElem?_eq_some_iff.1 hy).1
        have hc : cs[j]? = some cs[j] := List.getElem?_eq_getElem hj
        simp only [List.getD, h1, Option.getD_some, hc]
        exact h4.2 j y _ hy hc)
  rw [List.length_map] at main
  exact main
def txA (l : List UInt8) : List AV := [aS l]
theorem row_of_ra {D : Nat → Prop} {w : World} {t : Bool} {l : List (List UInt8)} {v : Value} (h : Ra D w (.sl 1 t (l.map txA)) v) : Row w v (l.map strV) := by
  have := slOf_of_ra (R := fun x cs => cs = [strV x]) h (fun x _ => rfl) (fun x _ cs hc => by
    obtain ⟨h1, h2⟩ := hc
    match cs, h1 with
    | [u], _ =>
      have := h2 0 _ u rfl rfl
      cases this
      rfl)
  obtain ⟨css, h1, h2, h3⟩ := this
  have hf : css.flatten = l.map strV := by
    have : css = l.map fun x => [strV x] := by
      apply List.ext_getElem?
      intro i
      by_cases hi : i < l.length
      · have hc : css[i]? = some (css[i]'(by omega)) := List.getElem?_eq_getElem (by omega)
        have hx : l[i]? = some l[i] := List.getElem?_eq_getElem hi
        rw [hc, (h3 i _ _ hc hx).2]
        simp [hx]
      · rw [List.getElem?_eq_none (by omega), List.getElem?_eq_none (by simp; omega)]
    rw [this]
    clear this h3 h1 h2 h
    induction l with
    | nil => rfl
    | cons x r ih => simp only [List.map_cons, List.flatten_cons, ih]; rfl
  rw [hf] at h1
  have := Sl.row h1
  exact this
theorem fspec_val {P : Program} {f : FuncId} {args : List AV} {V : Value} (h : ∀ (D : Nat → Prop) (w : World) (vs : Array Value), RaAll D w args vs → Calls P f vs w (fun e w' => e = .returned V ∧ Below w.heap.size w w')) : FSpec P f args (.val V) := by
  intro D w vs hD hv
  refine (h D w vs hv).mono ?_
  rintro e w' ⟨rfl, hb⟩
  exact ⟨V, D, rfl, hb, fun _ h => h, fun b h => ⟨Nat.lt_of_lt_of_le (hD b h) hb.size, .inl h⟩, .val V⟩
theorem RaAll.one {D : Nat → Prop} {w : World} {x : AV} {vs : Array Value} (h : RaAll D w [x] vs) : ∃ v, vs = #[v] ∧ Ra D w x v := by
  obtain ⟨h1, h2⟩ := h
  obtain ⟨v, rfl⟩ := array1_of h1.symm
  exact ⟨v, rfl, h2 0 x v rfl rfl⟩
theorem RaAll.two {D : Nat → Prop} {w : World} {x y : AV} {vs : Array Value} (h : RaAll D w [x, y] vs) : ∃ u v, vs = #[u, v] ∧ Ra D w x u ∧ Ra D w y v := by
  obtain ⟨h1, h2⟩ := h
  obtain ⟨u, v, rfl⟩ := array2_of h1.symm
  exact ⟨u, v, rfl, h2 0 x u rfl rfl, h2 1 y v rfl rfl⟩
end Copyhold
