/- Entries among the arguments of a statement of the second form: what they read as, and their bounds. -/
import Derived.Test.YtoinafcjkbdjnaaBulk
import Derived.Test.YtoinafcjkbdjnaaNodeText
set_option linter.unusedVariables false
namespace Copyhold
open Go Go.RowKit Go.ChangeShapes Go.WideShapes Go.ChangeAt Go.Deep

/-- open_slice_of, an element's datum by its place among the elements' -/
theorem open_slice_gen {α : Type} {R : α → List Value → Prop} {H : Type} {enc : TypeId × Value → H} {P : Program} {W : World} {t e : TypeId} {k fuel : Nat} {cs : List Value} {x : DataW H × List MemPlace} (ht : P.underlying t = some (.slice e)) (hc : P.cellsOf e = k) (hk : 0 < k) (a0 : α)
    (hel : ∀ (n : Nat) (cs' : List Value) (y : DataW H × List MemPlace), DataW.trod enc P W 0 (fun _ => true) true n e cs' = some y → (∀ p ∈ y.2, p.block < W.heap.size) → cs'.length = k → (∃ elems spare, x.1 = .slice elems spare ∧ y.1 ∈ elems) → ∃ a, R a cs')
    (h : DataW.trod enc P W 0 (fun _ => true) true fuel t cs = some x) (hlt : ∀ p ∈ x.2, p.block < W.heap.size) :
    ∃ (v : Value) (xs : List α), cs = [v] ∧ SlOf R W k v xs ∧ rowsD x.1 xs.length := by
  rcases open_slice ht h with ⟨rfl, rfl⟩ | ⟨a, len, cap, m, n, D, Pl, rfl, _, hl, hm, hmm, rfl, hi⟩
  · exact ⟨_, [], rfl, ⟨[], Sl.nil _ _, rfl, fun i cs a hc => by simp at hc⟩, .inl ⟨rfl, rfl⟩⟩
  · simp only [if_true] at hmm
    subst hmm
    have hel' : ∀ i : Nat, ∃ q : α × List Value, i < len → q.2.length = k ∧ R q.1 q.2 ∧ ∀ j, j < k → W.cell? (a.add (i * k + j)) = q.2[j]? := by
      intro i
      by_cases hil : i < len
      · obtain ⟨cs', hcs, htr⟩ := hi i (by omega)
        rw [hc] at hcs
        obtain ⟨_, hcl, hat⟩ := World.cells?_some hcs
        obtain ⟨y, hy⟩ := hel n cs' _ htr (fun p hp => hlt p (by
          simp only [List.mem_append, List.mem_flatMap]
          exact .inr ⟨i, List.mem_range.2 (by omega), hp⟩)) hcl ⟨_, _, rfl, List.mem_map.2 ⟨i, List.mem_range.2 hil, rfl⟩⟩
        refine ⟨(y, cs'), fun _ => ⟨hcl, hy, fun j hj => ?_⟩⟩
        have := hat j hj
        rw [Go.Deep.add_add] at this
        exact this
      · exact ⟨(a0, []), fun h => absurd h hil⟩
    obtain ⟨f, hf⟩ := Classical.skolem.1 hel'
    have hlen : ((List.range len).map fun i => (f i).1).length = len := by simp
    refine ⟨_, (List.range len).map fun i => (f i).1, rfl, ⟨(List.range len).map fun i => (f i).2, ?_, by simp, fun i cs y hcs hy => ?_⟩, .inr ⟨_, _, rfl, by simp⟩⟩
    · have hall : ∀ cs ∈ (List.range len).map fun i => (f i).2, cs.length = k := fun cs hm => by
        obtain ⟨i, hi', rfl⟩ := List.mem_map.1 hm
        exact (hf i (List.mem_range.1 hi')).1
      have hfl : ((List.range len).map fun i => (f i).2).flatten.length = len * k := by
        rw [List.length_flatten]
        have : (((List.range len).map fun i => (f i).2).map List.length) = List.replicate len k := by
          apply List.ext_getElem (by simp)
          intro i h1 h2
          simp at h1 ⊢
          exact (hf i h1).1
        rw [this]
        simp
      refine ⟨some a, m, by rw [hlen], by rw [hlen]; exact hl, by rw [hlen]; exact hfl, fun h0 => ?_⟩
      rw [hlen] at h0
      obtain ⟨b, off, spot⟩ := a
      have h00 := (hf 0 h0).2.2 0 hk
      have hl0 := (hf 0 h0).1
      rw [List.getElem?_eq_getElem (by omega)] at h00
      have hspot : spot = none := by simpa [Addr.add] using World.cell?_spot h00
      subst hspot
      refine ⟨b, off, rfl, ?_, fun j y hy => ?_⟩
      · exact cell_lt (b := b) (o := off + (0 * k + 0)) (by rw [← add_plain']; exact h00)
      · have hj := (List.getElem?_eq_some_iff.1 hy).1
        rw [hfl] at hj
        have hdiv : j / k < len := Nat.div_lt_of_lt_mul (by rw [Nat.mul_comm]; exact hj)
        have hmod := Nat.mod_lt j hk
        have hjj : j = j / k * k + j % k := by rw [Nat.mul_comm]; exact (Nat.div_add_mod j k).symm
        rw [hjj, flatten_get _ hall _ _ hmod, List.getElem?_map, List.getElem?_range hdiv] at hy
        simp only [Option.map_some, Option.bind_some] at hy
        rw [hjj, ← add_plain', (hf _ hdiv).2.2 _ hmod]
        exact hy
    · have hil : i < len := by have := (List.getElem?_eq_some_iff.1 hy).1; rwa [hlen] at this
      rw [List.getElem?_map, List.getElem?_range hil] at hcs hy
      simp only [Option.map_some, Option.some.injEq] at hcs hy
      subst hcs hy
      exact ⟨(hf i hil).1, (hf i hil).2.1⟩
end Copyhold
namespace Go.Proofs.Ytoinafcjkbdjnaa
open Go.RowKit Go.ChangeShapes Go.WideShapes Go.ChangeAt Copyhold Copyhold.Name

theorem bulk_pos {H : Type} (d : DataW H) : 1 ≤ Rows.uptoBulk d := by
  cases d with
  | lit l => cases l <;> simp [Rows.uptoBulk]
  | _ => simp [Rows.uptoBulk]
theorem bulk_len {H : Type} : ∀ l : List (DataW H), l.length ≤ Rows.uptoBulkAll l
  | [] => Nat.le_refl _
  | d :: r => by
    have h1 := bulk_pos d
    have h2 := bulk_len r
    simp only [List.length_cons, Rows.uptoBulkAll]
    omega

def EntS (x : Ent) (cs : List Value) : Prop := EntR x cs ∧ x.1.length ≤ 1048576

theorem open_ents_upto {H : Type} {enc : TypeId × Value → H} {W : World} {fuel : Nat} {cs : List Value} {x : DataW H × List MemPlace}
    (h : DataW.trod enc Try.prog W 0 (fun _ => true) true fuel 22 cs = some x) (hlt : ∀ p ∈ x.2, p.block < W.heap.size) (hw : Rows.uptoBulk x.1 ≤ 1048576) :
    ∃ (v : Value) (l : List Ent), cs = [v] ∧ Ents W v l ∧ OkEnts l ∧ Short l ∧ l.length ≤ 1048576 := by
  obtain ⟨v, l, e, hs, hd⟩ := open_slice_gen (k := 2) (R := EntS) Try.underlying22 (by kernel_rfl) (by decide) (([], 0) : Ent) (fun n cs' y hy hl hc hww => by
    obtain ⟨elems, spare, he, hmem⟩ := hww
    obtain ⟨xs, m, _, hx, _, hlen, hfl⟩ := DataW.trod_struct Try.underlying39 hy
    obtain ⟨y0, y1, rfl⟩ := list2 hlen
    obtain ⟨c0, c1, rfl⟩ := list2 hc
    have g0 : DataW.trod enc Try.prog W 0 (fun _ => true) true m 9 [c0] = some y0 := by have h := hfl 0 _ rfl; simpa [cellsString] using h
    have g1 : DataW.trod enc Try.prog W 0 (fun _ => true) true m 3 [c1] = some y1 := by have h := hfl 1 _ rfl; simpa [cellsInt, cellsString] using h
    subst hx
    obtain ⟨s, e0, ey0, _⟩ := DataW.trod_string Try.underlying9 g0
    obtain ⟨z, e1, _, w1⟩ := DataW.trod_int Try.underlying3 g1
    simp only [List.cons.injEq, and_true] at e0 e1
    subst e0 e1 ey0
    rw [he] at hw
    have hb := bulk_mem hmem
    simp only [Rows.uptoBulk, Rows.uptoBulkAll, List.map_cons, List.map_nil] at hb hw
    have hs : s.data.toList.length ≤ 1048576 := by omega
    exact ⟨(s.data.toList, z), ⟨by simp [entC, strV], by simp only; omega, (i64ok_of w1).1, (i64ok_of w1).2⟩, hs⟩) h hlt
  have hsh : Short l := by
    intro y hy
    obtain ⟨css, h1, h2, h3⟩ := hs
    obtain ⟨i, hi, rfl⟩ := List.mem_iff_getElem.1 hy
    exact (h3 i _ _ (List.getElem?_eq_getElem (by omega)) (List.getElem?_eq_getElem hi)).2.2
  have hs2 : SlOf EntR W 2 v l := hs.mono fun _ _ h => h.1
  have hn : l.length ≤ 1048576 := by
    rcases hd with ⟨_, h0⟩ | ⟨elems, spare, hx, hl⟩
    · omega
    · rw [hx] at hw
      have := bulk_len elems
      simp only [Rows.uptoBulk] at hw
      omega
  exact ⟨v, l, e, (ents_of hs2).1, (ents_of hs2).2, hsh, hn⟩
end Go.Proofs.Ytoinafcjkbdjnaa
