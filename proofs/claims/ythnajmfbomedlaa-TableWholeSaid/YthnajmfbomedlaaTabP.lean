/- Layer 14's plain mathematics: a client's row by its number; what it is behind a change. No program. -/
import Derived.Test.YthnajmfbomedlaaTabDo2
set_option linter.unusedVariables false
set_option linter.unusedSimpArgs false
namespace Go.Proofs.Ythnajmfbomedlaa
open Copyhold

/-- rows whose clients rise -/
def SrtC (rs : List TRow) : Prop := rs.Pairwise (fun a b => a.client < b.client)
/-- a client's row -/
def rowAt (rs : List TRow) (n : Int) : Option TRow := rs.find? (fun r => r.client == n)

theorem rowAt_cons (r : TRow) (rs : List TRow) (n : Int) : rowAt (r :: rs) n = if r.client = n then some r else rowAt rs n := by
  unfold rowAt
  rw [List.find?_cons]
  by_cases h : r.client = n
  · simp [h]
  · have : (r.client == n) = false := by simpa using h
    rw [this, if_neg h]
theorem rowAt_above {rs : List TRow} {n : Int} (h : ∀ r ∈ rs, n < r.client) : rowAt rs n = none := by
  unfold rowAt
  rw [List.find?_eq_none]
  intro r hr
  have := h r hr
  simp
  omega
theorem rowAt_client {rs : List TRow} {n : Int} {r : TRow} (h : rowAt rs n = some r) : r.client = n ∧ r ∈ rs := by
  unfold rowAt at h
  exact ⟨by simpa using List.find?_some h, List.mem_of_find?_eq_some h⟩

theorem place_row : ∀ (rs : List TRow) (n : Int), SrtC rs → ((placeN (rs.map (·.client)) n).2 = (rowAt rs n).isSome) ∧ ((placeN (rs.map (·.client)) n).2 = true → rs[(placeN (rs.map (·.client)) n).1]? = rowAt rs n)
  | [], n, _ => by simp [placeN, rowAt]
  | r :: rs, n, h => by
    have hp := List.pairwise_cons.1 h
    have ih := place_row rs n hp.2
    rw [List.map_cons, placeN, rowAt_cons]
    by_cases hle : n ≤ r.client
    · rw [if_pos hle]
      by_cases he : r.client = n
      · rw [if_pos he]
        simp [he]
      · rw [if_neg he, rowAt_above (fun q hq => by have := hp.1 q hq; omega)]
        simp [he]
    · rw [if_neg hle, if_neg (show ¬ r.client = n by omega)]
      simpa using ih

theorem own_row (rs : List TRow) (n ep sq : Int) (h : SrtC rs) : ownF rs n ep sq = if n < 0 ∨ ep < 1 ∨ sq < 1 then ((none, 1) : Option TRow × Int) else match rowAt rs n with
    | none => (none, 6)
    | some r => if ep < r.epoch then (none, 17) else if r.epoch < ep then (none, 6) else (some r, 0) := by
  obtain ⟨h1, h2⟩ := place_row rs n h
  unfold ownF
  split
  · rfl
  · cases hr : rowAt rs n with
    | none =>
      rw [hr] at h1
      rw [if_pos (by rw [h1]; rfl)]
    | some r =>
      rw [hr] at h1 h2
      have ht : (placeN (rs.map (·.client)) n).2 = true := by rw [h1]; rfl
      rw [if_neg (by rw [ht]; decide), h2 ht]

/-- put into its place, or over what stood there -/
def putR : List TRow → TRow → List TRow
  | [], x => [x]
  | r :: rs, x => if x.client < r.client then x :: r :: rs else if x.client = r.client then x :: rs else r :: putR rs x

theorem change_put (f : TRow → TRow) (hf : ∀ r, (f r).client = r.client) (n ep : Int) : ∀ (rs : List TRow), SrtC rs → changeF rs n ep f = putR rs (f (match rowAt rs n with | none => ⟨n, ep, 0, []⟩ | some r => if r.epoch = ep then r else ⟨n, ep, 0, []⟩))
  | [], _ => by simp [changeF, placeN, rowAt, putR]
  | r :: rs, h => by
    have hp := List.pairwise_cons.1 h
    have ih := change_put f hf n ep rs hp.2
    unfold changeF at ih ⊢
    rw [List.map_cons, placeN, rowAt_cons]
    by_cases hle : n ≤ r.client
    · rw [if_pos hle]
      by_cases he : r.client = n
      · subst he
        simp only [beq_self_eq_true, Bool.true_eq_false, if_false, List.getElem?_cons_zero, if_true, List.take_zero, List.nil_append, List.drop_succ_cons, List.drop_zero]
        have hput : ∀ x : TRow, x.client = r.client → putR (r :: rs) (f x) = f x :: rs := fun x hx => by
          have hfx := hf x
          rw [putR, if_neg (by omega), if_pos (by omega)]
        by_cases he2 : r.epoch = ep
        · simp only [he2, if_true]
          rw [hput _ rfl]
        · simp only [if_neg he2]
          exact (hput ⟨r.client, ep, 0, []⟩ rfl).symm
      · rw [if_neg he, rowAt_above (fun q hq => by have := hp.1 q hq; omega)]
        have hb : (r.client == n) = false := by simpa using he
        simp only [hb, if_true, List.take_zero, List.nil_append, List.drop_zero]
        rw [putR, hf]
        simp only
        rw [if_pos (by omega)]
    · rw [if_neg hle, if_neg (show ¬ r.client = n by omega)]
      have hc : ∀ x : TRow, x.client = n → putR (r :: rs) x = r :: putR rs x := fun x hx => by rw [putR, if_neg (by omega), if_neg (by omega)]
      rw [hc _ (by rw [hf]; cases hr : rowAt rs n with | none => rfl | some q => simp only; split; exact (rowAt_client hr).1; rfl), ← ih]
      simp only [List.getElem?_cons_succ, List.take_succ_cons, List.drop_succ_cons]
      split
      · simp
      · cases rs[(placeN (rs.map (·.client)) n).1]? with
        | none => rfl
        | some q => simp

theorem rowAt_put : ∀ (rs : List TRow) (x : TRow) (m : Int), SrtC rs → rowAt (putR rs x) m = if m = x.client then some x else rowAt rs m
  | [], x, m, _ => by
    rw [putR, rowAt_cons]
    by_cases h : x.client = m
    · rw [if_pos h, if_pos h.symm]
    · rw [if_neg h, if_neg (Ne.symm h)]
  | r :: rs, x, m, h => by
    have hp := List.pairwise_cons.1 h
    have ih := rowAt_put rs x m hp.2
    rw [putR]
    split
    · rename_i h1
      rw [rowAt_cons]
      by_cases hm : m = x.client
      · rw [if_pos hm.symm, if_pos hm]
      · rw [if_neg (Ne.symm hm), if_neg hm]
    · split
      · rename_i h1 h2
        rw [rowAt_cons, rowAt_cons]
        by_cases hm : m = x.client
        · rw [if_pos hm.symm, if_pos hm]
        · rw [if_neg (Ne.symm hm), if_neg hm, if_neg (by omega)]
      · rename_i h1 h2
        rw [rowAt_cons, rowAt_cons, ih]
        by_cases hm : m = x.client
        · rw [if_pos hm, if_neg (by omega), if_pos hm]
        · rw [if_neg hm, if_neg hm]
theorem mem_put : ∀ (rs : List TRow) (x q : TRow), q ∈ putR rs x → q = x ∨ q ∈ rs
  | [], x, q, h => by rw [putR] at h; exact .inl (List.mem_singleton.1 h)
  | r :: rs, x, q, h => by
    rw [putR] at h
    split at h
    · rcases List.mem_cons.1 h with h | h
      · exact .inl h
      · exact .inr h
    · split at h
      · rcases List.mem_cons.1 h with h | h
        · exact .inl h
        · exact .inr (List.mem_cons_of_mem _ h)
      · rcases List.mem_cons.1 h with h | h
        · exact .inr (by rw [h]; exact List.mem_cons_self)
        · rcases mem_put rs x q h with h | h
          · exact .inl h
          · exact .inr (List.mem_cons_of_mem _ h)
theorem srt_put : ∀ (rs : List TRow) (x : TRow), SrtC rs → SrtC (putR rs x)
  | [], x, _ => by rw [putR]; exact List.pairwise_singleton _ _
  | r :: rs, x, h => by
    have hp := List.pairwise_cons.1 h
    rw [putR]
    split
    · rename_i h1
      refine List.pairwise_cons.2 ⟨fun q hq => ?_, h⟩
      rcases List.mem_cons.1 hq with rfl | hq
      · exact h1
      · have := hp.1 q hq; omega
    · split
      · rename_i h1 h2
        exact List.pairwise_cons.2 ⟨fun q hq => by have := hp.1 q hq; omega, hp.2⟩
      · rename_i h1 h2
        refine List.pairwise_cons.2 ⟨fun q hq => ?_, srt_put rs x hp.2⟩
        rcases mem_put rs x q hq with rfl | hq
        · omega
        · exact hp.1 q hq
end Go.Proofs.Ythnajmfbomedlaa
