/- What the bound of a statement of the second form gives of texts and rows of texts among the arguments. -/
import Derived.Test.YtpojhcpkmpbflaaRows
import Derived.Test.YtpojhcpkmpbflaaLaw
namespace Go.Proofs.Ytpojhcpkmpbflaa
open Copyhold

theorem bulk_mem {H : Type} {d : DataW H} {l : List (DataW H)} (h : d ∈ l) : Rows.uptoBulk d ≤ Rows.uptoBulkAll l := by
  induction l with
  | nil => cases h
  | cons x r ih =>
    simp only [Rows.uptoBulkAll]
    cases List.mem_cons.1 h with
    | inl e => subst e; omega
    | inr e => have := ih e; omega
theorem bulk_le {H : Type} {d : DataW H} {l : List (DataW H)} (hk : Rows.uptoSmall H l = true) (h : d ∈ l) : Rows.uptoBulk d ≤ 1048576 := by
  have h1 := bulk_mem h
  have h2 : Rows.uptoBulkAll l ≤ 1048576 := of_decide_eq_true hk
  omega
theorem bulk_string {H : Type} {l : List UInt8} (h : Rows.uptoBulk (DataW.lit (H := H) (.string l)) ≤ 1048576) : l.length ≤ 1048576 := by
  simp only [Rows.uptoBulk] at h
  omega
theorem bulk_agg {H : Type} {d : DataW H} {l : List (DataW H)} (hk : Rows.uptoBulk (.agg l) ≤ 1048576) (h : d ∈ l) : Rows.uptoBulk d ≤ 1048576 := by
  have h1 := bulk_mem h
  simp only [Rows.uptoBulk] at hk
  omega
theorem bulk_texts {H : Type} {d : DataW H} {ls : List (List UInt8)} (hd : textsD d ls) (hk : Rows.uptoBulk d ≤ 1048576) : (ls.map List.length).sum + ls.length ≤ 1048576 := by
  rcases hd with ⟨rfl, rfl⟩ | ⟨spare, rfl⟩
  · simp
  · have h : ∀ l : List (List UInt8), Rows.uptoBulkAll (l.map fun l => (DataW.lit (.string l) : DataW H)) = (l.map List.length).sum + l.length := by
      intro l
      induction l with
      | nil => simp [Rows.uptoBulkAll]
      | cons x r ih =>
        simp only [List.map_cons, Rows.uptoBulkAll, Rows.uptoBulk, List.sum_cons, List.length_cons, ih]
        omega
    simp only [Rows.uptoBulk] at hk
    have := h ls
    omega
end Go.Proofs.Ytpojhcpkmpbflaa
