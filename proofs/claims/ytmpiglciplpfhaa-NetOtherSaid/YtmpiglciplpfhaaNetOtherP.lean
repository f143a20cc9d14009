/- The plain part of NetOther: the other row stays as it is, whatever is done to one; and Take in one sentence. -/
import Derived.Test.YtmpiglciplpfhaaNetTwice
set_option linter.unusedVariables false
namespace Go.Proofs.Ytmpiglciplpfhaa.netOther
open Go.RowKit Copyhold

theorem other_set (n : NetD) (up : Bool) (l : List (List UInt8)) : rowN (setN n up l) (!up) = rowN n (!up) := by cases up <;> rfl
theorem other_send (n : NetD) (up : Bool) (s : List UInt8) : rowN (sendD n up s) (!up) = rowN n (!up) := by
  unfold sendD
  split
  · rfl
  · exact other_set _ _ _
theorem other_twice (n : NetD) (up : Bool) (i : Int) : rowN (twiceD n up i).1 (!up) = rowN n (!up) := by
  unfold twiceD
  split
  · split
    · split
      · exact other_send _ _ _
      · rfl
    · rfl
  · rfl
theorem other_spoil (n : NetD) (up : Bool) (i a : Int) (y : UInt8) : rowN (spoilD n up i a y).1 (!up) = rowN n (!up) := by
  unfold spoilD
  split
  · split
    · split
      · exact other_set _ _ _
      · rfl
    · rfl
  · rfl

/-- what Take answers, as far as the other row goes -/
def RetO (w : World) (n : NetD) (up : Bool) (e : Ending) (w' : World) : Prop := ∃ s m ok, RetT (· < w.heap.size) w s m ok e w' ∧ rowN m (!up) = rowN n (!up)

theorem net_Take_other (n : NetD) (up : Bool) (i : Int) (v : Value) (w : World) (hn : IsNet (· < w.heap.size) w v n) (h1 : n.1.length ≤ 8796093022208) (h2 : n.2.length ≤ 8796093022208) (hi1 : -9223372036854775808 ≤ i) (hi2 : i ≤ 9223372036854775807) :
    Calls Try.prog 8 #[v, .bool up, .int .i64 i] w (RetO w n up) := by
  by_cases hr : i < 0 ∨ ((rowN n up).length : Int) ≤ i
  · exact (net_Take_no _ n up i v w hn (fun _ h => h) h1 h2 hi1 hi2 hr).mono fun _ _ h => ⟨_, _, _, h, rfl⟩
  · obtain ⟨i, rfl⟩ := Int.eq_ofNat_of_zero_le (show 0 ≤ i by omega)
    have hlt : i < (rowN n up).length := by omega
    exact (net_Take_ok _ n up i _ v w hn (fun _ h => h) h1 h2 (List.getElem?_eq_getElem hlt)).mono fun _ _ h => ⟨_, _, _, h, other_set _ _ _⟩

theorem net_rows {D : Nat → Prop} {w : World} {A B : Option Addr} {c d : Nat} {n : NetD} (h : IsNet D w (.agg #[.slice A n.1.length c, .slice B n.2.length d]) n) : Row w (.slice A n.1.length c) (n.1.map strV) ∧ Row w (.slice B n.2.length d) (n.2.map strV) := by
  obtain ⟨A', c', B', d', he, hu, hd, _, _⟩ := h
  simp only [Value.agg.injEq, Array.mk.injEq, List.cons.injEq, Value.slice.injEq, and_true, true_and] at he
  obtain ⟨⟨rfl, rfl⟩, rfl, rfl⟩ := he
  exact ⟨hu, hd⟩
theorem same_self (l : List (List UInt8)) : sameTexts l l = true := by simp [sameTexts]
end Go.Proofs.Ytmpiglciplpfhaa.netOther
