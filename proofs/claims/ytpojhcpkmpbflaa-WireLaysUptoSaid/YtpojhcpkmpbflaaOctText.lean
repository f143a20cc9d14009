/- octet.lay, octet.Text: texts laid one behind the other; a text's bytes; old memory is as it was. For texts of fewer than 2^46 bytes. -/
import Derived.Test.YtpojhcpkmpbflaaOctNum
import Derived.Test.YtpojhcpkmpbflaaShelf
namespace Go.Proofs.Ytpojhcpkmpbflaa
open Go.RowKit Copyhold

theorem octet_lay (bk o c : Nat) (xs : List (List UInt8)) (w : World) (hcells : ∀ (j : Nat) x, xs[j]? = some x → w.cell? ⟨bk, o + j, none⟩ = some (.string ⟨x.toArray⟩)) (hbk : bk < w.heap.size)
    (hN : xs.length ≤ 140737488355328) (hcap : xs.length ≤ c) (hlen : xs.flatten.length ≤ 140737488355328) :
    Calls Try.prog 52 #[.slice (some ⟨bk, o, none⟩) xs.length c] w fun e w' => e = .returned (.string ⟨xs.flatten.toArray⟩) ∧ Below w.heap.size w w' := by
  have hj := Try.strings_Join bk o c (xs.map fun l => ⟨l.toArray⟩) ⟨#[]⟩ w (fun j x hx => by
      rw [List.getElem?_map] at hx
      cases hg : xs[j]? with
      | none => rw [hg] at hx; cases hx
      | some y => rw [hg] at hx; cases hx; exact hcells j y hg) hbk (by simpa using hN) (by simpa using hcap)
  have e : Lib.join ((xs.map fun l => (⟨l.toArray⟩ : ByteArray)).map (·.data.toList)) (⟨#[]⟩ : ByteArray).data.toList = xs.flatten := by
    rw [List.map_map]
    show List.intercalate [] _ = _
    rw [intercalate_nil]
    congr 1
    exact List.map_id xs
  rw [e, List.length_map] at hj
  have HJ := Lib.hid (hj hlen); clear hj e hcells
  go_enter Try.func52, Try.ntmps52
  go_wp2_with (go_at_call 51; refine HJ.out.mono ?_; rintro e w' ⟨rfl, hb⟩)
  go_ret
  exact ⟨rfl, hb⟩

theorem octet_Text (l : List UInt8) (w : World) (h : l.length ≤ 70368744177664) :
    Calls Try.prog 28 #[.string ⟨l.toArray⟩] w fun e w' => e = .returned (.string ⟨(textB l).toArray⟩) ∧ Below w.heap.size w w' := by
  go_enter Try.func28, Try.ntmps28
  go_wp2_with fail
  refine (octet_Num _ _ (by omega) (by omega)).mono ?_
  rintro e w1 ⟨rfl, hb1⟩
  rw [Int.toNat_natCast]
  have hn := numB_len10 l.length (by omega)
  have hsz := hb1.size
  go_wp2_with fail
  refine (octet_lay w1.heap.size 0 2 [numB l.length, l] _ ?_ (by simp) (by simp) (by simp) (by simp; omega)).mono ?_
  · intro j x hx
    match j, hx with
    | 0, hx => cases hx; simp
    | 1, hx => cases hx; simp
  rintro e w2 ⟨rfl, hb2⟩
  go_wp2_with fail
  go_ret
  exact ⟨by simp [textB], (hb1.alloc hsz _).trans (hb2.mono (by simp; omega))⟩
end Go.Proofs.Ytpojhcpkmpbflaa
