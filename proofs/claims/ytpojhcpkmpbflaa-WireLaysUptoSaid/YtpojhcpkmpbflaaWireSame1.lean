/- wire.Same: it answers as the document says; old memory is as it was. -/
import Derived.Test.YtpojhcpkmpbflaaRef15S
import Derived.Test.YtpojhcpkmpbflaaShelfEq
import Derived.Test.YtpojhcpkmpbflaaExecBin
set_option linter.unusedVariables false
set_option linter.unusedSimpArgs false
namespace Go.Proofs.Ytpojhcpkmpbflaa
open Go.RowKit Copyhold

theorem equal_row (va vb : Value) (xs ys : List (List UInt8)) (w : World) (ha : Row w va (xs.map strV)) (hb : Row w vb (ys.map strV)) (hla : xs.length ≤ 2147483648) (hlb : ys.length ≤ 2147483648) :
    Calls Try.prog 36 #[va, vb] w fun e w' => e = .returned (.bool (sameTexts xs ys)) ∧ Below w.heap.size w w' := by
  obtain ⟨A, c, rfl⟩ := ha.shape
  obtain ⟨B, d, rfl⟩ := hb.shape
  rw [List.length_map] at ha hb ⊢
  rw [List.length_map]
  by_cases hne : xs.length = ys.length
  · by_cases h0 : xs.length = 0
    · have e1 : xs = [] := List.eq_nil_of_length_eq_zero h0
      have e2 : ys = [] := List.eq_nil_of_length_eq_zero (by omega)
      subst e1 e2
      exact (Try.slices_Equal_string_empty A B c 0 d w (by omega)).mono fun e w' ⟨h, k⟩ => ⟨h, k ▸ Below.refl _ _⟩
    · obtain ⟨b1, o1, rfl, _, _, h1⟩ := ha.at 0 (x := strV (xs[0]'(by omega))) (by rw [List.getElem?_map, List.getElem?_eq_getElem (by omega)]; rfl)
      obtain ⟨b2, o2, rfl, _, _, h2⟩ := hb.at 0 (x := strV (ys[0]'(by omega))) (by rw [List.getElem?_map, List.getElem?_eq_getElem (by omega)]; rfl)
      have h := Try.slices_Equal_string b1 o1 xs.length c b2 o2 ys.length d (xs.map fun l => ⟨l.toArray⟩) (ys.map fun l => ⟨l.toArray⟩) w (by simp) (by simp) (by omega) (by omega)
        (fun j hj => by
          rw [List.length_map] at hj
          have := h1 j (strV xs[j]) (by simp [hj])
          simpa [List.getD, hj, strV] using this)
        (fun j hj => by
          rw [List.length_map] at hj
          have := h2 j (strV ys[j]) (by simp [hj])
          simpa [List.getD, hj, strV] using this)
      refine h.mono fun e w' ⟨h, q, k⟩ => ⟨?_, k ▸ below_dn (Below.refl _ _) q⟩
      rw [h]
      congr 2
      rw [List.take_of_length_le (by simp), List.take_of_length_le (by simp)]
      unfold sameTexts
      rw [Bool.eq_iff_iff, decide_eq_true_eq, beq_iff_eq]
      constructor
      · intro he
        have := congrArg (List.map fun b : ByteArray => b.data.toList) he
        simpa [List.map_map, Function.comp_def] using this
      · intro he; rw [he]
  · have hs : sameTexts xs ys = false := by
      unfold sameTexts
      rw [beq_eq_false_iff_ne]
      intro h; exact hne (by rw [h])
    rw [hs]
    exact (Try.slices_Equal_string_lens A B xs.length c ys.length d w hne).mono fun e w' ⟨h, k⟩ => ⟨h, k ▸ Below.refl _ _⟩

set_option maxRecDepth 100000 in
set_option maxHeartbeats 4000000 in
theorem wire_head (r1 r2 r3 r4 r5 r6 r7 r8 r9 : Int) (tx : List UInt8) (lv : Value) (A : Option Addr) (n cp : Nat) (hlv : lv = .slice A n cp) (w : World) :
    Calls Try.prog 35 #[.agg #[.int .i64 r1, .int .i64 r2, .int .i64 r3, .int .i64 r4, .int .i64 r5, .int .i64 r6, .int .i64 r7, .int .i64 r8, .int .i64 r9, .string ⟨tx.toArray⟩, lv]] w fun e w' => e = .returned (.agg #[.int .i64 r1, .int .i64 r2, .int .i64 r3, .int .i64 r4, .int .i64 r5, .int .i64 r6, .int .i64 r7, .int .i64 r8, .int .i64 r9]) ∧ Below w.heap.size w w' := by
  subst hlv
  go_enter Try.func35, Try.ntmps35
  go_wp2_with fail
  refine bodyPost_ret (v := .agg #[.int .i64 r1, .int .i64 r2, .int .i64 r3, .int .i64 r4, .int .i64 r5, .int .i64 r6, .int .i64 r7, .int .i64 r8, .int .i64 r9]) (by simp [results, Try.results35, go_sem]) rfl ⟨rfl, ?_⟩
  exact ((Below.refl _ _).alloc (Nat.le_refl _) _).alloc (by simp) _

end Go.Proofs.Ytpojhcpkmpbflaa
