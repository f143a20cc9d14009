/- octet.Num: for every number it returns the short number's bytes, and leaves old memory as it was. -/
import Derived.Test.YthnajmfbomedlaaRows
import Derived.Test.YthnajmfbomedlaaKit
import Derived.Test.YthnajmfbomedlaaPure01
namespace Go.Proofs.Ythnajmfbomedlaa
open Go.RowKit Copyhold

theorem info_u8 : (Try.prog.info? 5).map (fun i => (i.zero, i.size, i.bytes)) = some (some (.int .u8 0), 1, 1) := by kernel_rfl

theorem byte_or128 (k : Int) (h : 0 ≤ k) : bits BinOp.or IntKind.u8 (k % 256) 128 = ((k.toNat % 128 + 128 : Nat) : Int) := by
  rw [u8_or _ _ (by omega) (by omega) (by omega) (by omega)]
  congr 1
  have e : (k % 256).toNat = k.toNat % 256 := by omega
  rw [e, show (128 : Int).toNat = 128 from rfl]
  have h256 : k.toNat % 256 < 256 := Nat.mod_lt _ (by decide)
  have h2 : k.toNat % 128 = (k.toNat % 256) % 128 := by omega
  rw [h2]
  generalize k.toNat % 256 = m at h256
  revert m
  decide +kernel

/-- the loop's relation -/
def NumRel (w : World) (n k : Int) (v : Value) (wr : World) : Prop :=
  ∃ xs : List Int, 0 ≤ k ∧ k ≤ n ∧ (xs.map fun n => UInt8.ofNat n.toNat) ++ numB k.toNat = numB n.toNat ∧ wr.ownsRow w.heap.size 5 1 v xs.length (xs.map (Value.int .u8)) ∧ Below w.heap.size w wr

set_option maxRecDepth 100000 in
set_option maxHeartbeats 400000 in
theorem octet_Num (n : Int) (w : World) (h0 : 0 ≤ n) (h : n ≤ 18446744073709551615) :
    Calls Try.prog 44 #[.int .u64 n] w fun e w' => e = .returned (.string ⟨(numB n.toNat).toArray⟩) ∧ Below w.heap.size w w' := by
  obtain ⟨i0, hi, hz0, hz1, hz2⟩ := info_parts info_u8
  go_enter Try.func44, Try.ntmps44
  go_wp2
  go_loopw [0, 3] (fun m v wr => ∃ (k : Int), m = .int .u64 k ∧ NumRel w n k v wr) (fun m _ _ => (intOf m).toNat)
  case atStart => exact ⟨n, rfl, [], h0, Int.le_refl _, rfl, World.ownsRow_nil _ _ _ _, Below.refl _ _⟩
  case round =>
    obtain ⟨k, rfl, xs, hk0, hk, hx, hown, hb⟩ := hrel
    have hsz := hb.size
    have hl := congrArg List.length hx
    have hn := numB_len10 n.toNat (by omega)
    have hk1 := numB_pos k.toNat
    rw [List.length_append, List.length_map] at hl
    have hxl : xs.length ≤ 9 := by omega
    have HX := Lib.hid hx; clear hx hl hn hk1
    by_cases hlt : k < 128
    · have hfin : (strOfNums (xs ++ [k])) = ⟨(numB n.toNat).toArray⟩ := by
        rw [← HX.out, numB_small (by omega)]; simp [strOfNums]
      have HF := Lib.hid hfin; clear hfin
      go_wp2_with (first
        | (at_builtin; refine wpList_append_own _ rfl _ _ 107 rfl w.heap.size 5 i0 (.int .u8 0) 1 1 Try.underlying107 hi hz0 hz1 hz2 rfl (by decide) _ _ _ rfl (hown.alloc _) ⟨wr.heap.size, 0, none⟩ 1 1 [.int .u8 k] rfl rfl (cell_one_new _ _ _) (fun x hx => by simp at hx; subst hx; rfl) (by unfold maxLen; omega) (by omega) (by simp; omega) ?_; intro v' w3 hown' hgrow3 hnil3; clear hnil3; have hcv := run_convert_own (P := Try.prog) (xs := xs ++ [k]) 107 9 Try.underlying107 Try.underlying5 Try.underlying9 (by simpa using hown'); rw [HF.out] at hcv; have hb3 : Below w.heap.size w w3 := (hb.alloc hsz _).grown hgrow3 (by simp; omega) (fun q hq => (hown.lt q hq).1); clear hown' hgrow3))
      go_ret
      exact ⟨rfl, hb3⟩
    · go_wp2_with (first
        | (at_builtin; refine wpList_append_own _ rfl _ _ 107 rfl w.heap.size 5 i0 (.int .u8 0) 1 1 Try.underlying107 hi hz0 hz1 hz2 rfl (by decide) _ _ _ rfl (hown.alloc _) ⟨wr.heap.size, 0, none⟩ 1 1 [_] rfl rfl (cell_one_new _ _ _) (fun x hx => by simp at hx; subst hx; rfl) (by unfold maxLen; omega) (by omega) (by simp; omega) ?_; intro v' w3 hown' hgrow3 hnil3))
      refine ⟨⟨k / 128, rfl, xs ++ [bits BinOp.or IntKind.u8 (k % 256) 128], by omega, by omega, ?_, by simpa using hown', (hb.alloc hsz _).grown hgrow3 (by simp; omega) (fun q hq => (hown.lt q hq).1)⟩, by simp [intOf]; omega⟩
      rw [← HX.out, numB_big (n := k.toNat) (by omega), byte_or128 k hk0, show (k / 128).toNat = k.toNat / 128 from by omega]
      simp only [List.map_append, List.map_cons, List.map_nil, Int.toNat_natCast, List.append_assoc, List.cons_append, List.nil_append]
end Go.Proofs.Ythnajmfbomedlaa
