/- disk.Stretch: it answers as the document says; old memory is as it was. -/
import Derived.Test.YtahnkkmngbckdaaDisk7
import Derived.Test.YtahnkkmngbckdaaSlice
set_option linter.unusedVariables false
set_option linter.unusedSimpArgs false
namespace Copyhold
open Go Go.RowKit
theorem run_mid {P : Program} {t e : TypeId} {z : Value} {size bytes : Nat} (E : Elem P t e z size bytes) (A : Option Addr) (n c i j : Nat) (h : i ≤ j) (h2 : j ≤ c) (w : World) :
    (Instr.sliceAt t (.slice A n c) (some (.int .i64 (i : Int))) (some (.int .i64 (j : Int))) none).run P w = .ok (.slice (cutA A c i size) (j - i) (c - i)) w := by
  obtain ⟨ht, hinf, hzs, hsz⟩ := E
  obtain ⟨ti, hi, hz, hsize, hby⟩ := info_of hinf
  have he : P.underlying t = some (.slice (P.elem t)) := by rw [ht]; simp [Program.elem, ht]
  have hel : P.elem t = e := by rw [ht] at he; simpa using he.symm
  rw [run_sliceAt_slice (w := w) t _ _ _ _ he, run_slice_lh (w := w) t A n c he .i64 .i64 (i : Int) (j : Int) (by omega) (by omega) (by omega)]
  simp only [Int.toNat_natCast, sliced]
  rw [hel]
  simp [Go.sizeOf, typeInfo, hi, Result.andThen, cutA, hsize]
end Copyhold
namespace Go.Proofs.Ytahnkkmngbckdaa
open Go.RowKit Copyhold Copyhold.Disk

theorem intercalate_nil {α : Type} (l : List (List α)) : List.intercalate [] l = l.flatten := by
  unfold List.intercalate
  induction l with
  | nil => rfl
  | cons a r ih =>
    cases r with
    | nil => rfl
    | cons b s => rw [List.intersperse_cons_cons, List.flatten_cons, List.flatten_cons, ih]; rfl

theorem join_row (v : Value) (xs : List (List UInt8)) (w : World) (hr : Row w v (xs.map strV)) (hn : xs.length ≤ 100000000) (hlen : xs.flatten.length ≤ 140737488355328) :
    Calls Try.prog 35 #[v, .string ⟨#[]⟩] w fun e w' => e = .returned (.string ⟨xs.flatten.toArray⟩) ∧ Below w.heap.size w w' := by
  obtain ⟨A, c, rfl⟩ := hr.shape
  rw [List.length_map] at hr ⊢
  by_cases h0 : 0 < xs.length
  · obtain ⟨bk, o, rfl, hbk, hcap, hcl⟩ := hr.at 0 (x := strV xs[0]) (by rw [List.getElem?_map, List.getElem?_eq_getElem h0]; rfl)
    have hj := Try.strings_Join bk o c (xs.map fun l => ⟨l.toArray⟩) ⟨#[]⟩ w (fun j x hx => by
        rw [List.getElem?_map] at hx
        cases hg : xs[j]? with
        | none => rw [hg] at hx; cases hx
        | some y => rw [hg] at hx; cases hx; exact hcl j (strV y) (by rw [List.getElem?_map, hg]; rfl)) hbk (by rw [List.length_map]; omega) (by simpa using hcap)
    have e : Lib.join ((xs.map fun l => (⟨l.toArray⟩ : ByteArray)).map (·.data.toList)) (⟨#[]⟩ : ByteArray).data.toList = xs.flatten := by
      rw [List.map_map]
      show List.intercalate [] _ = _
      rw [intercalate_nil]
      congr 1
      exact List.map_id xs
    rw [e, List.length_map] at hj
    exact hj hlen
  · obtain rfl : xs = [] := List.eq_nil_of_length_eq_zero (by omega)
    exact (Try.strings_Join_none A c ⟨#[]⟩ w).mono fun e w' ⟨h, k⟩ => ⟨h, k ▸ Below.refl _ _⟩

/-- some sectors, and why not -/
def stretchD (d : DiskW) (at' many : Int) : List UInt8 × Int :=
  if d.off then ([], 19) else if at' < 0 ∨ many < 0 ∨ (d.kept.length : Int) < at' ∨ (d.kept.length : Int) - at' < many then ([], 1) else ((((imageL d).drop at'.toNat).take many.toNat).flatten, 0)

theorem flat64 (l : List (List UInt8)) (h : ∀ x ∈ l, x.length = 64) : l.flatten.length = 64 * l.length := by
  induction l with
  | nil => rfl
  | cons a r ih =>
    rw [List.flatten_cons, List.length_append, ih (fun x hx => h x (List.mem_cons_of_mem _ hx)), h a List.mem_cons_self, List.length_cons]
    omega
theorem image64 {d : DiskW} (hr : Right d) : ∀ x ∈ imageL d, x.length = 64 := by
  rw [hr.image]
  exact doneL_all64 hr.2.1 fun p hp => (hr.2.2 p hp).2
theorem image_len (d : DiskW) : (imageL d).length = d.kept.length := doneL_len _ _

set_option maxHeartbeats 4000000 in
theorem disk_Stretch (d : DiskW) (v : Value) (at' many : Int) (w : World) (hv : DiskV w v d) (hok : OkD d) (hr : Right d) (ha : -9223372036854775808 ≤ at' ∧ at' ≤ 9223372036854775807) (hm : -9223372036854775808 ≤ many ∧ many ≤ 9223372036854775807) :
    Calls Try.prog 17 #[v, .int .i64 at', .int .i64 many] w fun e w' => e = .returned (.tuple #[.string ⟨(stretchD d at' many).1.toArray⟩, .int .i64 (stretchD d at' many).2]) ∧ Below w.heap.size w w' := by
  have hv0 := hv
  obtain ⟨A, c, B, eb, rfl, hk, hp⟩ := hv
  have h4096 := hr.1
  obtain ⟨hx1, hx2⟩ := h4096
  obtain ⟨ha1, ha2⟩ := ha
  obtain ⟨hm1, hm2⟩ := hm
  cases hoff : d.off with
  | true =>
    have hs : stretchD d at' many = ([], 19) := by unfold stretchD; rw [hoff]; rfl
    rw [hs]
    clear hs hv0 hk hp hok hr
    go_enter Try.func17, Try.ntmps17
    go_wp2_with fail
    refine bodyPost_ret (v := .tuple #[.string ⟨#[]⟩, .int .i64 19]) (by simp [results, Try.results17, go_sem]) rfl ⟨rfl, (Below.refl _ _).alloc (Nat.le_refl _) _⟩
  | false =>
    have hs0 : stretchD d at' many = if at' < 0 ∨ many < 0 ∨ (d.kept.length : Int) < at' ∨ (d.kept.length : Int) - at' < many then ([], 1) else ((((imageL d).drop at'.toNat).take many.toNat).flatten, 0) := by unfold stretchD; rw [hoff]; rfl
    rw [hoff] at hv0
    have bad : (at' < 0 ∨ many < 0 ∨ (d.kept.length : Int) < at' ∨ (d.kept.length : Int) - at' < many) → stretchD d at' many = ([], 1) := fun h => by rw [hs0, if_pos h]
    rcases (show at' < 0 ∨ 0 ≤ at' ∧ many < 0 ∨ 0 ≤ at' ∧ 0 ≤ many ∧ (d.kept.length : Int) < at' ∨ 0 ≤ at' ∧ 0 ≤ many ∧ at' ≤ (d.kept.length : Int) ∧ (d.kept.length : Int) - at' < many ∨ 0 ≤ at' ∧ 0 ≤ many ∧ at' ≤ (d.kept.length : Int) ∧ many ≤ (d.kept.length : Int) - at' from by omega) with q | ⟨q, q1⟩ | ⟨q, q1, q2⟩ | ⟨q, q1, q2, q3⟩ | ⟨q, q1, q2, q3⟩
    · rw [bad (.inl q)]
      clear hs0 hv0 hk hp hok hr bad
      go_enter Try.func17, Try.ntmps17
      go_wp2_with fail
      refine bodyPost_ret (v := .tuple #[.string ⟨#[]⟩, .int .i64 1]) (by simp [results, Try.results17, go_sem]) rfl ⟨rfl, (Below.refl _ _).alloc (Nat.le_refl _) _⟩
    · rw [bad (.inr (.inl q1))]
      clear hs0 hv0 hk hp hok hr bad
      go_enter Try.func17, Try.ntmps17
      go_wp2_with fail
      refine bodyPost_ret (v := .tuple #[.string ⟨#[]⟩, .int .i64 1]) (by simp [results, Try.results17, go_sem]) rfl ⟨rfl, (Below.refl _ _).alloc (Nat.le_refl _) _⟩
    · rw [bad (.inr (.inr (.inl q2)))]
      clear hs0 hv0 hk hp hok hr bad
      go_enter Try.func17, Try.ntmps17
      go_wp2_with fail
      refine bodyPost_ret (v := .tuple #[.string ⟨#[]⟩, .int .i64 1]) (by simp [results, Try.results17, go_sem]) rfl ⟨rfl, (Below.refl _ _).alloc (Nat.le_refl _) _⟩
    · rw [bad (.inr (.inr (.inr q3)))]
      clear hs0 hv0 hk hp hok hr bad
      go_enter Try.func17, Try.ntmps17
      go_wp2_with fail
      refine bodyPost_ret (v := .tuple #[.string ⟨#[]⟩, .int .i64 1]) (by simp [results, Try.results17, go_sem]) rfl ⟨rfl, (Below.refl _ _).alloc (Nat.le_refl _) _⟩
    · obtain ⟨i, rfl⟩ := Int.eq_ofNat_of_zero_le q
      obtain ⟨m, rfl⟩ := Int.eq_ofNat_of_zero_le q1
      have hs : stretchD d (i : Int) (m : Int) = ((((imageL d).drop i).take m).flatten, 0) := by rw [hs0, if_neg (by omega), Int.toNat_natCast, Int.toNat_natCast]
      rw [hs]
      have hb0 : Below w.heap.size w (w.alloc (.cells #[.slice A d.kept.length c, .slice B d.w.length eb, .bool false] 25)) := (Below.refl _ _).alloc (Nat.le_refl _) _
      have HI := Lib.hid (disk_Image d _ _ (hv0.below hb0) hok)
      have hil := image_len d
      have h64 := image64 hr
      have him : i + m ≤ (imageL d).length := by omega
      have hi3 : i ≤ d.kept.length := by omega
      have hm3 : m ≤ d.kept.length - i := by omega
      have hj : (i : Int) + (m : Int) ≤ (d.kept.length : Int) := by omega
      generalize imageL d = im at *
      have hfl : ((im.drop i).take m).flatten.length ≤ 140737488355328 := by
        rw [flat64 _ (fun x hx => h64 x (List.mem_of_mem_drop (List.mem_of_mem_take hx)))]
        rw [List.length_take, List.length_drop]
        omega
      have HIL := Lib.hid hil
      have HFL := Lib.hid hfl
      clear hs hs0 bad hv0 hk hp hb0 h64 hfl hil hr
      go_enter Try.func17, Try.ntmps17
      go_wp2_with fail
      refine HI.out.mono ?_
      rintro e w1 ⟨v, rfl, hr, hat, hb⟩
      obtain ⟨A', c', rfl, hcc, _⟩ := (Sl.of_row hr).shape
      have hsl := Sl.of_row hr
      rw [List.length_map] at hr hat hcc hsl ⊢
      have hmid := run_mid (P := Try.prog) (t := 22) strElem A' im.length c' i (i + m) (by omega) (by omega) w1
      rw [show i + m - i = m from by omega, show ((i + m : Nat) : Int) = (i : Int) + (m : Int) from by omega] at hmid
      have hsm := (hsl.pre (i + m) him).post i (by omega)
      rw [show i + m - i = m from by omega, Nat.mul_one, Nat.mul_one, List.drop_take, show i + m - i = m from by omega, ← List.map_drop, ← List.map_take] at hsm
      have HJ := Lib.hid (join_row _ ((im.drop i).take m) w1 hsm.row (by rw [List.length_take, List.length_drop]; omega) HFL.out)
      have HB := Lib.hid hb
      clear hr hat hcc hsl hsm hb
      generalize cutA A' c' i 1 = A2 at *
      go_wp2_with fail
      refine HJ.out.mono ?_
      rintro e w2 ⟨rfl, hb2⟩
      have HB2 := Lib.hid (below_trans (below_trans ((Below.refl w.heap.size w).alloc (Nat.le_refl _) (.cells #[.slice A d.kept.length c, .slice B d.w.length eb, .bool false] 25)) HB.out (by simp)) hb2 (by have := HB.out.size; simp at this; omega))
      generalize hzz : ((im.drop i).take m).flatten = z at *
      have HZZ := Lib.hid hzz
      clear hb2 hzz
      go_wp2_with fail
      refine bodyPost_ret (v := .tuple #[.string ⟨z.toArray⟩, .int .i64 0]) (by simp [results, Try.results17, go_sem]) rfl ⟨by rw [HZZ.out], HB2.out⟩
end Go.Proofs.Ytahnkkmngbckdaa
