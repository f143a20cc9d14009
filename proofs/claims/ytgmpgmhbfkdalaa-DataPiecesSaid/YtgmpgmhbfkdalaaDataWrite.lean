/- data.filled, data.Write, data.Cut: they answer as the document says; old memory is as it was. -/
import Derived.Test.YtgmpgmhbfkdalaaDataRead
import Derived.Test.YtgmpgmhbfkdalaaBuf
namespace Go.Proofs.Ytgmpgmhbfkdalaa
open Go.RowKit Copyhold
attribute [local go_sem] piece

/-- a text's beginning, with bytes of 0 behind its end -/
def fillD (l : List UInt8) (n : Nat) : List UInt8 := l.take n ++ List.replicate (n - l.length) 0

theorem fillD_length (l : List UInt8) (n : Nat) : (fillD l n).length = n := by
  simp [fillD]
  omega

/-- the row that it leaves -/
def BytesAt (w : World) (g : Nat) (l : List UInt8) : Prop := w.heap[g]? = some (.cells (Lib.byteCells l).toArray 5 (0, 0))

theorem run_make_bytes (w : World) (n : Nat) (hn : n ≤ 140737488355328) : (Instr.makeSlice 49 (.int .i64 (n : Int)) (.int .i64 (n : Int))).run Try.prog w = .ok (.slice (some ⟨w.heap.size, 0, none⟩) n n) (w.alloc (.cells (Lib.byteCells (List.replicate n 0)).toArray 5)) := by
  have h := run_make (P := Try.prog) w 49 5 _ (.int .u8 0) rfl rfl rfl .i64 .i64 (n : Int) (n : Int) (by omega) (by omega) (by show (1 : Int) * _ ≤ _; omega) (by omega)
  rw [madeBytes, show (Try.prog.types[5]'(by decide)).size = 1 from rfl, Nat.mul_one, Int.toNat_natCast] at h
  exact h

set_option maxHeartbeats 1000000 in
theorem data_filled (l : List UInt8) (n : Nat) (w : World) (_hl : l.length ≤ 140737488355328) (hn : n ≤ 140737488355328) :
    Calls Try.prog 29 #[.string ⟨l.toArray⟩, .int .i64 n] w fun e w' => e = .returned (.slice (some ⟨w.heap.size, 0, none⟩) n n) ∧ BytesAt w' w.heap.size (fillD l n) ∧ Below w.heap.size w w' := by
  have hmk := run_make_bytes w n hn
  have hb := (Below.refl w.heap.size w).alloc (Nat.le_refl _) (.cells (Lib.byteCells (List.replicate n 0)).toArray 5)
  have hg := heap_alloc_new w (.cells (Lib.byteCells (List.replicate n 0)).toArray 5)
  obtain ⟨W, hW⟩ : ∃ W, W = w.alloc (.cells (Lib.byteCells (List.replicate n 0)).toArray 5) := ⟨_, rfl⟩
  rw [← hW] at hmk hb hg
  have hcp := run_copy_text (P := Try.prog) W 49 9 3 5 w.heap.size 0 n n l (List.replicate n 0) 5 rfl rfl hg (by simp)
  have hf : (List.replicate n (0 : UInt8)).take 0 ++ l.take n ++ (List.replicate n 0).drop (0 + l.length) = fillD l n := by simp [fillD]
  rw [hf] at hcp
  have HB := Lib.hid hb
  have HG := Lib.hid hg
  clear hb hg hf hW
  go_enter Try.func29, Try.ntmps29
  go_wp2_with fail
  go_ret
  exact ⟨rfl, setRow_heap _ _ _ _ _ _ HG.out, below_setRow HB.out (Nat.le_refl _) _⟩

/-- a text that is cut, or filled up -/
def cutD (l : List UInt8) (n : Int) : List UInt8 × Int := if refusedD 0 n = 0 then (fillD l n.toNat, 0) else (l, refusedD 0 n)

/-- 'string(b)' of such a row -/
theorem run_bytes_back {w : World} {g : Nat} {l : List UInt8} (h : BytesAt w g l) : (convert 49 9 (.slice (some ⟨g, 0, none⟩) l.length l.length)).run Try.prog w = .ok (.string ⟨l.toArray⟩) w :=
  run_convert_bytes_back w _ _ 5 _ _ l rfl rfl rfl fun j hj => by
    have hadd : (⟨g, 0, none⟩ : Addr).add j = ⟨g, j, none⟩ := by unfold Addr.add; split <;> simp_all
    rw [hadd]
    simp only [World.cell?, show w.heap[g]? = some (.cells (Lib.byteCells l).toArray 5 (0, 0)) from h]
    simp [Lib.byteCells, hj]

set_option maxHeartbeats 1000000 in
theorem data_Cut (l : List UInt8) (n : Int) (w : World) (hl : l.length ≤ 140737488355328) (h1 : -9223372036854775808 ≤ n) (h2 : n ≤ 9223372036854775807) :
    Calls Try.prog 15 #[.string ⟨l.toArray⟩, .int .i64 n] w fun e w' => e = .returned (.tuple #[.string ⟨(cutD l n).1.toArray⟩, .int .i64 (cutD l n).2]) ∧ Below w.heap.size w w' := by
  by_cases h : refusedD 0 n = 0
  · have hn : 0 ≤ n ∧ n ≤ 4096 := by
      unfold refusedD at h
      split at h
      · split at h <;> omega
      · cases h
    have hc : cutD l n = (fillD l n.toNat, 0) := if_pos h
    obtain ⟨n, rfl⟩ := Int.eq_ofNat_of_zero_le hn.1
    rw [Int.toNat_natCast] at hc
    have HR := Lib.hid h
    have HC := Lib.hid hc
    clear h hc h1
    go_enter Try.func15, Try.ntmps15
    go_wp2_with fail
    refine (data_refused 0 n _ (by decide) (by decide) (by omega) (by omega)).mono ?_
    rintro e w1 ⟨rfl, rfl⟩
    rw [HR.out]
    go_wp2_with fail
    refine (data_filled l n _ hl (by omega)).mono ?_
    rintro e w1 ⟨rfl, hb1, hb⟩
    have hk := run_bytes_back hb1
    rw [fillD_length] at hk
    go_wp2_with fail
    go_ret2
    exact ⟨by rw [HC.out]; rfl, hb⟩
  · have hc : cutD l n = (l, refusedD 0 n) := if_neg h
    obtain ⟨z, hz⟩ : ∃ z, z = refusedD 0 n := ⟨_, rfl⟩
    rw [← hz] at h hc
    have HZ := Lib.hid hz
    have HC := Lib.hid hc
    have hq : (z == 0) = false := by simpa using h
    clear hc hz h
    go_enter Try.func15, Try.ntmps15
    go_wp2_with fail
    refine (data_refused 0 n _ (by decide) (by decide) h1 h2).mono ?_
    rintro e w1 ⟨rfl, rfl⟩
    rw [← HZ.out]
    go_wp2_with fail
    go_ret2
    exact ⟨by rw [HC.out]; rfl, Below.refl _ _⟩

/-- a text into which another one is written -/
def putD (l : List UInt8) (a : Nat) (t : List UInt8) : List UInt8 :=
  (fillD l (max l.length (a + t.length))).take a ++ t ++ (fillD l (max l.length (a + t.length))).drop (a + t.length)
def writeD (l : List UInt8) (a : Int) (t : List UInt8) : List UInt8 × Int :=
  if refusedD a t.length = 0 then (if t = [] then l else putD l a.toNat t, 0) else (l, refusedD a t.length)

theorem refusedD_zero {a b : Int} (h : refusedD a b = 0) : 0 ≤ a ∧ 0 ≤ b ∧ a + b ≤ 4096 := by
  unfold refusedD at h
  split at h
  · split at h <;> omega
  · cases h

theorem putD_length (l : List UInt8) (a : Nat) (t : List UInt8) : (putD l a t).length = max l.length (a + t.length) := by
  unfold putD
  simp [fillD_length]
  omega

set_option maxHeartbeats 1000000 in
theorem data_Write (l : List UInt8) (a : Int) (t : List UInt8) (w : World) (hl : l.length ≤ 140737488355328) (ht : t.length ≤ 140737488355328) (h1 : -9223372036854775808 ≤ a) (h2 : a ≤ 9223372036854775807) :
    Calls Try.prog 13 #[.string ⟨l.toArray⟩, .int .i64 a, .string ⟨t.toArray⟩] w fun e w' => e = .returned (.tuple #[.string ⟨(writeD l a t).1.toArray⟩, .int .i64 (writeD l a t).2]) ∧ Below w.heap.size w w' := by
  by_cases h : refusedD a t.length = 0
  · have hn := refusedD_zero h
    obtain ⟨a, rfl⟩ := Int.eq_ofNat_of_zero_le hn.1
    rcases Classical.em (t = []) with rfl | h0
    · have hc : writeD l a [] = (l, 0) := by unfold writeD; rw [if_pos h, if_pos rfl]
      have HR := Lib.hid h
      have HC := Lib.hid hc
      clear h hc h1 hn
      go_enter Try.func13, Try.ntmps13
      go_wp2_with fail
      refine (data_refused a 0 _ (by omega) (by omega) (by decide) (by decide)).mono ?_
      rintro e w1 ⟨rfl, rfl⟩
      rw [show refusedD a 0 = 0 from HR.out]
      go_wp2_with fail
      go_ret2
      exact ⟨by rw [HC.out]; rfl, Below.refl _ _⟩
    · have hc : writeD l a t = (putD l a t, 0) := by unfold writeD; rw [if_pos h, if_neg h0, Int.toNat_natCast]
      have hm : ∃ m : Nat, m = max l.length (a + t.length) := ⟨_, rfl⟩
      obtain ⟨m, hm⟩ := hm
      have hp : putD l a t = (fillD l m).take a ++ t.take (m - a) ++ (fillD l m).drop (a + t.length) := by
        unfold putD
        rw [hm, List.take_of_length_le (l := t) (by omega)]
      have hs : (⟨t.toArray⟩ : ByteArray) ≠ ⟨#[]⟩ := fun e => h0 (by simpa using congrArg (fun x : ByteArray => x.data.toList) e)
      have HR := Lib.hid h
      have HC := Lib.hid hc
      have HP := Lib.hid hp
      have HM := Lib.hid hm
      have hpl := putD_length l a t
      rw [← hm] at hpl
      have HL := Lib.hid hpl
      have hmm : (max (l.length : Int) ((a : Int) + t.length)) = m := by omega
      have htp : 0 < t.length := List.length_pos_iff.2 h0
      have ham : a < m := by omega
      have hie : t.isEmpty = false := by simpa using h0
      have hmb : m ≤ 140737488355328 := by omega
      clear h hc h1 hp hm hpl
      go_enter Try.func13, Try.ntmps13
      go_wp2_with fail
      refine (data_refused a t.length _ (by omega) (by omega) (by omega) (by omega)).mono ?_
      rintro e w1 ⟨rfl, rfl⟩
      rw [HR.out]
      go_wp2_with fail
      · have hmq : (a : Int) + t.length = m := by have := HM.out; omega
        rw [hmq]
        refine (data_filled l m _ hl hmb).mono ?_
        rintro e w1 ⟨rfl, hb1, hb⟩
        have hcp := run_copy_text (P := Try.prog) w1 49 9 3 5 w.heap.size a (m - a) (m - a) t (fillD l m) 5 rfl rfl hb1 (by rw [fillD_length]; omega)
        rw [← HP.out] at hcp
        have hb2 : BytesAt (w1.setRow w.heap.size (Lib.byteCells (putD l a t)).toArray) w.heap.size (putD l a t) := setRow_heap _ _ _ _ _ _ hb1
        have hb3 := below_setRow hb (Nat.le_refl _) (Lib.byteCells (putD l a t)).toArray
        obtain ⟨W, hW⟩ : ∃ W, W = w1.setRow w.heap.size (Lib.byteCells (putD l a t)).toArray := ⟨_, rfl⟩
        rw [← hW] at hcp hb2 hb3
        have hk := run_bytes_back hb2
        rw [HL.out] at hk
        clear hW
        go_wp2_with fail
        go_ret2
        exact ⟨by rw [HC.out]; rfl, hb3⟩
      · have hmq : (l.length : Int) = m := by have := HM.out; omega
        rw [hmq]
        refine (data_filled l m _ hl hmb).mono ?_
        rintro e w1 ⟨rfl, hb1, hb⟩
        have hcp := run_copy_text (P := Try.prog) w1 49 9 3 5 w.heap.size a (m - a) (m - a) t (fillD l m) 5 rfl rfl hb1 (by rw [fillD_length]; omega)
        rw [← HP.out] at hcp
        have hb2 : BytesAt (w1.setRow w.heap.size (Lib.byteCells (putD l a t)).toArray) w.heap.size (putD l a t) := setRow_heap _ _ _ _ _ _ hb1
        have hb3 := below_setRow hb (Nat.le_refl _) (Lib.byteCells (putD l a t)).toArray
        obtain ⟨W, hW⟩ : ∃ W, W = w1.setRow w.heap.size (Lib.byteCells (putD l a t)).toArray := ⟨_, rfl⟩
        rw [← hW] at hcp hb2 hb3
        have hk := run_bytes_back hb2
        rw [HL.out] at hk
        clear hW
        go_wp2_with fail
        go_ret2
        exact ⟨by rw [HC.out]; rfl, hb3⟩
  · have hc : writeD l a t = (l, refusedD a t.length) := if_neg h
    obtain ⟨z, hz⟩ : ∃ z, z = refusedD a t.length := ⟨_, rfl⟩
    rw [← hz] at h hc
    have HZ := Lib.hid hz
    have HC := Lib.hid hc
    have hq : (z == 0) = false := by simpa using h
    clear hc hz h
    go_enter Try.func13, Try.ntmps13
    go_wp2_with fail
    refine (data_refused a t.length _ h1 h2 (by omega) (by omega)).mono ?_
    rintro e w1 ⟨rfl, rfl⟩
    rw [← HZ.out]
    go_wp2_with fail
    go_ret2
    exact ⟨by rw [HC.out]; rfl, Below.refl _ _⟩
end Go.Proofs.Ytgmpgmhbfkdalaa
