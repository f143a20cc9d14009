import Derived.Test.YtkhnialfkndiiaaGreatMrgX
import Derived.Lib.BufferWrite
import Derived.Laws.IdiomStrings
import Derived.Laws.MakeOwn
import Derived.Test.YtkhnialfkndiiaaGreatMrgA
import Derived.ArgAppend
set_option maxRecDepth 100000
set_option maxHeartbeats 8000000
namespace Go.Proofs.YtkhnialfkndiiaaGreat
open Go.RowKit Copyhold
attribute [local go_sem] piece
def readD (l : List UInt8) (a b : Int) : List UInt8 × Int :=
 if 0 ≤ a ∧ 0 ≤ b ∧ a ≤ 1099511627776 ∧ b ≤ 1099511627776 - a then ((l.drop a.toNat).take b.toNat, 0) else ([], 1)
theorem data_Read (l : List UInt8) (a b : Int) (w : World) (hl : l.length ≤ 140737488355328) (ha1 : -9223372036854775808 ≤ a) (ha2 : a ≤ 9223372036854775807) (hb1 : -9223372036854775808 ≤ b) (hb2 : b ≤ 9223372036854775807) :
  Calls Tryz.prog 110 #[.string ⟨l.toArray⟩, .int .i64 a, .int .i64 b] w fun e w' => e = .returned (.tuple #[.string ⟨(readD l a b).1.toArray⟩, .int .i64 (readD l a b).2]) ∧ w = w' := by
 by_cases h : ofOk a b
 ·have hr : readD l a b = ((l.drop a.toNat).take b.toNat, 0) := if_pos h
  obtain ⟨h1, h2, h3, h4⟩ := id h
  obtain ⟨a, rfl⟩ := Int.eq_ofNat_of_zero_le h1
  obtain ⟨b, rfl⟩ := Int.eq_ofNat_of_zero_le h2
  rw [Int.toNat_natCast, Int.toNat_natCast] at hr
  have HR := Lib.hid hr
  have HO := Lib.hid h
  clear hr h ha1 hb1
  go_enter Tryz.func110, Tryz.ntmps110
  go_wp2_with fail
  refine (span_Of_ok a b _ HO.out).mono ?_
  rintro e w' ⟨rfl, rfl⟩
  rcases (show l.length < a ∨ a ≤ l.length ∧ l.length < a + b ∨ a + b ≤ l.length from by omega) with q | ⟨q, q'⟩ | q
  ·go_wp2_with fail
   go_ret2
   refine ⟨?_, rfl⟩
   rw [HR.out]
   exact ret2 (congrArg (fun x : List UInt8 => Value.string ⟨x.toArray⟩) (by rw [List.drop_eq_nil_of_le (by omega), List.take_nil])) rfl
  ·go_wp2_with fail
   go_ret2
   refine ⟨?_, rfl⟩
   rw [HR.out]
   exact ret2 (congrArg (fun x : List UInt8 => Value.string ⟨x.toArray⟩) (by rw [List.take_of_length_le (by rw [List.length_drop]; omega)])) rfl
  ·go_wp2_with fail
   go_ret2
   refine ⟨?_, rfl⟩
   rw [HR.out]
   exact ret2 (congrArg (fun x : List UInt8 => Value.string ⟨x.toArray⟩) (by rw [List.drop_take, Nat.add_sub_cancel_left])) rfl
 ·have hr : readD l a b = ([], 1) := if_neg h
  have HR := Lib.hid hr
  go_enter Tryz.func110, Tryz.ntmps110
  go_wp2_with fail
  refine (span_Of_bad a b _ ha1 ha2 hb1 hb2 h).mono ?_
  rintro e w' ⟨rfl, rfl⟩
  go_wp2_with fail
  go_ret2
  exact ⟨by rw [HR.out]; rfl, rfl⟩
def refusedD (a b : Int) : Int := if 0 ≤ a ∧ 0 ≤ b ∧ a ≤ 1099511627776 ∧ b ≤ 1099511627776 - a then (if a + b > 4096 then 5 else 0) else 1
theorem fl_4096 : fl 4096 = 4661225614328463360 := by decide +kernel
theorem data_refused (a b : Int) (w : World) (ha1 : -9223372036854775808 ≤ a) (ha2 : a ≤ 9223372036854775807) (hb1 : -9223372036854775808 ≤ b) (hb2 : b ≤ 9223372036854775807) :
  Calls Tryz.prog 135 #[.int .i64 a, .int .i64 b] w fun e w' => e = .returned (.int .i64 (refusedD a b)) ∧ w = w' := by
 by_cases h : ofOk a b
 ·have hr : refusedD a b = if a + b > 4096 then 5 else 0 := if_pos h
  obtain ⟨h1, h2, h3, h4⟩ := id h
  obtain ⟨a, rfl⟩ := Int.eq_ofNat_of_zero_le h1
  obtain ⟨b, rfl⟩ := Int.eq_ofNat_of_zero_le h2
  have hadd := run_float_arith (P := Tryz.prog) w .add 180 .f64 (fl a) (fl b) (fl (a + b)) (fl_add a b (by omega))
  have hord := fl_order (a + b) 4096 (by omega) (by decide)
  rw [fl_4096] at hord
  have HR := Lib.hid hr
  have HO := Lib.hid h
  clear hr h ha1 hb1
  by_cases h5 : 4096 < a + b
  ·have hf : refusedD a b = 5 := by rw [HR.out, if_pos (by omega)]
   rw [Nat.compare_eq_gt.2 h5] at hord
   have HF := Lib.hid hf
   clear hf HR
   go_enter Tryz.func135, Tryz.ntmps135
   go_wp2_with fail
   refine (span_Of_ok a b _ HO.out).mono ?_
   rintro e w' ⟨rfl, rfl⟩
   go_wp2_with fail
   go_ret
   exact ⟨by rw [HF.out]; rfl, rfl⟩
  ·have hf : refusedD a b = 0 := by rw [HR.out, if_neg (by omega)]
   have HF := Lib.hid hf
   clear hf HR
   rcases Nat.lt_or_eq_of_le (Nat.not_lt.1 h5) with h6 | h6
   ·rw [Nat.compare_eq_lt.2 h6] at hord
    clear h6
    go_enter Tryz.func135, Tryz.ntmps135
    go_wp2_with fail
    refine (span_Of_ok a b _ HO.out).mono ?_
    rintro e w' ⟨rfl, rfl⟩
    go_wp2_with fail
    go_ret
    exact ⟨by rw [HF.out]; rfl, rfl⟩
   ·rw [Nat.compare_eq_eq.2 h6] at hord
    clear h6
    go_enter Tryz.func135, Tryz.ntmps135
    go_wp2_with fail
    refine (span_Of_ok a b _ HO.out).mono ?_
    rintro e w' ⟨rfl, rfl⟩
    go_wp2_with fail
    go_ret
    exact ⟨by rw [HF.out]; rfl, rfl⟩
 ·have hr : refusedD a b = 1 := if_neg h
  have HR := Lib.hid hr
  go_enter Tryz.func135, Tryz.ntmps135
  go_wp2_with fail
  refine (span_Of_bad a b _ ha1 ha2 hb1 hb2 h).mono ?_
  rintro e w' ⟨rfl, rfl⟩
  go_wp2_with fail
  go_ret
  exact ⟨by rw [HR.out]; rfl, rfl⟩
end Go.Proofs.YtkhnialfkndiiaaGreat

namespace Copyhold
open Go Go.RowKit
theorem run_copy_text {P : Program} (w : World) (dT sT ty elem : TypeId) (g o dLen dCap : Nat) (l : List UInt8) (cur : List UInt8) (t : TypeId)
  (hu : P.underlying dT = some (.slice elem)) (hs : (P.info? elem).map (·.size) = some 1) (hg : w.heap[g]? = some (.cells (Lib.byteCells cur).toArray t (0, 0))) (hfit : o + dLen = cur.length) :
  (Builtin.copy_ #[dT, sT] ty #[.slice (some ⟨g, o, none⟩) dLen dCap, .string ⟨l.toArray⟩]).run P w =
   .ok (goInt (Nat.min l.length dLen)) (w.setRow g (Lib.byteCells (cur.take o ++ l.take dLen ++ cur.drop (o + l.length))).toArray) := by
 have hsz : (⟨l.toArray⟩ : ByteArray).size = l.length := by simp [ByteArray.size]
 have hlen : (Lib.byteCells (l.take dLen)).length = Nat.min l.length dLen := by rw [Lib.byteCells_length, List.length_take, Nat.min_comm]
 have hcl : (Lib.byteCells cur).length = cur.length := Lib.byteCells_length _
 have hst := run_storeCells_at P g o t (Lib.byteCells (l.take dLen)) 0 (Lib.byteCells cur).toArray w hg (by rw [hlen]; simp [hcl]; have : Nat.min l.length dLen ≤ dLen := Nat.min_le_right l.length dLen; omega) (Lib.byteCells_one _)
 have htk : List.take (Nat.min l.length dLen) (List.map (fun b : UInt8 => Value.int IntKind.u8 (b.toNat : Int)) l) = Lib.byteCells (l.take dLen) := by
  unfold Lib.byteCells
  rw [List.map_take]
  show List.take (min l.length dLen) _ = _
  rw [List.take_eq_take_iff]
  simp
  omega
 have hrow : ((Lib.byteCells cur).take o ++ Lib.byteCells (l.take dLen) ++ (Lib.byteCells cur).drop (o + Nat.min l.length dLen)) = Lib.byteCells (cur.take o ++ l.take dLen ++ cur.drop (o + l.length)) := by
  unfold Lib.byteCells
  rw [List.map_append, List.map_append, List.map_take, List.map_take, List.map_drop]
  congr 1
  show List.drop (o + min l.length dLen) _ = _
  rw [List.drop_eq_drop_iff]
  simp
  omega
 rw [hlen] at hst
 simp only [Nat.add_zero] at hst
 rw [hrow] at hst
 cases hq : P.info? elem with
 | none => simp [hq] at hs
 | some i =>
  simp [Builtin.copy_, run_underlying hu, Builtin.lenOf, Builtin.firstCells, Go.sizeOf, typeInfo, hq, hsz]
  rw [htk, hst]
  simp [Result.andThen, List.append_assoc]
theorem madeBytes (n : Nat) : madeCells (Value.int .u8 0).cells n = (Lib.byteCells (List.replicate n 0)).toArray := by
 unfold madeCells
 have : (Value.int .u8 0).cells = #[Value.int .u8 0] := rfl
 rw [this]
 apply Array.ext
 ·simp [Lib.byteCells]
 ·intro i h1 h2
  simp [Lib.byteCells, Nat.mod_one]
end Copyhold

set_option maxRecDepth 100000
namespace Go.Proofs.YtkhnialfkndiiaaGreat
open Go.RowKit Copyhold
attribute [local go_sem] piece
def fillD (l : List UInt8) (n : Nat) : List UInt8 := l.take n ++ List.replicate (n - l.length) 0
theorem fillD_length (l : List UInt8) (n : Nat) : (fillD l n).length = n := by
 simp [fillD]
 omega
def BytesAt (w : World) (g : Nat) (l : List UInt8) : Prop := w.heap[g]? = some (.cells (Lib.byteCells l).toArray 5 (0, 0))
theorem run_make_bytes (w : World) (n : Nat) (hn : n ≤ 140737488355328) : (Instr.makeSlice 144 (.int .i64 (n : Int)) (.int .i64 (n : Int))).run Tryz.prog w = .ok (.slice (some ⟨w.heap.size, 0, none⟩) n n) (w.alloc (.cells (Lib.byteCells (List.replicate n 0)).toArray 5)) := by
 have h := run_make (P := Tryz.prog) w 144 5 _ (.int .u8 0) rfl rfl rfl .i64 .i64 (n : Int) (n : Int) (by omega) (by omega) (by show (1 : Int) * _ ≤ _; omega) (by omega)
 rw [madeBytes, show (Tryz.prog.types[5]'(by decide)).size = 1 from rfl, Nat.mul_one, Int.toNat_natCast] at h
 exact h
theorem data_filled (l : List UInt8) (n : Nat) (w : World) (_hl : l.length ≤ 140737488355328) (hn : n ≤ 140737488355328) :
  Calls Tryz.prog 136 #[.string ⟨l.toArray⟩, .int .i64 n] w fun e w' => e = .returned (.slice (some ⟨w.heap.size, 0, none⟩) n n) ∧ BytesAt w' w.heap.size (fillD l n) ∧ Below w.heap.size w w' := by
 have hmk := run_make_bytes w n hn
 have hb := (Below.refl w.heap.size w).alloc (Nat.le_refl _) (.cells (Lib.byteCells (List.replicate n 0)).toArray 5)
 have hg := heap_alloc_new w (.cells (Lib.byteCells (List.replicate n 0)).toArray 5)
 obtain ⟨W, hW⟩ : ∃ W, W = w.alloc (.cells (Lib.byteCells (List.replicate n 0)).toArray 5) := ⟨_, rfl⟩
 rw [← hW] at hmk hb hg
 have hcp := run_copy_text (P := Tryz.prog) W 144 9 3 5 w.heap.size 0 n n l (List.replicate n 0) 5 rfl rfl hg (by simp)
 have hf : (List.replicate n (0 : UInt8)).take 0 ++ l.take n ++ (List.replicate n 0).drop (0 + l.length) = fillD l n := by simp [fillD]
 rw [hf] at hcp
 have HB := Lib.hid hb
 have HG := Lib.hid hg
 clear hb hg hf hW
 go_enter Tryz.func136, Tryz.ntmps136
 go_wp2_with fail
 go_ret
 exact ⟨rfl, setRow_heap _ _ _ _ _ _ HG.out, below_setRow HB.out (Nat.le_refl _) _⟩
def cutD (l : List UInt8) (n : Int) : List UInt8 × Int := if refusedD 0 n = 0 then (fillD l n.toNat, 0) else (l, refusedD 0 n)
theorem run_bytes_back {w : World} {g : Nat} {l : List UInt8} (h : BytesAt w g l) : (convert 144 9 (.slice (some ⟨g, 0, none⟩) l.length l.length)).run Tryz.prog w = .ok (.string ⟨l.toArray⟩) w :=
 run_convert_bytes_back w _ _ 5 _ _ l rfl rfl rfl fun j hj => by
  have hadd : (⟨g, 0, none⟩ : Addr).add j = ⟨g, j, none⟩ := by unfold Addr.add; split <;> simp_all
  rw [hadd]
  simp only [World.cell?, show w.heap[g]? = some (.cells (Lib.byteCells l).toArray 5 (0, 0)) from h]
  simp [Lib.byteCells, hj]
theorem data_Cut (l : List UInt8) (n : Int) (w : World) (hl : l.length ≤ 140737488355328) (h1 : -9223372036854775808 ≤ n) (h2 : n ≤ 9223372036854775807) :
  Calls Tryz.prog 112 #[.string ⟨l.toArray⟩, .int .i64 n] w fun e w' => e = .returned (.tuple #[.string ⟨(cutD l n).1.toArray⟩, .int .i64 (cutD l n).2]) ∧ Below w.heap.size w w' := by
 by_cases h : refusedD 0 n = 0
 ·have hn : 0 ≤ n ∧ n ≤ 4096 := by
   unfold refusedD at h
   split at h
   ·split at h <;> omega
   ·cases h
  have hc : cutD l n = (fillD l n.toNat, 0) := if_pos h
  obtain ⟨n, rfl⟩ := Int.eq_ofNat_of_zero_le hn.1
  rw [Int.toNat_natCast] at hc
  have HR := Lib.hid h
  have HC := Lib.hid hc
  clear h hc h1
  go_enter Tryz.func112, Tryz.ntmps112
  go_wp2_with fail
  refine (data_refused 0 n _ (by decide) (by decide) (by omega) (by omega)).mono ?_
  rintro e w1 ⟨rfl, rfl⟩
  rw [HR.out]
  go_wp2_with fail
  refine (data_filled l n _ hl (by omega)).mono ?_
  rintro e w1 ⟨rfl, hb1, hb⟩
  have hk := run_bytes_back hb1
  rw [fillD_length] at hk
  go_wp2_with fail
  go_ret2
  exact ⟨by rw [HC.out]; rfl, hb⟩
 ·have hc : cutD l n = (l, refusedD 0 n) := if_neg h
  obtain ⟨z, hz⟩ : ∃ z, z = refusedD 0 n := ⟨_, rfl⟩
  rw [← hz] at h hc
  have HZ := Lib.hid hz
  have HC := Lib.hid hc
  have hq : (z == 0) = false := by simpa using h
  clear hc hz h
  go_enter Tryz.func112, Tryz.ntmps112
  go_wp2_with fail
  refine (data_refused 0 n _ (by decide) (by decide) h1 h2).mono ?_
  rintro e w1 ⟨rfl, rfl⟩
  rw [← HZ.out]
  go_wp2_with fail
  go_ret2
  exact ⟨by rw [HC.out]; rfl, Below.refl _ _⟩
def putD (l : List UInt8) (a : Nat) (t : List UInt8) : List UInt8 :=
 (fillD l (max l.length (a + t.length))).take a ++ t ++ (fillD l (max l.length (a + t.length))).drop (a + t.length)
def writeD (l : List UInt8) (a : Int) (t : List UInt8) : List UInt8 × Int :=
 if refusedD a t.length = 0 then (if t = [] then l else putD l a.toNat t, 0) else (l, refusedD a t.length)
theorem refusedD_zero {a b : Int} (h : refusedD a b = 0) : 0 ≤ a ∧ 0 ≤ b ∧ a + b ≤ 4096 := by
 unfold refusedD at h
 split at h
 ·split at h <;> omega
 ·cases h
theorem putD_length (l : List UInt8) (a : Nat) (t : List UInt8) : (putD l a t).length = max l.length (a + t.length) := by
 unfold putD
 simp [fillD_length]
 omega
theorem data_Write (l : List UInt8) (a : Int) (t : List UInt8) (w : World) (hl : l.length ≤ 140737488355328) (ht : t.length ≤ 140737488355328) (h1 : -9223372036854775808 ≤ a) (h2 : a ≤ 9223372036854775807) :
  Calls Tryz.prog 111 #[.string ⟨l.toArray⟩, .int .i64 a, .string ⟨t.toArray⟩] w fun e w' => e = .returned (.tuple #[.string ⟨(writeD l a t).1.toArray⟩, .int .i64 (writeD l a t).2]) ∧ Below w.heap.size w w' := by
 by_cases h : refusedD a t.length = 0
 ·have hn := refusedD_zero h
  obtain ⟨a, rfl⟩ := Int.eq_ofNat_of_zero_le hn.1
  rcases Classical.em (t = []) with rfl | h0
  ·have hc : writeD l a [] = (l, 0) := by unfold writeD; rw [if_pos h, if_pos rfl]
   have HR := Lib.hid h
   have HC := Lib.hid hc
   clear h hc h1 hn
   go_enter Tryz.func111, Tryz.ntmps111
   go_wp2_with fail
   refine (data_refused a 0 _ (by omega) (by omega) (by decide) (by decide)).mono ?_
   rintro e w1 ⟨rfl, rfl⟩
   rw [show refusedD a 0 = 0 from HR.out]
   go_wp2_with fail
   go_ret2
   exact ⟨by rw [HC.out]; rfl, Below.refl _ _⟩
  ·have hc : writeD l a t = (putD l a t, 0) := by unfold writeD; rw [if_pos h, if_neg h0, Int.toNat_natCast]
   have hm : ∃ m : Nat, m = max l.length (a + t.length) := ⟨_, rfl⟩
   obtain ⟨m, hm⟩ := hm
   have hp : putD l a t = (fillD l m).take a ++ t.take (m - a) ++ (fillD l m).drop (a + t.length) := by
    unfold putD
    rw [hm, List.take_of_length_le (l := t) (by omega)]
   have hs : (⟨t.toArray⟩ : ByteArray) ≠ ⟨#[]⟩ := fun e => h0 (by simpa using congrArg (fun x : ByteArray => x.data.toList) e)
   have HR := Lib.hid h
   have HC := Lib.hid hc
   have HP := Lib.hid hp
   have HM := Lib.hid hm
   have hpl := putD_length l a t
   rw [← hm] at hpl
   have HL := Lib.hid hpl
   have hmm : (max (l.length : Int) ((a : Int) + t.length)) = m := by omega
   have htp : 0 < t.length := List.length_pos_iff.2 h0
   have ham : a < m := by omega
   have hie : t.isEmpty = false := by simpa using h0
   have hmb : m ≤ 140737488355328 := by omega
   clear h hc h1 hp hm hpl
   go_enter Tryz.func111, Tryz.ntmps111
   go_wp2_with fail
   refine (data_refused a t.length _ (by omega) (by omega) (by omega) (by omega)).mono ?_
   rintro e w1 ⟨rfl, rfl⟩
   rw [HR.out]
   go_wp2_with fail
   ·have hmq : (a : Int) + t.length = m := by have := HM.out; omega
    rw [hmq]
    refine (data_filled l m _ hl hmb).mono ?_
    rintro e w1 ⟨rfl, hb1, hb⟩
    have hcp := run_copy_text (P := Tryz.prog) w1 144 9 3 5 w.heap.size a (m - a) (m - a) t (fillD l m) 5 rfl rfl hb1 (by rw [fillD_length]; omega)
    rw [← HP.out] at hcp
    have hb2 : BytesAt (w1.setRow w.heap.size (Lib.byteCells (putD l a t)).toArray) w.heap.size (putD l a t) := setRow_heap _ _ _ _ _ _ hb1
    have hb3 := below_setRow hb (Nat.le_refl _) (Lib.byteCells (putD l a t)).toArray
    obtain ⟨W, hW⟩ : ∃ W, W = w1.setRow w.heap.size (Lib.byteCells (putD l a t)).toArray := ⟨_, rfl⟩
    rw [← hW] at hcp hb2 hb3
    have hk := run_bytes_back hb2
    rw [HL.out] at hk
    clear hW
    go_wp2_with fail
    go_ret2
    exact ⟨by rw [HC.out]; rfl, hb3⟩
   ·have hmq : (l.length : Int) = m := by have := HM.out; omega
    rw [hmq]
    refine (data_filled l m _ hl hmb).mono ?_
    rintro e w1 ⟨rfl, hb1, hb⟩
    have hcp := run_copy_text (P := Tryz.prog) w1 144 9 3 5 w.heap.size a (m - a) (m - a) t (fillD l m) 5 rfl rfl hb1 (by rw [fillD_length]; omega)
    rw [← HP.out] at hcp
    have hb2 : BytesAt (w1.setRow w.heap.size (Lib.byteCells (putD l a t)).toArray) w.heap.size (putD l a t) := setRow_heap _ _ _ _ _ _ hb1
    have hb3 := below_setRow hb (Nat.le_refl _) (Lib.byteCells (putD l a t)).toArray
    obtain ⟨W, hW⟩ : ∃ W, W = w1.setRow w.heap.size (Lib.byteCells (putD l a t)).toArray := ⟨_, rfl⟩
    rw [← hW] at hcp hb2 hb3
    have hk := run_bytes_back hb2
    rw [HL.out] at hk
    clear hW
    go_wp2_with fail
    go_ret2
    exact ⟨by rw [HC.out]; rfl, hb3⟩
 ·have hc : writeD l a t = (l, refusedD a t.length) := if_neg h
  obtain ⟨z, hz⟩ : ∃ z, z = refusedD a t.length := ⟨_, rfl⟩
  rw [← hz] at h hc
  have HZ := Lib.hid hz
  have HC := Lib.hid hc
  have hq : (z == 0) = false := by simpa using h
  clear hc hz h
  go_enter Tryz.func111, Tryz.ntmps111
  go_wp2_with fail
  refine (data_refused a t.length _ h1 h2 (by omega) (by omega)).mono ?_
  rintro e w1 ⟨rfl, rfl⟩
  rw [← HZ.out]
  go_wp2_with fail
  go_ret2
  exact ⟨by rw [HC.out]; rfl, Below.refl _ _⟩
end Go.Proofs.YtkhnialfkndiiaaGreat

set_option linter.unusedVariables false
set_option maxRecDepth 100000
namespace Go.Proofs.YtkhnialfkndiiaaGreat
open Go.RowKit Copyhold
theorem byteElem : Elem Tryz.prog 144 5 (.int .u8 0) 1 1 := ⟨by kernel_rfl, by kernel_rfl, rfl, by decide⟩
def byteV (b : UInt8) : Value := .int .u8 (b.toNat : Int)
def Brow (w : World) (base : Nat) (v : Value) (l : List UInt8) : Prop :=
 (v = .slice none 0 0 ∧ l = []) ∨ ∃ g cap, v = .slice (some ⟨g, 0, none⟩) l.length cap ∧ base ≤ g ∧ g < w.heap.size ∧ l.length ≤ cap ∧ cap ≤ maxLen ∧
  (∀ j, j < cap → (w.cell? ⟨g, j, none⟩).isSome = true) ∧ (∀ j, j < cap → w.frozen? ⟨g, j, none⟩ = false) ∧ ∀ j x, l[j]? = some x → w.cell? ⟨g, j, none⟩ = some (byteV x)
theorem Brow.shape {w : World} {base : Nat} {v : Value} {l : List UInt8} (h : Brow w base v l) : ∃ A c, v = .slice A l.length c := by
 rcases h with ⟨rfl, rfl⟩ | ⟨g, cap, rfl, _⟩
 ·exact ⟨none, 0, rfl⟩
 ·exact ⟨_, cap, rfl⟩
theorem Brow.alloc {w : World} {base : Nat} {v : Value} {l : List UInt8} (h : Brow w base v l) (o : Obj) : Brow (w.alloc o) base v l := by
 rcases h with h | ⟨g, cap, rfl, hb, hg, hl, hc, h1, h2, h3⟩
 ·exact .inl h
 ·refine .inr ⟨g, cap, rfl, hb, by simp; omega, hl, hc, fun j hj => ?_, fun j hj => ?_, fun j x hx => ?_⟩
  ·rw [World.cell?_alloc_lt _ _ _ hg]; exact h1 j hj
  ·rw [World.frozen?_of_block (Below.heap_alloc w o g hg)]; exact h2 j hj
  ·rw [World.cell?_alloc_lt _ _ _ hg]; exact h3 j x hx
theorem Brow.made (w : World) (l : List UInt8) (hl : l.length ≤ 1048576) : Brow (Lib.bytesWorld w 5 ⟨l.toArray⟩) w.heap.size (.slice (some ⟨w.heap.size, 0, none⟩) l.length (grownCap w l.length 0 5)) l := by
 have hsz : (⟨l.toArray⟩ : ByteArray).size = l.length := by simp [ByteArray.size]
 have hge := grownCap_ge w l.length 0 5
 have hcs : (Lib.bytesCells w 5 ⟨l.toArray⟩).size = grownCap w l.length 0 5 := by
  simp [Lib.bytesCells, hsz]
  omega
 refine .inr ⟨w.heap.size, _, rfl, Nat.le_refl _, by rw [Lib.bytesWorld_size]; omega, hge, grownCap_le_maxLen w _ _ _ (by unfold maxLen; omega), fun j hj => ?_, fun j hj => ?_, fun j x hx => ?_⟩
 ·simp only [World.cell?, Lib.bytesWorld_at_new]
  rw [← hcs] at hj
  simp [hj]
 ·simp only [World.frozen?, Lib.bytesWorld_at_new]
  rw [← hcs] at hj
  simp
  omega
 ·obtain ⟨hj, rfl⟩ := List.getElem?_eq_some_iff.1 hx
  exact bytes_cell w _ l j hj
theorem Brow.back {w : World} {base : Nat} {v : Value} {l : List UInt8} (h : Brow w base v l) : (convert 144 9 v).run Tryz.prog w = .ok (.string ⟨l.toArray⟩) w := by
 rcases h with ⟨rfl, rfl⟩ | ⟨g, cap, rfl, hb, hg, hl, hc, h1, h2, h3⟩
 ·exact run_convert_bytes_nil w 144 5 rfl rfl 0 0 9 rfl
 ·exact run_convert_bytes_back w _ _ 5 _ _ l rfl rfl rfl fun j hj => by
   rw [add_plain', Nat.zero_add]
   exact h3 j _ (List.getElem?_eq_getElem hj)
theorem Brow.store {w : World} {base g cap : Nat} {l : List UInt8} (h : Brow w base (.slice (some ⟨g, 0, none⟩) l.length cap) l) (k : Nat) (x : UInt8) (hk : k < l.length) :
  base ≤ g ∧ (∃ u, w.cell? ⟨g, k, none⟩ = some u) ∧ w.frozen? ⟨g, k, none⟩ = false ∧ Brow (w.setCell ⟨g, k, none⟩ (byteV x)) base (.slice (some ⟨g, 0, none⟩) l.length cap) (l.set k x) := by
 rcases h with ⟨h, rfl⟩ | ⟨g', cap', he, hb, hg, hl, hc, h1, h2, h3⟩
 ·simp at hk
 ·simp only [Value.slice.injEq, Option.some.injEq, Addr.mk.injEq, and_true, true_and] at he
  obtain ⟨rfl, rfl⟩ := he
  have hc0 := h3 k l[k] (List.getElem?_eq_getElem hk)
  refine ⟨hb, ⟨_, hc0⟩, h2 k (by omega), .inr ⟨g, cap, by rw [List.length_set], hb, by simpa using hg, by rw [List.length_set]; exact hl, hc, fun j hj => ?_, fun j hj => ?_, fun j y hy => ?_⟩⟩
  ·by_cases hjk : k = j
   ·subst hjk; rw [World.cell?_setCell_same _ _ _ hc0]; rfl
   ·rw [World.cell?_setCell_other _ _ _ _ (by intro e; simp at e <;> exact hjk e)]; exact h1 j hj
  ·have := h2 j hj
   simpa [go_sem] using this
  ·by_cases hjk : k = j
   ·subst hjk
    rw [World.cell?_setCell_same _ _ _ hc0]
    rw [List.getElem?_set_self hk] at hy
    injection hy with hy
    subst hy
    rfl
   ·rw [World.cell?_setCell_other _ _ _ _ (by intro e; simp at e <;> exact hjk e)]
    rw [List.getElem?_set_ne hjk] at hy
    exact h3 j y hy
theorem Brow.append {w : World} {base : Nat} {v : Value} {l : List UInt8} (h : Brow w base v l) (x : UInt8) (hl : l.length ≤ 1048576) (hbase : base ≤ w.heap.size) :
  ∃ v' w', (Builtin.append_ #[144, 144] 144 #[v, .slice (some ⟨w.heap.size, 0, none⟩) 1 1]).run Tryz.prog (w.alloc (.cells #[byteV x] 5)) = .ok v' w' ∧ Brow w' base v' (l ++ [x]) ∧ Below base w w' := by
 obtain ⟨ht, hinf, hzs, hsz⟩ := byteElem
 obtain ⟨i, hi, hz, hsize, hby⟩ := info_of hinf
 have hnews := cell_one_new w (byteV x) 5
 have hbW : Below base w (w.alloc (.cells #[byteV x] 5)) := (Below.refl _ _).alloc hbase _
 have h1c : ∀ u ∈ [byteV x], u.oneCell' = true := fun u hu => by simp at hu; subst hu; rfl
 have hnew : ∀ (W : World) (old : Nat), old < l.length + 1 → W.heap.size = w.heap.size + 1 → Below base w W → Brow (W.drew.alloc (.cells ((l.map byteV).toArray ++ #[byteV x] ++ Builtin.zeroCells (Value.int .u8 0).cells (grownCap W (l.length + 1) old 5 - (l.length + 1))) 5)) base
   (.slice (some ⟨W.heap.size, 0, none⟩) (l.length + 1) (grownCap W (l.length + 1) old 5)) (l ++ [x]) ∧ Below base w (W.drew.alloc (.cells ((l.map byteV).toArray ++ #[byteV x] ++ Builtin.zeroCells (Value.int .u8 0).cells (grownCap W (l.length + 1) old 5 - (l.length + 1))) 5)) := by
  intro W old ho hs hB
  have hge := grownCap_ge W (l.length + 1) old 5
  have hcm := grownCap_le_maxLen W (l.length + 1) old 5 (by unfold maxLen; omega)
  have hcell := cell_new W.drew ((l.map byteV).toArray ++ #[byteV x] ++ Builtin.zeroCells (Value.int .u8 0).cells (grownCap W (l.length + 1) old 5 - (l.length + 1))) 5
  have hcsz : ((l.map byteV).toArray ++ #[byteV x] ++ Builtin.zeroCells (Value.int .u8 0).cells (grownCap W (l.length + 1) old 5 - (l.length + 1))).size = grownCap W (l.length + 1) old 5 := by
   simp [size_zeroCells]
   have : (Value.int .u8 0).cells.size = 1 := rfl
   rw [this]
   omega
  refine ⟨.inr ⟨W.heap.size, _, by rw [List.length_append]; rfl, by rw [hs]; omega, by simp, by rw [List.length_append]; simpa using hge, hcm, fun j hj => ?_, fun j hj => ?_, fun j y hy => ?_⟩, ?_⟩
  ·have := hcell j
   rw [show W.drew.heap.size = W.heap.size from rfl] at this
   rw [this, Array.getElem?_eq_getElem (by rw [hcsz]; exact hj)]
   rfl
  ·have : (W.drew.alloc (.cells ((l.map byteV).toArray ++ #[byteV x] ++ Builtin.zeroCells (Value.int .u8 0).cells (grownCap W (l.length + 1) old 5 - (l.length + 1))) 5)).heap[W.heap.size]? = _ := heap_alloc_new W.drew _
   simp only [World.frozen?, this]
   simp
  ·have := hcell j
   rw [show W.drew.heap.size = W.heap.size from rfl] at this
   rw [this]
   have hj := (List.getElem?_eq_some_iff.1 hy).1
   rw [List.length_append] at hj
   simp at hj
   have e : ((l.map byteV).toArray ++ #[byteV x]) = ((l ++ [x]).map byteV).toArray := by simp
   rw [e, Array.getElem?_append_left (by simp; omega), List.getElem?_toArray, List.getElem?_map, hy]
   rfl
  ·exact (hB.drew).alloc (by show base ≤ W.heap.size; omega) _
 rcases h with ⟨rfl, rfl⟩ | ⟨g, cap, rfl, hb, hg, hlc, hc, h1, h2, h3⟩
 ·have hr := run_append_nil (P := Tryz.prog) (w.alloc (.cells #[byteV x] 5)) 144 144 5 i (.int .u8 0) ht hi hz ⟨w.heap.size, 0, none⟩ 1 1 [byteV x] (by rw [hsize]; rfl) hnews (by omega) (by omega) (by rw [hby]; omega)
  have hn := hnew (w.alloc (.cells #[byteV x] 5)) 0 (by omega) (by simp) hbW
  simp only [List.map_nil, List.length_nil, Nat.zero_add] at hn
  exact ⟨_, _, hr, by simpa using hn.1, by simpa using hn.2⟩
 ·by_cases hroom : l.length + 1 ≤ cap
  ·have hA := (show Brow w base (.slice (some ⟨g, 0, none⟩) l.length cap) l from .inr ⟨g, cap, rfl, hb, hg, hlc, hc, h1, h2, h3⟩).alloc (.cells #[byteV x] 5)
   rcases hA with ⟨he, _⟩ | ⟨g', cap', he, hb', hg', hlc', hc', k1, k2, k3⟩
   ·simp at he
   ·simp only [Value.slice.injEq, Option.some.injEq, Addr.mk.injEq, and_true, true_and] at he
    obtain ⟨rfl, rfl⟩ := he
    have hr := run_append_room_cells (P := Tryz.prog) (w.alloc (.cells #[byteV x] 5)) 144 144 5 i ht hi g 0 l.length cap ⟨w.heap.size, 0, none⟩ 1 1 [byteV x] (by rw [hsize]; rfl) hnews h1c hroom
     (fun j hj => by simp at hj; subst hj; rw [hsize]; simpa using k1 l.length (by omega)) (fun j hj => by simp at hj; subst hj; rw [hsize]; simpa using k2 l.length (by omega))
    rw [hsize, Nat.mul_one, Nat.zero_add] at hr
    have hset : (w.alloc (.cells #[byteV x] 5)).setCells g l.length [byteV x] = (w.alloc (.cells #[byteV x] 5)).setCell ⟨g, l.length, none⟩ (byteV x) := rfl
    rw [hset] at hr
    obtain ⟨u, hu⟩ := Option.isSome_iff_exists.1 (k1 l.length (by omega))
    refine ⟨_, _, hr, .inr ⟨g, cap, by rw [List.length_append]; rfl, hb, by simpa using hg', by rw [List.length_append]; exact hroom, hc, fun j hj => ?_, fun j hj => ?_, fun j y hy => ?_⟩, hbW.setCell hb _⟩
    ·by_cases hjk : l.length = j
     ·subst hjk; rw [World.cell?_setCell_same _ _ _ hu]; rfl
     ·rw [World.cell?_setCell_other _ _ _ _ (by intro e; simp at e <;> exact hjk e)]; exact k1 j hj
    ·have := k2 j hj
     simpa [go_sem] using this
    ·by_cases hjk : l.length = j
     ·subst hjk
      rw [World.cell?_setCell_same _ _ _ hu]
      simp at hy
      rw [hy]
     ·rw [World.cell?_setCell_other _ _ _ _ (by intro e; simp at e <;> exact hjk e)]
      have hj := (List.getElem?_eq_some_iff.1 hy).1
      rw [List.length_append] at hj
      simp at hj
      rw [List.getElem?_append_left (by omega)] at hy
      exact k3 j y hy
  ·have hr := run_append_grow (P := Tryz.prog) (w.alloc (.cells #[byteV x] 5)) 144 144 5 i (.int .u8 0) ht hi hz ⟨g, 0, none⟩ l.length cap (l.map byteV) (by rw [hsize]; simp)
    (fun j u hu => by
     rw [add_plain', Nat.zero_add, World.cell?_alloc_lt _ _ _ hg]
     rw [List.getElem?_map] at hu
     cases hlj : l[j]? with
     | none => rw [hlj] at hu; cases hu
     | some y => rw [hlj] at hu; injection hu with hu; rw [← hu]; exact h3 j y hlj)
    ⟨w.heap.size, 0, none⟩ 1 1 [byteV x] (by rw [hsize]; rfl) hnews (by omega) (by omega) (growslice_fits (by omega) (by rw [hby]; omega))
   have hn := hnew (w.alloc (.cells #[byteV x] 5)) cap (by omega) (by simp) hbW
   exact ⟨_, _, hr, hn.1, hn.2⟩
end Go.Proofs.YtkhnialfkndiiaaGreat

set_option maxRecDepth 100000
namespace Go.Proofs.YtkhnialfkndiiaaGreat
open Go.RowKit Copyhold
attribute [local go_sem] piece
theorem ref09_Read_ok (s : List UInt8) (a m : Nat) (w : World) (hs : s.length ≤ 1048576) (h : ofOk a m) :
  Calls Tryz.prog 91 #[.string ⟨s.toArray⟩, .int .i64 a, .int .i64 m] w fun e w' => e = .returned (.tuple #[.string ⟨((s.drop a).take m).toArray⟩, .int .i64 0]) ∧ Below w.heap.size w w' := by
 obtain ⟨h1, h2, h3, h4⟩ := h
 go_enter Tryz.func91, Tryz.ntmps91
 go_wp2_with fail
 go_loopw [8, 9] (fun sb si wr => ∃ (k : Nat) (l : List UInt8), si = .int .i64 ((a : Int) + k) ∧ l = (s.drop a).take k ∧ l.length = k ∧ k ≤ m ∧ Brow wr w.heap.size sb l ∧ Below w.heap.size w wr) (fun _ si _ => s.length - (intOf si).toNat)
 case atStart => exact ⟨0, [], by simp, by simp, rfl, Nat.zero_le _, .inl ⟨rfl, rfl⟩, Below.refl _ _⟩
 case round =>
  obtain ⟨k, l, rfl, hl, hlk, hk, hown, hb⟩ := hrel
  have HL := Lib.hid hl
  have HLK := Lib.hid hlk
  have hll : l.length ≤ 1048576 := by rw [hl]; simp; omega
  have HO := Lib.hid hown
  obtain ⟨A, c, rfl⟩ := hown.shape
  rw [hlk]
  clear hl hown
  by_cases hlt : a + k < s.length
  ·by_cases hkm : k < m
   ·obtain ⟨v', w', hrun, hown', hb'⟩ := HO.out.append s[a + k] hll hb.size
    rw [hlk] at hrun
    have hnext : l ++ [s[a + k]] = (s.drop a).take (k + 1) := by
     rw [HL.out, List.take_succ_eq_append_getElem (by simp; omega)]
     simp
    have HN := Lib.hid hnext
    have HO' := Lib.hid hown'
    have HB' := Lib.hid (hb.trans hb')
    have hin : (a : Int) + k < s.length := by omega
    clear hnext hown' hb' hlk
    unfold byteV at hrun
    go_wp2_with (at_builtin; refine wpList_append_run rfl _ _ _ rfl _ _ _ _ rfl rfl hrun ?_)
    go_roundw
    case rel => exact ⟨k + 1, l ++ [s[a + k]], by simp; omega, HN.out, by rw [List.length_append, HLK.out]; rfl, by omega, HO'.out, HB'.out⟩
    case measure => simp [intOf]; omega
   ·have hfin : (s.drop a).take m = l := by rw [HL.out, show k = m from by omega]
    have hbk := HO.out.back
    rw [hlk] at hbk
    have HF := Lib.hid hfin
    clear hfin hlk
    go_wp2_with fail
    go_ret2
    exact ⟨by rw [HF.out]; rfl, hb⟩
  ·have hfin : (s.drop a).take m = l := by
    have h1 := HL.out
    have h2 := HLK.out
    rw [h1] at h2 ⊢
    have h3 : (s.drop a).length ≤ k := by simp; omega
    rw [List.take_of_length_le h3, List.take_of_length_le (by omega)]
   have hbk := HO.out.back
   rw [hlk] at hbk
   have HF := Lib.hid hfin
   have hd : decide ((a : Int) + k < s.length) = false := by simp; omega
   clear hfin hlk
   go_wp2_with fail
   go_ret2
   exact ⟨by rw [HF.out]; rfl, hb⟩
theorem ref09_Read_bad (s : List UInt8) (a m : Int) (w : World) (ha1 : -9223372036854775808 ≤ a) (ha2 : a ≤ 9223372036854775807) (hb1 : -9223372036854775808 ≤ m) (hb2 : m ≤ 9223372036854775807) (h : ¬ ofOk a m) :
  Calls Tryz.prog 91 #[.string ⟨s.toArray⟩, .int .i64 a, .int .i64 m] w fun e w' => e = .returned (.tuple #[.string ⟨#[]⟩, .int .i64 1]) ∧ Below w.heap.size w w' := by
 unfold ofOk at h
 rcases (show a < 0 ∨ 0 ≤ a ∧ 1099511627776 < a ∨ 0 ≤ a ∧ a ≤ 1099511627776 ∧ m < 0 ∨ 0 ≤ a ∧ a ≤ 1099511627776 ∧ 0 ≤ m ∧ 1099511627776 - a < m from by omega) with h1 | ⟨h1, h2⟩ | ⟨h1, h2, h3⟩ | ⟨h1, h2, h3, h4⟩
 all_goals
  clear h
  go_enter Tryz.func91, Tryz.ntmps91
  go_wp2_with fail
  go_ret2
  exact ⟨rfl, Below.refl _ _⟩
theorem ref09_Read (s : List UInt8) (a m : Int) (w : World) (hs : s.length ≤ 1048576) (ha1 : -9223372036854775808 ≤ a) (ha2 : a ≤ 9223372036854775807) (hb1 : -9223372036854775808 ≤ m) (hb2 : m ≤ 9223372036854775807) :
  Calls Tryz.prog 91 #[.string ⟨s.toArray⟩, .int .i64 a, .int .i64 m] w fun e w' => e = .returned (.tuple #[.string ⟨(readD s a m).1.toArray⟩, .int .i64 (readD s a m).2]) ∧ Below w.heap.size w w' := by
 by_cases h : ofOk a m
 ·have hr : readD s a m = ((s.drop a.toNat).take m.toNat, 0) := if_pos h
  rw [hr]
  obtain ⟨h1, h2, _⟩ := id h
  obtain ⟨a, rfl⟩ := Int.eq_ofNat_of_zero_le h1
  obtain ⟨m, rfl⟩ := Int.eq_ofNat_of_zero_le h2
  rw [Int.toNat_natCast, Int.toNat_natCast]
  exact ref09_Read_ok s a m w hs h
 ·have hr : readD s a m = ([], 1) := if_neg h
  rw [hr]
  exact ref09_Read_bad s a m w ha1 ha2 hb1 hb2 h
end Go.Proofs.YtkhnialfkndiiaaGreat

set_option linter.unusedSimpArgs false
set_option maxRecDepth 100000
namespace Go.Proofs.YtkhnialfkndiiaaGreat.dataSplit
open Go.RowKit Copyhold
theorem writeD_ok (l : List UInt8) (a : Nat) (t : List UInt8) (h : a + t.length ≤ 4096) : writeD l a t = (if t = [] then l else putD l a t, 0) := by
 have hr : refusedD a t.length = 0 := by
  unfold refusedD
  rw [if_pos (by omega), if_neg (by omega)]
 unfold writeD
 rw [if_pos hr, Int.toNat_natCast]
theorem get_fillD (l : List UInt8) (n i : Nat) : (fillD l n)[i]? = if i < n then some (l.getD i 0) else none := by
 unfold fillD
 rw [List.getElem?_append, List.length_take]
 by_cases h : i < n
 ·rw [if_pos h]
  by_cases h2 : i < l.length
  ·rw [if_pos (by omega), List.getElem?_take, if_pos h]
   simp [List.getD, h2]
  ·rw [if_neg (by omega), List.getElem?_replicate, if_pos (by omega)]
   simp [List.getD, h2]
 ·rw [if_neg h, if_neg (by omega), List.getElem?_replicate, if_neg (by omega)]
theorem get_putD (l : List UInt8) (a : Nat) (t : List UInt8) (i : Nat) : (putD l a t)[i]? = if i < max l.length (a + t.length) then some (if a ≤ i ∧ i < a + t.length then t.getD (i - a) 0 else l.getD i 0) else none := by
 unfold putD
 generalize hm : max l.length (a + t.length) = m
 rw [List.append_assoc, List.getElem?_append, List.length_take, fillD_length]
 by_cases h : i < a
 ·rw [if_pos (by omega), List.getElem?_take, if_pos h, get_fillD, if_pos (by omega), if_pos (by omega), if_neg (by omega)]
 ·rw [if_neg (by omega), show min a m = a from by omega, List.getElem?_append]
  by_cases h2 : i - a < t.length
  ·rw [if_pos h2, if_pos (by omega), if_pos (by omega)]
   simp [List.getD, h2]
  ·rw [if_neg h2, List.getElem?_drop, show a + t.length + (i - a - t.length) = i from by omega, get_fillD]
   by_cases h3 : i < m
   ·rw [if_pos h3, if_pos h3, if_neg (by omega)]
   ·rw [if_neg h3, if_neg h3]
end Go.Proofs.YtkhnialfkndiiaaGreat.dataSplit

set_option maxRecDepth 100000
namespace Go.Proofs.YtkhnialfkndiiaaGreat
open Go.RowKit Copyhold
attribute [local go_sem] piece
theorem zeros_cut (l : List UInt8) (n j : Nat) (h : n ≤ l.length + j) : (l ++ List.replicate j 0).take n = fillD l n := by
 unfold fillD
 rw [List.take_append, List.take_replicate, show min (n - l.length) j = n - l.length from by omega]
theorem ref09_Cut_ok (s : List UInt8) (n : Nat) (w : World) (hs : s.length ≤ 1048576) (hn : n ≤ 4096) :
  Calls Tryz.prog 92 #[.string ⟨s.toArray⟩, .int .i64 n] w fun e w' => e = .returned (.tuple #[.string ⟨(fillD s n).toArray⟩, .int .i64 0]) ∧ Below w.heap.size w w' := by
 have h0 : (0 : Int) ≤ (n : Int) := by omega
 go_enter Tryz.func92, Tryz.ntmps92
 go_wp2_with fail
 go_loopw [0] (fun so wr => ∃ (l : List UInt8) (j : Nat), so = .string ⟨l.toArray⟩ ∧ l = s ++ List.replicate j 0 ∧ l.length ≤ 2097152 ∧ Below w.heap.size w wr ∧ (j = 0 ∨ s.length + j ≤ n)) (fun so _ => n - (match so with | .string b => b.size | _ => 0))
 case atStart => exact ⟨s, 0, rfl, by simp, by omega, Below.refl _ _, .inl rfl⟩
 case round =>
  obtain ⟨l, j, rfl, hl, hll, hb, hj⟩ := hrel
  have HL := Lib.hid hl
  have hlen : l.length = s.length + j := by rw [hl]; simp
  have HLEN := Lib.hid hlen
  clear hl hlen
  by_cases hlt : l.length < n
  ·have hnext : l ++ [0] = s ++ List.replicate (j + 1) 0 := by rw [HL.out, List.append_assoc, List.replicate_succ']
   have HN := Lib.hid hnext
   clear hnext
   go_wp2_with fail
   go_roundw
   case rel => exact ⟨l ++ [0], j + 1, rfl, HN.out, by rw [List.length_append]; simp; omega, hb, .inr (by have := HLEN.out; omega)⟩
   case measure => simp [ByteArray.size]; omega
  ·have hfin : l.take n = fillD s n := by rw [HL.out]; exact zeros_cut s n j (by have := HLEN.out; omega)
   have HF := Lib.hid hfin
   have hle : (n : Int) ≤ (l.length : Int) := by omega
   clear hfin
   go_wp2_with fail
   go_ret2
   exact ⟨by rw [← HF.out]; rfl, hb⟩
theorem ref09_Cut (s : List UInt8) (n : Int) (w : World) (hs : s.length ≤ 1048576) (h1 : -9223372036854775808 ≤ n) (h2 : n ≤ 9223372036854775807) :
  Calls Tryz.prog 92 #[.string ⟨s.toArray⟩, .int .i64 n] w fun e w' => e = .returned (.tuple #[.string ⟨(cutD s n).1.toArray⟩, .int .i64 (cutD s n).2]) ∧ Below w.heap.size w w' := by
 rcases (show n < 0 ∨ 0 ≤ n ∧ 1099511627776 < n ∨ 0 ≤ n ∧ n ≤ 1099511627776 ∧ 4096 < n ∨ 0 ≤ n ∧ n ≤ 4096 from by omega) with h | ⟨h, h'⟩ | ⟨h, h', h''⟩ | ⟨h, h'⟩
 ·have hr : refusedD 0 n = 1 := by unfold refusedD; rw [if_neg (by omega)]
  have hc : cutD s n = (s, 1) := by unfold cutD; rw [hr]; rfl
  rw [hc]
  clear hr hc
  go_enter Tryz.func92, Tryz.ntmps92
  go_wp2_with fail
  go_ret2
  exact ⟨rfl, Below.refl _ _⟩
 ·have hr : refusedD 0 n = 1 := by unfold refusedD; rw [if_neg (by omega)]
  have hc : cutD s n = (s, 1) := by unfold cutD; rw [hr]; rfl
  rw [hc]
  clear hr hc
  go_enter Tryz.func92, Tryz.ntmps92
  go_wp2_with fail
  go_ret2
  exact ⟨rfl, Below.refl _ _⟩
 ·have hr : refusedD 0 n = 5 := by unfold refusedD; rw [if_pos (by omega), if_pos (by omega)]
  have hc : cutD s n = (s, 5) := by unfold cutD; rw [hr]; rfl
  rw [hc]
  clear hr hc
  go_enter Tryz.func92, Tryz.ntmps92
  go_wp2_with fail
  go_ret2
  exact ⟨rfl, Below.refl _ _⟩
 ·obtain ⟨n, rfl⟩ := Int.eq_ofNat_of_zero_le h
  have hr : refusedD 0 (n : Int) = 0 := by unfold refusedD; rw [if_pos (by omega), if_neg (by omega)]
  have hc : cutD s n = (fillD s n, 0) := by unfold cutD; rw [if_pos hr, Int.toNat_natCast]
  rw [hc]
  exact ref09_Cut_ok s n w hs (by omega)
end Go.Proofs.YtkhnialfkndiiaaGreat
