/- Clients among a law's arguments: what they read as. -/
import Derived.Test.YtpdedjbkfcaebaaCliN9
import Derived.Test.YtpdedjbkfcaebaaRows
import Derived.Test.YtpdedjbkfcaebaaLawOf
set_option linter.unusedVariables false
set_option linter.unusedSimpArgs false
namespace Go.Proofs.Ytpdedjbkfcaebaa
open Go.RowKit Go.ChangeShapes Go.WideShapes Go.ChangeAt Copyhold
set_option maxRecDepth 100000 in
set_option maxHeartbeats 1000000 in
theorem open_cals {H : Type} {enc : TypeId × Value → H} {W : World} {fuel : Nat} {cs : List Value} {x : DataW H × List MemPlace}
    (h : DataW.trod enc Try.prog W 0 (fun _ => true) true fuel 51 cs = some x) (hlt : ∀ p ∈ x.2, p.block < W.heap.size) (hw : ∀ n ∈ DataW.weights Try.prog 51 x.1, n ≤ 140737488351232) :
    ∃ (v : Value) (rs : List (Cal)), cs = [v] ∧ CalsIn W v rs ∧ rs.length ≤ 8796093022207 := by
  obtain ⟨v, rs, hv, hr, hd⟩ := open_slice_of (k := 8) (R := CalR) Try.underlying51 (by kernel_rfl) (by decide) (⟨0, 0, 0, 0, 0, [], [], []⟩ : Cal) (fun n cs' y hy hl hc hww => by
    have hhelp : True := trivial
    obtain ⟨xs, m, _, hx, _, hlen, hfl⟩ := DataW.trod_struct Try.underlying36 hy
    obtain ⟨y0, y1, y2, y3, y4, y5, y6, y7, rfl⟩ := list8 hlen
    obtain ⟨c0, c1, c2, c3, c4, c5, c6, c7, rfl⟩ := list8 hc
    have g0 : DataW.trod enc Try.prog W 0 (fun _ => true) true m 3 [c0] = some y0 := by have h := hfl 0 _ rfl; simpa [show Try.prog.cellsOf 3 = 1 from by kernel_rfl, show Try.prog.cellsOf 9 = 1 from by kernel_rfl] using h
    have g1 : DataW.trod enc Try.prog W 0 (fun _ => true) true m 3 [c1] = some y1 := by have h := hfl 1 _ rfl; simpa [show Try.prog.cellsOf 3 = 1 from by kernel_rfl, show Try.prog.cellsOf 9 = 1 from by kernel_rfl] using h
    have g2 : DataW.trod enc Try.prog W 0 (fun _ => true) true m 3 [c2] = some y2 := by have h := hfl 2 _ rfl; simpa [show Try.prog.cellsOf 3 = 1 from by kernel_rfl, show Try.prog.cellsOf 9 = 1 from by kernel_rfl] using h
    have g3 : DataW.trod enc Try.prog W 0 (fun _ => true) true m 3 [c3] = some y3 := by have h := hfl 3 _ rfl; simpa [show Try.prog.cellsOf 3 = 1 from by kernel_rfl, show Try.prog.cellsOf 9 = 1 from by kernel_rfl] using h
    have g4 : DataW.trod enc Try.prog W 0 (fun _ => true) true m 3 [c4] = some y4 := by have h := hfl 4 _ rfl; simpa [show Try.prog.cellsOf 3 = 1 from by kernel_rfl, show Try.prog.cellsOf 9 = 1 from by kernel_rfl] using h
    have g5 : DataW.trod enc Try.prog W 0 (fun _ => true) true m 9 [c5] = some y5 := by have h := hfl 5 _ rfl; simpa [show Try.prog.cellsOf 3 = 1 from by kernel_rfl, show Try.prog.cellsOf 9 = 1 from by kernel_rfl] using h
    have g6 : DataW.trod enc Try.prog W 0 (fun _ => true) true m 9 [c6] = some y6 := by have h := hfl 6 _ rfl; simpa [show Try.prog.cellsOf 3 = 1 from by kernel_rfl, show Try.prog.cellsOf 9 = 1 from by kernel_rfl] using h
    have g7 : DataW.trod enc Try.prog W 0 (fun _ => true) true m 9 [c7] = some y7 := by have h := hfl 7 _ rfl; simpa [show Try.prog.cellsOf 3 = 1 from by kernel_rfl, show Try.prog.cellsOf 9 = 1 from by kernel_rfl] using h
    subst hx
    obtain ⟨a0, e0, _, w0⟩ := DataW.trod_int Try.underlying3 g0
    obtain ⟨a1, e1, _, w1⟩ := DataW.trod_int Try.underlying3 g1
    obtain ⟨a2, e2, _, w2⟩ := DataW.trod_int Try.underlying3 g2
    obtain ⟨a3, e3, _, w3⟩ := DataW.trod_int Try.underlying3 g3
    obtain ⟨a4, e4, _, w4⟩ := DataW.trod_int Try.underlying3 g4
    obtain ⟨s5, e5, ey5, _⟩ := DataW.trod_string Try.underlying9 g5
    have w5 : s5.data.toList.length ≤ 140737488351232 := hww _ (by simp [DataW.weightsEach, DataW.weights, ey5, Try.underlying36])
    obtain ⟨a5, rfl⟩ : ∃ l : List UInt8, s5 = ⟨l.toArray⟩ := ⟨s5.data.toList, rfl⟩
    obtain ⟨s6, e6, ey6, _⟩ := DataW.trod_string Try.underlying9 g6
    have w6 : s6.data.toList.length ≤ 140737488351232 := hww _ (by simp [DataW.weightsEach, DataW.weights, ey6, Try.underlying36])
    obtain ⟨a6, rfl⟩ : ∃ l : List UInt8, s6 = ⟨l.toArray⟩ := ⟨s6.data.toList, rfl⟩
    obtain ⟨s7, e7, ey7, _⟩ := DataW.trod_string Try.underlying9 g7
    have w7 : s7.data.toList.length ≤ 140737488351232 := hww _ (by simp [DataW.weightsEach, DataW.weights, ey7, Try.underlying36])
    obtain ⟨a7, rfl⟩ : ∃ l : List UInt8, s7 = ⟨l.toArray⟩ := ⟨s7.data.toList, rfl⟩
    simp only [List.cons.injEq, and_true] at e0 e1 e2 e3 e4 e5 e6 e7
    subst e0 e1 e2 e3 e4 e5 e6 e7
    exact ⟨⟨a0, a1, a2, a3, a4, a5, a6, a7⟩, rfl, ⟨I64_of w0, I64_of w1, I64_of w2, I64_of w3, I64_of w4⟩, w5, w6, w7⟩) h hlt hw
  have hby : 16 ≤ Try.prog.bytesOf 36 := Nat.le_of_ble_eq_true (by kernel_rfl)
  have hsz := rows_sized Try.underlying51 hd hw
  have := Nat.le_trans (Nat.mul_le_mul_left rs.length hby) hsz
  exact ⟨v, rs, hv, hr, by omega⟩
set_option maxRecDepth 100000 in
set_option maxHeartbeats 1000000 in
theorem open_jobs {H : Type} {enc : TypeId × Value → H} {W : World} {fuel : Nat} {cs : List Value} {x : DataW H × List MemPlace}
    (h : DataW.trod enc Try.prog W 0 (fun _ => true) true fuel 22 cs = some x) (hlt : ∀ p ∈ x.2, p.block < W.heap.size) (hw : ∀ n ∈ DataW.weights Try.prog 22 x.1, n ≤ 140737488351232) :
    ∃ (v : Value) (rs : List (List Cal)), cs = [v] ∧ JobsIn W v rs ∧ rs.length ≤ 8796093022207 := by
  obtain ⟨v, rs, hv, hr, hd⟩ := open_slice_of (k := 1) (R := JobR W) Try.underlying22 (by kernel_rfl) (by decide) ([] : List Cal) (fun n cs' y hy hl hc hww => by
    have hhelp : True := trivial
    obtain ⟨c0, rfl⟩ := List.length_eq_one_iff.1 hc
    have g0 := hy
    have hw0 := hww
    obtain ⟨u0, a0, e0, r0, w0⟩ := open_cals g0 (fun p hp => (hl p hp)) hw0
    simp only [List.cons.injEq, and_true] at e0
    subst e0
    exact ⟨a0, _, rfl, r0, w0⟩) h hlt hw
  have hby : 16 ≤ Try.prog.bytesOf 51 := Nat.le_of_ble_eq_true (by kernel_rfl)
  have hsz := rows_sized Try.underlying22 hd hw
  have := Nat.le_trans (Nat.mul_le_mul_left rs.length hby) hsz
  exact ⟨v, rs, hv, hr, by omega⟩
set_option maxRecDepth 100000 in
set_option maxHeartbeats 1000000 in
theorem open_reps {H : Type} {enc : TypeId × Value → H} {W : World} {fuel : Nat} {cs : List Value} {x : DataW H × List MemPlace}
    (h : DataW.trod enc Try.prog W 0 (fun _ => true) true fuel 24 cs = some x) (hlt : ∀ p ∈ x.2, p.block < W.heap.size) (hw : ∀ n ∈ DataW.weights Try.prog 24 x.1, n ≤ 140737488351232) :
    ∃ (v : Value) (rs : List (Rep)), cs = [v] ∧ RepsIn W v rs ∧ rs.length ≤ 8796093022207 := by
  obtain ⟨v, rs, hv, hr, hd⟩ := open_slice_of (k := 6) (R := RepR W) Try.underlying24 (by kernel_rfl) (by decide) (⟨0, 0, 0, 0, [], []⟩ : Rep) (fun n cs' y hy hl hc hww => by
    have hhelp : True := trivial
    obtain ⟨xs, m, _, hx, _, hlen, hfl⟩ := DataW.trod_struct Try.underlying30 hy
    obtain ⟨y0, y1, y2, y3, y4, y5, rfl⟩ := list6 hlen
    obtain ⟨c0, c1, c2, c3, c4, c5, rfl⟩ := list6 hc
    have g0 : DataW.trod enc Try.prog W 0 (fun _ => true) true m 27 [c0] = some y0 := by have h := hfl 0 _ rfl; simpa [show Try.prog.cellsOf 28 = 1 from by kernel_rfl, show Try.prog.cellsOf 27 = 1 from by kernel_rfl, show Try.prog.cellsOf 3 = 1 from by kernel_rfl, show Try.prog.cellsOf 9 = 1 from by kernel_rfl] using h
    have g1 : DataW.trod enc Try.prog W 0 (fun _ => true) true m 3 [c1] = some y1 := by have h := hfl 1 _ rfl; simpa [show Try.prog.cellsOf 28 = 1 from by kernel_rfl, show Try.prog.cellsOf 27 = 1 from by kernel_rfl, show Try.prog.cellsOf 3 = 1 from by kernel_rfl, show Try.prog.cellsOf 9 = 1 from by kernel_rfl] using h
    have g2 : DataW.trod enc Try.prog W 0 (fun _ => true) true m 3 [c2] = some y2 := by have h := hfl 2 _ rfl; simpa [show Try.prog.cellsOf 28 = 1 from by kernel_rfl, show Try.prog.cellsOf 27 = 1 from by kernel_rfl, show Try.prog.cellsOf 3 = 1 from by kernel_rfl, show Try.prog.cellsOf 9 = 1 from by kernel_rfl] using h
    have g3 : DataW.trod enc Try.prog W 0 (fun _ => true) true m 3 [c3] = some y3 := by have h := hfl 3 _ rfl; simpa [show Try.prog.cellsOf 28 = 1 from by kernel_rfl, show Try.prog.cellsOf 27 = 1 from by kernel_rfl, show Try.prog.cellsOf 3 = 1 from by kernel_rfl, show Try.prog.cellsOf 9 = 1 from by kernel_rfl] using h
    have g4 : DataW.trod enc Try.prog W 0 (fun _ => true) true m 9 [c4] = some y4 := by have h := hfl 4 _ rfl; simpa [show Try.prog.cellsOf 28 = 1 from by kernel_rfl, show Try.prog.cellsOf 27 = 1 from by kernel_rfl, show Try.prog.cellsOf 3 = 1 from by kernel_rfl, show Try.prog.cellsOf 9 = 1 from by kernel_rfl] using h
    have g5 : DataW.trod enc Try.prog W 0 (fun _ => true) true m 28 [c5] = some y5 := by have h := hfl 5 _ rfl; simpa [show Try.prog.cellsOf 28 = 1 from by kernel_rfl, show Try.prog.cellsOf 27 = 1 from by kernel_rfl, show Try.prog.cellsOf 3 = 1 from by kernel_rfl, show Try.prog.cellsOf 9 = 1 from by kernel_rfl] using h
    subst hx
    obtain ⟨a0, e0, _, w0⟩ := DataW.trod_int Try.underlying27 g0
    obtain ⟨a1, e1, _, w1⟩ := DataW.trod_int Try.underlying3 g1
    obtain ⟨a2, e2, _, w2⟩ := DataW.trod_int Try.underlying3 g2
    obtain ⟨a3, e3, _, w3⟩ := DataW.trod_int Try.underlying3 g3
    obtain ⟨s4, e4, ey4, _⟩ := DataW.trod_string Try.underlying9 g4
    have w4 : s4.data.toList.length ≤ 140737488351232 := hww _ (by simp [DataW.weightsEach, DataW.weights, ey4, Try.underlying30])
    obtain ⟨a4, rfl⟩ : ∃ l : List UInt8, s4 = ⟨l.toArray⟩ := ⟨s4.data.toList, rfl⟩
    have hw5 : ∀ n ∈ DataW.weights Try.prog 28 y5.1, n ≤ 140737488351232 := fun n hn => hww n (by simp [DataW.weightsEach, DataW.weights, Try.underlying30, hn])
    obtain ⟨u5, a5, e5, r5, d5⟩ := open_texts_at Try.underlying28 Try.underlying9 (by kernel_rfl) g5 (fun p hp => (hl p (by simp [hp])))
    have w5 := texts_sized Try.underlying28 (by kernel_rfl) d5 hw5
    simp only [List.cons.injEq, and_true] at e0 e1 e2 e3 e4 e5
    subst e0 e1 e2 e3 e4 e5
    exact ⟨⟨a0, a1, a2, a3, a4, a5⟩, _, rfl, r5, ⟨I64_of w0, I64_of w1, I64_of w2, I64_of w3⟩, w4, w5.1, w5.2⟩) h hlt hw
  have hby : 16 ≤ Try.prog.bytesOf 30 := Nat.le_of_ble_eq_true (by kernel_rfl)
  have hsz := rows_sized Try.underlying24 hd hw
  have := Nat.le_trans (Nat.mul_le_mul_left rs.length hby) hsz
  exact ⟨v, rs, hv, hr, by omega⟩
set_option maxRecDepth 100000 in
set_option maxHeartbeats 1000000 in
theorem open_dones {H : Type} {enc : TypeId × Value → H} {W : World} {fuel : Nat} {cs : List Value} {x : DataW H × List MemPlace}
    (h : DataW.trod enc Try.prog W 0 (fun _ => true) true fuel 23 cs = some x) (hlt : ∀ p ∈ x.2, p.block < W.heap.size) (hw : ∀ n ∈ DataW.weights Try.prog 23 x.1, n ≤ 140737488351232) :
    ∃ (v : Value) (rs : List (Don)), cs = [v] ∧ DonsIn W v rs ∧ rs.length ≤ 8796093022207 := by
  obtain ⟨v, rs, hv, hr, hd⟩ := open_slice_of (k := 4) (R := DonR W) Try.underlying23 (by kernel_rfl) (by decide) (⟨0, false, 0, []⟩ : Don) (fun n cs' y hy hl hc hww => by
    have hhelp : True := trivial
    obtain ⟨xs, m, _, hx, _, hlen, hfl⟩ := DataW.trod_struct Try.underlying53 hy
    obtain ⟨y0, y1, y2, y3, rfl⟩ := list4 hlen
    obtain ⟨c0, c1, c2, c3, rfl⟩ := list4 hc
    have g0 : DataW.trod enc Try.prog W 0 (fun _ => true) true m 3 [c0] = some y0 := by have h := hfl 0 _ rfl; simpa [show Try.prog.cellsOf 24 = 1 from by kernel_rfl, show Try.prog.cellsOf 4 = 1 from by kernel_rfl, show Try.prog.cellsOf 27 = 1 from by kernel_rfl, show Try.prog.cellsOf 3 = 1 from by kernel_rfl] using h
    have g1 : DataW.trod enc Try.prog W 0 (fun _ => true) true m 4 [c1] = some y1 := by have h := hfl 1 _ rfl; simpa [show Try.prog.cellsOf 24 = 1 from by kernel_rfl, show Try.prog.cellsOf 4 = 1 from by kernel_rfl, show Try.prog.cellsOf 27 = 1 from by kernel_rfl, show Try.prog.cellsOf 3 = 1 from by kernel_rfl] using h
    have g2 : DataW.trod enc Try.prog W 0 (fun _ => true) true m 27 [c2] = some y2 := by have h := hfl 2 _ rfl; simpa [show Try.prog.cellsOf 24 = 1 from by kernel_rfl, show Try.prog.cellsOf 4 = 1 from by kernel_rfl, show Try.prog.cellsOf 27 = 1 from by kernel_rfl, show Try.prog.cellsOf 3 = 1 from by kernel_rfl] using h
    have g3 : DataW.trod enc Try.prog W 0 (fun _ => true) true m 24 [c3] = some y3 := by have h := hfl 3 _ rfl; simpa [show Try.prog.cellsOf 24 = 1 from by kernel_rfl, show Try.prog.cellsOf 4 = 1 from by kernel_rfl, show Try.prog.cellsOf 27 = 1 from by kernel_rfl, show Try.prog.cellsOf 3 = 1 from by kernel_rfl] using h
    subst hx
    obtain ⟨a0, e0, _, w0⟩ := DataW.trod_int Try.underlying3 g0
    obtain ⟨a1, e1, _⟩ := DataW.trod_bool Try.underlying4 g1
    obtain ⟨a2, e2, _, w2⟩ := DataW.trod_int Try.underlying27 g2
    have hw3 : ∀ n ∈ DataW.weights Try.prog 24 y3.1, n ≤ 140737488351232 := fun n hn => hww n (by simp [DataW.weightsEach, DataW.weights, Try.underlying53, hn])
    obtain ⟨u3, a3, e3, r3, w3⟩ := open_reps g3 (fun p hp => (hl p (by simp [hp]))) hw3
    simp only [List.cons.injEq, and_true] at e0 e1 e2 e3
    subst e0 e1 e2 e3
    exact ⟨⟨a0, a1, a2, a3⟩, _, rfl, r3, w3, I64_of w0, I64_of w2⟩) h hlt hw
  have hby : 16 ≤ Try.prog.bytesOf 53 := Nat.le_of_ble_eq_true (by kernel_rfl)
  have hsz := rows_sized Try.underlying23 hd hw
  have := Nat.le_trans (Nat.mul_le_mul_left rs.length hby) hsz
  exact ⟨v, rs, hv, hr, by omega⟩
end Go.Proofs.Ytpdedjbkfcaebaa
