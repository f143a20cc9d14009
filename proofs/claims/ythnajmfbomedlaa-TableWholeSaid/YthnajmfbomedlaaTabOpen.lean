/- Rows of layer 14 among the arguments: what they read as. -/
import Derived.Test.YthnajmfbomedlaaRows
import Derived.Test.YthnajmfbomedlaaLawOf
set_option linter.unusedVariables false
namespace Go.Proofs.Ythnajmfbomedlaa
open Go.RowKit Go.ChangeShapes Go.WideShapes Go.ChangeAt Copyhold

/-- a client's row -/
structure TRow where
  client : Int
  epoch : Int
  done : Int
  l : List (Int × Bool)

def i64ok (z : Int) : Prop := -9223372036854775808 ≤ z ∧ z ≤ 9223372036854775807
theorem i64ok_of {z : Int} (w : (Lit.int .i64 z).wf = true) : i64ok z := by
  simpa [i64ok, Lit.wf, IntKind.min, IntKind.max, IntKind.signed, IntKind.bits] using w

/-- a decision's cells -/
def DecR (d : Int × Bool) (cs : List Value) : Prop := cs = [.int .i64 d.1, .bool d.2] ∧ i64ok d.1
/-- a row's cells -/
def RowR (w : World) (r : TRow) (cs : List Value) : Prop :=
  ∃ lv, cs = [.int .i64 r.client, .int .i64 r.epoch, .int .i64 r.done, lv] ∧ SlOf DecR w 2 lv r.l ∧ r.l.length ≤ 8796093022207 ∧ i64ok r.client ∧ i64ok r.epoch ∧ i64ok r.done

theorem RowR.below {w w' : World} {r : TRow} {cs : List Value} (h : RowR w r cs) (hb : Below w.heap.size w w') : RowR w' r cs := by
  obtain ⟨lv, h1, h2, h3⟩ := h
  exact ⟨lv, h1, h2.below hb, h3⟩

/-- rows in memory -/
def RowsIn (w : World) (v : Value) (rs : List TRow) : Prop := SlOf (RowR w) w 4 v rs
theorem RowsIn.below {w w' : World} {v : Value} {rs : List TRow} (h : RowsIn w v rs) (hb : Below w.heap.size w w') : RowsIn w' v rs :=
  (SlOf.below h hb).mono fun _ _ hr => hr.below hb

theorem cellsInt : Try.prog.cellsOf 3 = 1 := by kernel_rfl
theorem cellsBool : Try.prog.cellsOf 4 = 1 := by kernel_rfl
theorem cellsDecs : Try.prog.cellsOf 61 = 1 := by kernel_rfl

theorem open_decs {H : Type} {enc : TypeId × Value → H} {W : World} {fuel : Nat} {cs : List Value} {x : DataW H × List MemPlace}
    (h : DataW.trod enc Try.prog W 0 (fun _ => true) true fuel 61 cs = some x) (hlt : ∀ p ∈ x.2, p.block < W.heap.size) (hw : ∀ n ∈ DataW.weights Try.prog 61 x.1, n ≤ 140737488351232) :
    ∃ (v : Value) (xs : List (Int × Bool)), cs = [v] ∧ SlOf DecR W 2 v xs ∧ rowsD x.1 xs.length := by
  refine open_slice_of Try.underlying61 (by kernel_rfl) (by decide) ((0, false) : Int × Bool) (fun n cs' y hy hl hc hww => ?_) h hlt hw
  obtain ⟨xs, m, _, hx, _, hlen, hfl⟩ := DataW.trod_struct Try.underlying65 hy
  obtain ⟨y0, y1, rfl⟩ := list2 hlen
  obtain ⟨c0, c1, rfl⟩ := list2 hc
  have g0 : DataW.trod enc Try.prog W 0 (fun _ => true) true m 3 [c0] = some y0 := by have h := hfl 0 _ rfl; simpa [cellsInt] using h
  have g1 : DataW.trod enc Try.prog W 0 (fun _ => true) true m 4 [c1] = some y1 := by have h := hfl 1 _ rfl; simpa [cellsBool] using h
  obtain ⟨s, e0, _, w0⟩ := DataW.trod_int Try.underlying3 g0
  obtain ⟨b, e1, _⟩ := DataW.trod_bool Try.underlying4 g1
  simp only [List.cons.injEq, and_true] at e0 e1
  subst e0 e1
  exact ⟨(s, b), rfl, i64ok_of w0⟩

theorem open_rows {H : Type} {enc : TypeId × Value → H} {W : World} {fuel : Nat} {cs : List Value} {x : DataW H × List MemPlace}
    (h : DataW.trod enc Try.prog W 0 (fun _ => true) true fuel 22 cs = some x) (hlt : ∀ p ∈ x.2, p.block < W.heap.size) (hw : ∀ n ∈ DataW.weights Try.prog 22 x.1, n ≤ 140737488351232) :
    ∃ (v : Value) (rs : List TRow), cs = [v] ∧ RowsIn W v rs ∧ rowsD x.1 rs.length := by
  refine open_slice_of (R := RowR W) Try.underlying22 (by kernel_rfl) (by decide) (⟨0, 0, 0, []⟩ : TRow) (fun n cs' y hy hl hc hww => ?_) h hlt hw
  obtain ⟨xs, m, _, hx, _, hlen, hfl⟩ := DataW.trod_struct Try.underlying63 hy
  obtain ⟨y0, y1, y2, y3, rfl⟩ := list4 hlen
  obtain ⟨c0, c1, c2, c3, rfl⟩ := list4 hc
  have g0 : DataW.trod enc Try.prog W 0 (fun _ => true) true m 3 [c0] = some y0 := by have h := hfl 0 _ rfl; simpa [cellsInt] using h
  have g1 : DataW.trod enc Try.prog W 0 (fun _ => true) true m 3 [c1] = some y1 := by have h := hfl 1 _ rfl; simpa [cellsInt] using h
  have g2 : DataW.trod enc Try.prog W 0 (fun _ => true) true m 3 [c2] = some y2 := by have h := hfl 2 _ rfl; simpa [cellsInt] using h
  have g3 : DataW.trod enc Try.prog W 0 (fun _ => true) true m 61 [c3] = some y3 := by have h := hfl 3 _ rfl; simpa [cellsDecs] using h
  subst hx
  obtain ⟨a, e0, _, w0⟩ := DataW.trod_int Try.underlying3 g0
  obtain ⟨b, e1, _, w1⟩ := DataW.trod_int Try.underlying3 g1
  obtain ⟨c, e2, _, w2⟩ := DataW.trod_int Try.underlying3 g2
  have hw3 : ∀ n ∈ DataW.weights Try.prog 61 y3.1, n ≤ 140737488351232 := fun n hn => hww n (by simp [DataW.weightsEach, DataW.weights, Try.underlying63, hn])
  obtain ⟨lv, ds, e3, hsl, hd⟩ := open_decs g3 (fun p hp => hl p (by simp [hp])) hw3
  simp only [List.cons.injEq, and_true] at e0 e1 e2 e3
  subst e0 e1 e2 e3
  have hsz := rows_sized Try.underlying61 hd hw3
  have hby : Try.prog.bytesOf 65 = 16 := by kernel_rfl
  rw [hby] at hsz
  exact ⟨⟨a, b, c, ds⟩, _, rfl, hsl, by simp only; omega, i64ok_of w0, i64ok_of w1, i64ok_of w2⟩
end Go.Proofs.Ythnajmfbomedlaa
