/- copyholdref11.Same, copyholdref15.Same: the document's own answers; old memory is as it was. -/
import Derived.Test.YtpojhcpkmpbflaaWireLay2
import Derived.Test.YtpojhcpkmpbflaaRef01Rows
set_option linter.unusedVariables false
set_option linter.unusedSimpArgs false
namespace Go.Proofs.Ytpojhcpkmpbflaa
open Go.RowKit Copyhold

theorem same_texts (xs ys : List (List UInt8)) : sameTexts xs ys = true ↔ xs = ys := by
  unfold sameTexts
  simp
def sameP (x y : RspW) : Bool := sameTexts x.names y.names && (x.e == y.e && (x.a == y.a && (x.b == y.b && (x.rn == y.rn && x.text == y.text))))
def sameR (x y : RspW) : Bool := sameP x y && (x.kind == y.kind && (x.client == y.client && (x.epoch == y.epoch && (x.seq == y.seq && x.n == y.n))))
theorem sameR_iff (x y : RspW) : sameR x y = true ↔ x = y := by
  obtain ⟨a1, a2, a3, a4, a5, a6, a7, a8, a9, a10, a11⟩ := x
  obtain ⟨b1, b2, b3, b4, b5, b6, b7, b8, b9, b10, b11⟩ := y
  unfold sameR sameP
  simp only [Bool.and_eq_true, same_texts, beq_iff_eq, RspW.mk.injEq]
  exact ⟨fun ⟨⟨h1, h2, h3, h4, h5, h6⟩, h7, h8, h9, h10, h11⟩ => ⟨h7, h8, h9, h10, h11, h2, h3, h4, h5, h6, h1⟩, fun ⟨h7, h8, h9, h10, h11, h2, h3, h4, h5, h6, h1⟩ => ⟨⟨h1, h2, h3, h4, h5, h6⟩, h7, h8, h9, h10, h11⟩⟩

/-- the six fields of a reply -/
structure RepW where
  e : Int
  a : Int
  b : Int
  n : Int
  text : List UInt8
  names : List (List UInt8)
def sameQ (x y : RepW) : Bool := sameTexts x.names y.names && (x.e == y.e && (x.a == y.a && (x.b == y.b && (x.n == y.n && x.text == y.text))))
def repCells (x : RepW) (lv : Value) : Array Value := #[.int .i64 x.e, .int .i64 x.a, .int .i64 x.b, .int .i64 x.n, .string ⟨x.text.toArray⟩, lv]
def RepV (w : World) (v : Value) (x : RepW) : Prop := ∃ A c, v = .agg (repCells x (.slice A x.names.length c)) ∧ Row w (.slice A x.names.length c) (x.names.map strV)
set_option maxRecDepth 100000 in
set_option maxHeartbeats 8000000 in
theorem ref11_Same (x y : RepW) (vx vy : Value) (w : World) (hx : RepV w vx x) (hy : RepV w vy y) (hlx : x.names.length ≤ 2147483648) (hly : y.names.length ≤ 2147483648) :
    Calls Try.prog 37 #[vx, vy] w fun e w' => e = .returned (.bool (sameQ x y)) ∧ Below w.heap.size w w' := by
  obtain ⟨xA, xc, rfl, hrx⟩ := hx
  obtain ⟨yA, yc, rfl, hry⟩ := hy
  obtain ⟨xe, xa, xb, xn, xt, xl⟩ := x
  obtain ⟨ye, ya, yb, yn, yt, yl⟩ := y
  simp only at hrx hry hlx hly
  have HS := Lib.hid (fun W (h : Below w.heap.size w W) => ref_Strings _ _ xl yl W (hrx.below h) (hry.below h) hlx hly)
  clear hrx hry
  unfold repCells
  simp only
  cases hs : sameTexts xl yl with
  | false =>
    have HR := Lib.hid (show sameQ ⟨xe, xa, xb, xn, xt, xl⟩ ⟨ye, ya, yb, yn, yt, yl⟩ = false from by unfold sameQ; simp [hs])
    rw [hs] at HS
    clear hs
    obtain ⟨W0, hW0⟩ : ∃ W0, W0 = (w.alloc (.cells #[.int .i64 xe, .int .i64 xa, .int .i64 xb, .int .i64 xn, .string ⟨xt.toArray⟩, .slice xA xl.length xc] 29)).alloc (.cells #[.int .i64 ye, .int .i64 ya, .int .i64 yb, .int .i64 yn, .string ⟨yt.toArray⟩, .slice yA yl.length yc] 29) := ⟨_, rfl⟩
    have hb0 : Below w.heap.size w W0 := by rw [hW0]; exact ((Below.refl _ _).alloc (Nat.le_refl _) _).alloc (by simp) _
    have ta : TBox W0 w.heap.size 29 #[.int .i64 xe, .int .i64 xa, .int .i64 xb, .int .i64 xn, .string ⟨xt.toArray⟩, .slice xA xl.length xc] := by rw [hW0]; exact (TBox.new _ _ _).below ((Below.refl _ _).alloc (Nat.le_refl _) _)
    have tb : TBox W0 (w.heap.size + 1) 29 #[.int .i64 ye, .int .i64 ya, .int .i64 yb, .int .i64 yn, .string ⟨yt.toArray⟩, .slice yA yl.length yc] := by
      rw [hW0]
      have h := TBox.new (w.alloc (.cells #[.int .i64 xe, .int .i64 xa, .int .i64 xb, .int .i64 xn, .string ⟨xt.toArray⟩, .slice xA xl.length xc] 29)) 29 #[.int .i64 ye, .int .i64 ya, .int .i64 yb, .int .i64 yn, .string ⟨yt.toArray⟩, .slice yA yl.length yc]
      rw [show (w.alloc (.cells #[.int .i64 xe, .int .i64 xa, .int .i64 xb, .int .i64 xn, .string ⟨xt.toArray⟩, .slice xA xl.length xc] 29)).heap.size = w.heap.size + 1 from by simp] at h
      exact h
    have HA := Lib.hid ta
    have HB := Lib.hid tb
    have BW := Lib.hid hb0
    have HW := Lib.hid hW0
    clear hW0 hb0 ta tb
    go_enter Try.func37, Try.ntmps37
    go_wp2_with fail
    rw [← HW.out]
    refine (HS.out _ BW.out).mono ?_
    rintro e w1 ⟨rfl, hb⟩
    have HB1 := Lib.hid (below_trans BW.out hb BW.out.size)
    have c0 : w1.cell? ⟨w.heap.size, 0, none⟩ = some (.int .i64 xe) := (HA.out.below hb).cell 0
    have c1 : w1.cell? ⟨w.heap.size, 1, none⟩ = some (.int .i64 xa) := (HA.out.below hb).cell 1
    have c2 : w1.cell? ⟨w.heap.size, 2, none⟩ = some (.int .i64 xb) := (HA.out.below hb).cell 2
    have c3 : w1.cell? ⟨w.heap.size, 3, none⟩ = some (.int .i64 xn) := (HA.out.below hb).cell 3
    have c4 : w1.cell? ⟨w.heap.size, 4, none⟩ = some (.string ⟨xt.toArray⟩) := (HA.out.below hb).cell 4
    have c5 : w1.cell? ⟨w.heap.size, 5, none⟩ = some (.slice xA xl.length xc) := (HA.out.below hb).cell 5
    have d0 : w1.cell? ⟨w.heap.size + 1, 0, none⟩ = some (.int .i64 ye) := (HB.out.below hb).cell 0
    have d1 : w1.cell? ⟨w.heap.size + 1, 1, none⟩ = some (.int .i64 ya) := (HB.out.below hb).cell 1
    have d2 : w1.cell? ⟨w.heap.size + 1, 2, none⟩ = some (.int .i64 yb) := (HB.out.below hb).cell 2
    have d3 : w1.cell? ⟨w.heap.size + 1, 3, none⟩ = some (.int .i64 yn) := (HB.out.below hb).cell 3
    have d4 : w1.cell? ⟨w.heap.size + 1, 4, none⟩ = some (.string ⟨yt.toArray⟩) := (HB.out.below hb).cell 4
    have d5 : w1.cell? ⟨w.heap.size + 1, 5, none⟩ = some (.slice yA yl.length yc) := (HB.out.below hb).cell 5
    clear hb
    go_wp2_with fail
    go_ret
    exact ⟨by rw [HR.out]; rfl, HB1.out⟩
  | true =>
    by_cases hf : xe = ye
    · subst hf
      by_cases hf : xa = ya
      · subst hf
        by_cases hf : xb = yb
        · subst hf
          by_cases hf : xn = yn
          · subst hf
            by_cases hf : xt = yt
            · subst hf
              have HR := Lib.hid (show sameQ ⟨xe, xa, xb, xn, xt, xl⟩ ⟨xe, xa, xb, xn, xt, yl⟩ = true from by unfold sameQ; simp [hs])
              rw [hs] at HS
              clear hs
              obtain ⟨W0, hW0⟩ : ∃ W0, W0 = (w.alloc (.cells #[.int .i64 xe, .int .i64 xa, .int .i64 xb, .int .i64 xn, .string ⟨xt.toArray⟩, .slice xA xl.length xc] 29)).alloc (.cells #[.int .i64 xe, .int .i64 xa, .int .i64 xb, .int .i64 xn, .string ⟨xt.toArray⟩, .slice yA yl.length yc] 29) := ⟨_, rfl⟩
              have hb0 : Below w.heap.size w W0 := by rw [hW0]; exact ((Below.refl _ _).alloc (Nat.le_refl _) _).alloc (by simp) _
              have ta : TBox W0 w.heap.size 29 #[.int .i64 xe, .int .i64 xa, .int .i64 xb, .int .i64 xn, .string ⟨xt.toArray⟩, .slice xA xl.length xc] := by rw [hW0]; exact (TBox.new _ _ _).below ((Below.refl _ _).alloc (Nat.le_refl _) _)
              have tb : TBox W0 (w.heap.size + 1) 29 #[.int .i64 xe, .int .i64 xa, .int .i64 xb, .int .i64 xn, .string ⟨xt.toArray⟩, .slice yA yl.length yc] := by
                rw [hW0]
                have h := TBox.new (w.alloc (.cells #[.int .i64 xe, .int .i64 xa, .int .i64 xb, .int .i64 xn, .string ⟨xt.toArray⟩, .slice xA xl.length xc] 29)) 29 #[.int .i64 xe, .int .i64 xa, .int .i64 xb, .int .i64 xn, .string ⟨xt.toArray⟩, .slice yA yl.length yc]
                rw [show (w.alloc (.cells #[.int .i64 xe, .int .i64 xa, .int .i64 xb, .int .i64 xn, .string ⟨xt.toArray⟩, .slice xA xl.length xc] 29)).heap.size = w.heap.size + 1 from by simp] at h
                exact h
              have HA := Lib.hid ta
              have HB := Lib.hid tb
              have BW := Lib.hid hb0
              have HW := Lib.hid hW0
              clear hW0 hb0 ta tb
              go_enter Try.func37, Try.ntmps37
              go_wp2_with fail
              rw [← HW.out]
              refine (HS.out _ BW.out).mono ?_
              rintro e w1 ⟨rfl, hb⟩
              have HB1 := Lib.hid (below_trans BW.out hb BW.out.size)
              have c0 : w1.cell? ⟨w.heap.size, 0, none⟩ = some (.int .i64 xe) := (HA.out.below hb).cell 0
              have c1 : w1.cell? ⟨w.heap.size, 1, none⟩ = some (.int .i64 xa) := (HA.out.below hb).cell 1
              have c2 : w1.cell? ⟨w.heap.size, 2, none⟩ = some (.int .i64 xb) := (HA.out.below hb).cell 2
              have c3 : w1.cell? ⟨w.heap.size, 3, none⟩ = some (.int .i64 xn) := (HA.out.below hb).cell 3
              have c4 : w1.cell? ⟨w.heap.size, 4, none⟩ = some (.string ⟨xt.toArray⟩) := (HA.out.below hb).cell 4
              have c5 : w1.cell? ⟨w.heap.size, 5, none⟩ = some (.slice xA xl.length xc) := (HA.out.below hb).cell 5
              have d0 : w1.cell? ⟨w.heap.size + 1, 0, none⟩ = some (.int .i64 xe) := (HB.out.below hb).cell 0
              have d1 : w1.cell? ⟨w.heap.size + 1, 1, none⟩ = some (.int .i64 xa) := (HB.out.below hb).cell 1
              have d2 : w1.cell? ⟨w.heap.size + 1, 2, none⟩ = some (.int .i64 xb) := (HB.out.below hb).cell 2
              have d3 : w1.cell? ⟨w.heap.size + 1, 3, none⟩ = some (.int .i64 xn) := (HB.out.below hb).cell 3
              have d4 : w1.cell? ⟨w.heap.size + 1, 4, none⟩ = some (.string ⟨xt.toArray⟩) := (HB.out.below hb).cell 4
              have d5 : w1.cell? ⟨w.heap.size + 1, 5, none⟩ = some (.slice yA yl.length yc) := (HB.out.below hb).cell 5
              clear hb
              go_wp2_with fail
              go_ret
              exact ⟨by rw [HR.out]; rfl, HB1.out⟩
            · have HR := Lib.hid (show sameQ ⟨xe, xa, xb, xn, xt, xl⟩ ⟨xe, xa, xb, xn, yt, yl⟩ = false from by unfold sameQ; simp [hs, hf])
              rw [hs] at HS
              clear hs
              have hne : (xt == yt) = false := by rw [beq_eq_false_iff_ne]; exact hf
              clear hf
              obtain ⟨W0, hW0⟩ : ∃ W0, W0 = (w.alloc (.cells #[.int .i64 xe, .int .i64 xa, .int .i64 xb, .int .i64 xn, .string ⟨xt.toArray⟩, .slice xA xl.length xc] 29)).alloc (.cells #[.int .i64 xe, .int .i64 xa, .int .i64 xb, .int .i64 xn, .string ⟨yt.toArray⟩, .slice yA yl.length yc] 29) := ⟨_, rfl⟩
              have hb0 : Below w.heap.size w W0 := by rw [hW0]; exact ((Below.refl _ _).alloc (Nat.le_refl _) _).alloc (by simp) _
              have ta : TBox W0 w.heap.size 29 #[.int .i64 xe, .int .i64 xa, .int .i64 xb, .int .i64 xn, .string ⟨xt.toArray⟩, .slice xA xl.length xc] := by rw [hW0]; exact (TBox.new _ _ _).below ((Below.refl _ _).alloc (Nat.le_refl _) _)
              have tb : TBox W0 (w.heap.size + 1) 29 #[.int .i64 xe, .int .i64 xa, .int .i64 xb, .int .i64 xn, .string ⟨yt.toArray⟩, .slice yA yl.length yc] := by
                rw [hW0]
                have h := TBox.new (w.alloc (.cells #[.int .i64 xe, .int .i64 xa, .int .i64 xb, .int .i64 xn, .string ⟨xt.toArray⟩, .slice xA xl.length xc] 29)) 29 #[.int .i64 xe, .int .i64 xa, .int .i64 xb, .int .i64 xn, .string ⟨yt.toArray⟩, .slice yA yl.length yc]
                rw [show (w.alloc (.cells #[.int .i64 xe, .int .i64 xa, .int .i64 xb, .int .i64 xn, .string ⟨xt.toArray⟩, .slice xA xl.length xc] 29)).heap.size = w.heap.size + 1 from by simp] at h
                exact h
              have HA := Lib.hid ta
              have HB := Lib.hid tb
              have BW := Lib.hid hb0
              have HW := Lib.hid hW0
              clear hW0 hb0 ta tb
              go_enter Try.func37, Try.ntmps37
              go_wp2_with fail
              rw [← HW.out]
              refine (HS.out _ BW.out).mono ?_
              rintro e w1 ⟨rfl, hb⟩
              have HB1 := Lib.hid (below_trans BW.out hb BW.out.size)
              have c0 : w1.cell? ⟨w.heap.size, 0, none⟩ = some (.int .i64 xe) := (HA.out.below hb).cell 0
              have c1 : w1.cell? ⟨w.heap.size, 1, none⟩ = some (.int .i64 xa) := (HA.out.below hb).cell 1
              have c2 : w1.cell? ⟨w.heap.size, 2, none⟩ = some (.int .i64 xb) := (HA.out.below hb).cell 2
              have c3 : w1.cell? ⟨w.heap.size, 3, none⟩ = some (.int .i64 xn) := (HA.out.below hb).cell 3
              have c4 : w1.cell? ⟨w.heap.size, 4, none⟩ = some (.string ⟨xt.toArray⟩) := (HA.out.below hb).cell 4
              have c5 : w1.cell? ⟨w.heap.size, 5, none⟩ = some (.slice xA xl.length xc) := (HA.out.below hb).cell 5
              have d0 : w1.cell? ⟨w.heap.size + 1, 0, none⟩ = some (.int .i64 xe) := (HB.out.below hb).cell 0
              have d1 : w1.cell? ⟨w.heap.size + 1, 1, none⟩ = some (.int .i64 xa) := (HB.out.below hb).cell 1
              have d2 : w1.cell? ⟨w.heap.size + 1, 2, none⟩ = some (.int .i64 xb) := (HB.out.below hb).cell 2
              have d3 : w1.cell? ⟨w.heap.size + 1, 3, none⟩ = some (.int .i64 xn) := (HB.out.below hb).cell 3
              have d4 : w1.cell? ⟨w.heap.size + 1, 4, none⟩ = some (.string ⟨yt.toArray⟩) := (HB.out.below hb).cell 4
              have d5 : w1.cell? ⟨w.heap.size + 1, 5, none⟩ = some (.slice yA yl.length yc) := (HB.out.below hb).cell 5
              clear hb
              go_wp2_with fail
              go_ret
              exact ⟨by rw [HR.out]; rfl, HB1.out⟩
          · have HR := Lib.hid (show sameQ ⟨xe, xa, xb, xn, xt, xl⟩ ⟨xe, xa, xb, yn, yt, yl⟩ = false from by unfold sameQ; simp [hs, hf])
            rw [hs] at HS
            clear hs
            have hne : (xn == yn) = false := by rw [beq_eq_false_iff_ne]; exact hf
            clear hf
            obtain ⟨W0, hW0⟩ : ∃ W0, W0 = (w.alloc (.cells #[.int .i64 xe, .int .i64 xa, .int .i64 xb, .int .i64 xn, .string ⟨xt.toArray⟩, .slice xA xl.length xc] 29)).alloc (.cells #[.int .i64 xe, .int .i64 xa, .int .i64 xb, .int .i64 yn, .string ⟨yt.toArray⟩, .slice yA yl.length yc] 29) := ⟨_, rfl⟩
            have hb0 : Below w.heap.size w W0 := by rw [hW0]; exact ((Below.refl _ _).alloc (Nat.le_refl _) _).alloc (by simp) _
            have ta : TBox W0 w.heap.size 29 #[.int .i64 xe, .int .i64 xa, .int .i64 xb, .int .i64 xn, .string ⟨xt.toArray⟩, .slice xA xl.length xc] := by rw [hW0]; exact (TBox.new _ _ _).below ((Below.refl _ _).alloc (Nat.le_refl _) _)
            have tb : TBox W0 (w.heap.size + 1) 29 #[.int .i64 xe, .int .i64 xa, .int .i64 xb, .int .i64 yn, .string ⟨yt.toArray⟩, .slice yA yl.length yc] := by
              rw [hW0]
              have h := TBox.new (w.alloc (.cells #[.int .i64 xe, .int .i64 xa, .int .i64 xb, .int .i64 xn, .string ⟨xt.toArray⟩, .slice xA xl.length xc] 29)) 29 #[.int .i64 xe, .int .i64 xa, .int .i64 xb, .int .i64 yn, .string ⟨yt.toArray⟩, .slice yA yl.length yc]
              rw [show (w.alloc (.cells #[.int .i64 xe, .int .i64 xa, .int .i64 xb, .int .i64 xn, .string ⟨xt.toArray⟩, .slice xA xl.length xc] 29)).heap.size = w.heap.size + 1 from by simp] at h
              exact h
            have HA := Lib.hid ta
            have HB := Lib.hid tb
            have BW := Lib.hid hb0
            have HW := Lib.hid hW0
            clear hW0 hb0 ta tb
            go_enter Try.func37, Try.ntmps37
            go_wp2_with fail
            rw [← HW.out]
            refine (HS.out _ BW.out).mono ?_
            rintro e w1 ⟨rfl, hb⟩
            have HB1 := Lib.hid (below_trans BW.out hb BW.out.size)
            have c0 : w1.cell? ⟨w.heap.size, 0, none⟩ = some (.int .i64 xe) := (HA.out.below hb).cell 0
            have c1 : w1.cell? ⟨w.heap.size, 1, none⟩ = some (.int .i64 xa) := (HA.out.below hb).cell 1
            have c2 : w1.cell? ⟨w.heap.size, 2, none⟩ = some (.int .i64 xb) := (HA.out.below hb).cell 2
            have c3 : w1.cell? ⟨w.heap.size, 3, none⟩ = some (.int .i64 xn) := (HA.out.below hb).cell 3
            have c4 : w1.cell? ⟨w.heap.size, 4, none⟩ = some (.string ⟨xt.toArray⟩) := (HA.out.below hb).cell 4
            have c5 : w1.cell? ⟨w.heap.size, 5, none⟩ = some (.slice xA xl.length xc) := (HA.out.below hb).cell 5
            have d0 : w1.cell? ⟨w.heap.size + 1, 0, none⟩ = some (.int .i64 xe) := (HB.out.below hb).cell 0
            have d1 : w1.cell? ⟨w.heap.size + 1, 1, none⟩ = some (.int .i64 xa) := (HB.out.below hb).cell 1
            have d2 : w1.cell? ⟨w.heap.size + 1, 2, none⟩ = some (.int .i64 xb) := (HB.out.below hb).cell 2
            have d3 : w1.cell? ⟨w.heap.size + 1, 3, none⟩ = some (.int .i64 yn) := (HB.out.below hb).cell 3
            have d4 : w1.cell? ⟨w.heap.size + 1, 4, none⟩ = some (.string ⟨yt.toArray⟩) := (HB.out.below hb).cell 4
            have d5 : w1.cell? ⟨w.heap.size + 1, 5, none⟩ = some (.slice yA yl.length yc) := (HB.out.below hb).cell 5
            clear hb
            go_wp2_with fail
            go_ret
            exact ⟨by rw [HR.out]; rfl, HB1.out⟩
        · have HR := Lib.hid (show sameQ ⟨xe, xa, xb, xn, xt, xl⟩ ⟨xe, xa, yb, yn, yt, yl⟩ = false from by unfold sameQ; simp [hs, hf])
          rw [hs] at HS
          clear hs
          have hne : (xb == yb) = false := by rw [beq_eq_false_iff_ne]; exact hf
          clear hf
          obtain ⟨W0, hW0⟩ : ∃ W0, W0 = (w.alloc (.cells #[.int .i64 xe, .int .i64 xa, .int .i64 xb, .int .i64 xn, .string ⟨xt.toArray⟩, .slice xA xl.length xc] 29)).alloc (.cells #[.int .i64 xe, .int .i64 xa, .int .i64 yb, .int .i64 yn, .string ⟨yt.toArray⟩, .slice yA yl.length yc] 29) := ⟨_, rfl⟩
          have hb0 : Below w.heap.size w W0 := by rw [hW0]; exact ((Below.refl _ _).alloc (Nat.le_refl _) _).alloc (by simp) _
          have ta : TBox W0 w.heap.size 29 #[.int .i64 xe, .int .i64 xa, .int .i64 xb, .int .i64 xn, .string ⟨xt.toArray⟩, .slice xA xl.length xc] := by rw [hW0]; exact (TBox.new _ _ _).below ((Below.refl _ _).alloc (Nat.le_refl _) _)
          have tb : TBox W0 (w.heap.size + 1) 29 #[.int .i64 xe, .int .i64 xa, .int .i64 yb, .int .i64 yn, .string ⟨yt.toArray⟩, .slice yA yl.length yc] := by
            rw [hW0]
            have h := TBox.new (w.alloc (.cells #[.int .i64 xe, .int .i64 xa, .int .i64 xb, .int .i64 xn, .string ⟨xt.toArray⟩, .slice xA xl.length xc] 29)) 29 #[.int .i64 xe, .int .i64 xa, .int .i64 yb, .int .i64 yn, .string ⟨yt.toArray⟩, .slice yA yl.length yc]
            rw [show (w.alloc (.cells #[.int .i64 xe, .int .i64 xa, .int .i64 xb, .int .i64 xn, .string ⟨xt.toArray⟩, .slice xA xl.length xc] 29)).heap.size = w.heap.size + 1 from by simp] at h
            exact h
          have HA := Lib.hid ta
          have HB := Lib.hid tb
          have BW := Lib.hid hb0
          have HW := Lib.hid hW0
          clear hW0 hb0 ta tb
          go_enter Try.func37, Try.ntmps37
          go_wp2_with fail
          rw [← HW.out]
          refine (HS.out _ BW.out).mono ?_
          rintro e w1 ⟨rfl, hb⟩
          have HB1 := Lib.hid (below_trans BW.out hb BW.out.size)
          have c0 : w1.cell? ⟨w.heap.size, 0, none⟩ = some (.int .i64 xe) := (HA.out.below hb).cell 0
          have c1 : w1.cell? ⟨w.heap.size, 1, none⟩ = some (.int .i64 xa) := (HA.out.below hb).cell 1
          have c2 : w1.cell? ⟨w.heap.size, 2, none⟩ = some (.int .i64 xb) := (HA.out.below hb).cell 2
          have c3 : w1.cell? ⟨w.heap.size, 3, none⟩ = some (.int .i64 xn) := (HA.out.below hb).cell 3
          have c4 : w1.cell? ⟨w.heap.size, 4, none⟩ = some (.string ⟨xt.toArray⟩) := (HA.out.below hb).cell 4
          have c5 : w1.cell? ⟨w.heap.size, 5, none⟩ = some (.slice xA xl.length xc) := (HA.out.below hb).cell 5
          have d0 : w1.cell? ⟨w.heap.size + 1, 0, none⟩ = some (.int .i64 xe) := (HB.out.below hb).cell 0
          have d1 : w1.cell? ⟨w.heap.size + 1, 1, none⟩ = some (.int .i64 xa) := (HB.out.below hb).cell 1
          have d2 : w1.cell? ⟨w.heap.size + 1, 2, none⟩ = some (.int .i64 yb) := (HB.out.below hb).cell 2
          have d3 : w1.cell? ⟨w.heap.size + 1, 3, none⟩ = some (.int .i64 yn) := (HB.out.below hb).cell 3
          have d4 : w1.cell? ⟨w.heap.size + 1, 4, none⟩ = some (.string ⟨yt.toArray⟩) := (HB.out.below hb).cell 4
          have d5 : w1.cell? ⟨w.heap.size + 1, 5, none⟩ = some (.slice yA yl.length yc) := (HB.out.below hb).cell 5
          clear hb
          go_wp2_with fail
          go_ret
          exact ⟨by rw [HR.out]; rfl, HB1.out⟩
      · have HR := Lib.hid (show sameQ ⟨xe, xa, xb, xn, xt, xl⟩ ⟨xe, ya, yb, yn, yt, yl⟩ = false from by unfold sameQ; simp [hs, hf])
        rw [hs] at HS
        clear hs
        have hne : (xa == ya) = false := by rw [beq_eq_false_iff_ne]; exact hf
        clear hf
        obtain ⟨W0, hW0⟩ : ∃ W0, W0 = (w.alloc (.cells #[.int .i64 xe, .int .i64 xa, .int .i64 xb, .int .i64 xn, .string ⟨xt.toArray⟩, .slice xA xl.length xc] 29)).alloc (.cells #[.int .i64 xe, .int .i64 ya, .int .i64 yb, .int .i64 yn, .string ⟨yt.toArray⟩, .slice yA yl.length yc] 29) := ⟨_, rfl⟩
        have hb0 : Below w.heap.size w W0 := by rw [hW0]; exact ((Below.refl _ _).alloc (Nat.le_refl _) _).alloc (by simp) _
        have ta : TBox W0 w.heap.size 29 #[.int .i64 xe, .int .i64 xa, .int .i64 xb, .int .i64 xn, .string ⟨xt.toArray⟩, .slice xA xl.length xc] := by rw [hW0]; exact (TBox.new _ _ _).below ((Below.refl _ _).alloc (Nat.le_refl _) _)
        have tb : TBox W0 (w.heap.size + 1) 29 #[.int .i64 xe, .int .i64 ya, .int .i64 yb, .int .i64 yn, .string ⟨yt.toArray⟩, .slice yA yl.length yc] := by
          rw [hW0]
          have h := TBox.new (w.alloc (.cells #[.int .i64 xe, .int .i64 xa, .int .i64 xb, .int .i64 xn, .string ⟨xt.toArray⟩, .slice xA xl.length xc] 29)) 29 #[.int .i64 xe, .int .i64 ya, .int .i64 yb, .int .i64 yn, .string ⟨yt.toArray⟩, .slice yA yl.length yc]
          rw [show (w.alloc (.cells #[.int .i64 xe, .int .i64 xa, .int .i64 xb, .int .i64 xn, .string ⟨xt.toArray⟩, .slice xA xl.length xc] 29)).heap.size = w.heap.size + 1 from by simp] at h
          exact h
        have HA := Lib.hid ta
        have HB := Lib.hid tb
        have BW := Lib.hid hb0
        have HW := Lib.hid hW0
        clear hW0 hb0 ta tb
        go_enter Try.func37, Try.ntmps37
        go_wp2_with fail
        rw [← HW.out]
        refine (HS.out _ BW.out).mono ?_
        rintro e w1 ⟨rfl, hb⟩
        have HB1 := Lib.hid (below_trans BW.out hb BW.out.size)
        have c0 : w1.cell? ⟨w.heap.size, 0, none⟩ = some (.int .i64 xe) := (HA.out.below hb).cell 0
        have c1 : w1.cell? ⟨w.heap.size, 1, none⟩ = some (.int .i64 xa) := (HA.out.below hb).cell 1
        have c2 : w1.cell? ⟨w.heap.size, 2, none⟩ = some (.int .i64 xb) := (HA.out.below hb).cell 2
        have c3 : w1.cell? ⟨w.heap.size, 3, none⟩ = some (.int .i64 xn) := (HA.out.below hb).cell 3
        have c4 : w1.cell? ⟨w.heap.size, 4, none⟩ = some (.string ⟨xt.toArray⟩) := (HA.out.below hb).cell 4
        have c5 : w1.cell? ⟨w.heap.size, 5, none⟩ = some (.slice xA xl.length xc) := (HA.out.below hb).cell 5
        have d0 : w1.cell? ⟨w.heap.size + 1, 0, none⟩ = some (.int .i64 xe) := (HB.out.below hb).cell 0
        have d1 : w1.cell? ⟨w.heap.size + 1, 1, none⟩ = some (.int .i64 ya) := (HB.out.below hb).cell 1
        have d2 : w1.cell? ⟨w.heap.size + 1, 2, none⟩ = some (.int .i64 yb) := (HB.out.below hb).cell 2
        have d3 : w1.cell? ⟨w.heap.size + 1, 3, none⟩ = some (.int .i64 yn) := (HB.out.below hb).cell 3
        have d4 : w1.cell? ⟨w.heap.size + 1, 4, none⟩ = some (.string ⟨yt.toArray⟩) := (HB.out.below hb).cell 4
        have d5 : w1.cell? ⟨w.heap.size + 1, 5, none⟩ = some (.slice yA yl.length yc) := (HB.out.below hb).cell 5
        clear hb
        go_wp2_with fail
        go_ret
        exact ⟨by rw [HR.out]; rfl, HB1.out⟩
    · have HR := Lib.hid (show sameQ ⟨xe, xa, xb, xn, xt, xl⟩ ⟨ye, ya, yb, yn, yt, yl⟩ = false from by unfold sameQ; simp [hs, hf])
      rw [hs] at HS
      clear hs
      have hne : (xe == ye) = false := by rw [beq_eq_false_iff_ne]; exact hf
      clear hf
      obtain ⟨W0, hW0⟩ : ∃ W0, W0 = (w.alloc (.cells #[.int .i64 xe, .int .i64 xa, .int .i64 xb, .int .i64 xn, .string ⟨xt.toArray⟩, .slice xA xl.length xc] 29)).alloc (.cells #[.int .i64 ye, .int .i64 ya, .int .i64 yb, .int .i64 yn, .string ⟨yt.toArray⟩, .slice yA yl.length yc] 29) := ⟨_, rfl⟩
      have hb0 : Below w.heap.size w W0 := by rw [hW0]; exact ((Below.refl _ _).alloc (Nat.le_refl _) _).alloc (by simp) _
      have ta : TBox W0 w.heap.size 29 #[.int .i64 xe, .int .i64 xa, .int .i64 xb, .int .i64 xn, .string ⟨xt.toArray⟩, .slice xA xl.length xc] := by rw [hW0]; exact (TBox.new _ _ _).below ((Below.refl _ _).alloc (Nat.le_refl _) _)
      have tb : TBox W0 (w.heap.size + 1) 29 #[.int .i64 ye, .int .i64 ya, .int .i64 yb, .int .i64 yn, .string ⟨yt.toArray⟩, .slice yA yl.length yc] := by
        rw [hW0]
        have h := TBox.new (w.alloc (.cells #[.int .i64 xe, .int .i64 xa, .int .i64 xb, .int .i64 xn, .string ⟨xt.toArray⟩, .slice xA xl.length xc] 29)) 29 #[.int .i64 ye, .int .i64 ya, .int .i64 yb, .int .i64 yn, .string ⟨yt.toArray⟩, .slice yA yl.length yc]
        rw [show (w.alloc (.cells #[.int .i64 xe, .int .i64 xa, .int .i64 xb, .int .i64 xn, .string ⟨xt.toArray⟩, .slice xA xl.length xc] 29)).heap.size = w.heap.size + 1 from by simp] at h
        exact h
      have HA := Lib.hid ta
      have HB := Lib.hid tb
      have BW := Lib.hid hb0
      have HW := Lib.hid hW0
      clear hW0 hb0 ta tb
      go_enter Try.func37, Try.ntmps37
      go_wp2_with fail
      rw [← HW.out]
      refine (HS.out _ BW.out).mono ?_
      rintro e w1 ⟨rfl, hb⟩
      have HB1 := Lib.hid (below_trans BW.out hb BW.out.size)
      have c0 : w1.cell? ⟨w.heap.size, 0, none⟩ = some (.int .i64 xe) := (HA.out.below hb).cell 0
      have c1 : w1.cell? ⟨w.heap.size, 1, none⟩ = some (.int .i64 xa) := (HA.out.below hb).cell 1
      have c2 : w1.cell? ⟨w.heap.size, 2, none⟩ = some (.int .i64 xb) := (HA.out.below hb).cell 2
      have c3 : w1.cell? ⟨w.heap.size, 3, none⟩ = some (.int .i64 xn) := (HA.out.below hb).cell 3
      have c4 : w1.cell? ⟨w.heap.size, 4, none⟩ = some (.string ⟨xt.toArray⟩) := (HA.out.below hb).cell 4
      have c5 : w1.cell? ⟨w.heap.size, 5, none⟩ = some (.slice xA xl.length xc) := (HA.out.below hb).cell 5
      have d0 : w1.cell? ⟨w.heap.size + 1, 0, none⟩ = some (.int .i64 ye) := (HB.out.below hb).cell 0
      have d1 : w1.cell? ⟨w.heap.size + 1, 1, none⟩ = some (.int .i64 ya) := (HB.out.below hb).cell 1
      have d2 : w1.cell? ⟨w.heap.size + 1, 2, none⟩ = some (.int .i64 yb) := (HB.out.below hb).cell 2
      have d3 : w1.cell? ⟨w.heap.size + 1, 3, none⟩ = some (.int .i64 yn) := (HB.out.below hb).cell 3
      have d4 : w1.cell? ⟨w.heap.size + 1, 4, none⟩ = some (.string ⟨yt.toArray⟩) := (HB.out.below hb).cell 4
      have d5 : w1.cell? ⟨w.heap.size + 1, 5, none⟩ = some (.slice yA yl.length yc) := (HB.out.below hb).cell 5
      clear hb
      go_wp2_with fail
      go_ret
      exact ⟨by rw [HR.out]; rfl, HB1.out⟩

set_option maxRecDepth 100000 in
set_option maxHeartbeats 16000000 in
theorem ref15_Same (x y : RspW) (vx vy : Value) (w : World) (hx : RspV w vx x) (hy : RspV w vy y) (hlx : x.names.length ≤ 2147483648) (hly : y.names.length ≤ 2147483648) :
    Calls Try.prog 20 #[vx, vy] w fun e w' => e = .returned (.bool (sameR x y)) ∧ Below w.heap.size w w' := by
  obtain ⟨xA, xcc, rfl, hrx⟩ := hx
  obtain ⟨yA, ycc, rfl, hry⟩ := hy
  obtain ⟨xk, xc, xo, xs, xm, xe, xa, xb, xn, xt, xl⟩ := x
  obtain ⟨yk, yc, yo, ys, ym, ye, ya, yb, yn, yt, yl⟩ := y
  simp only at hrx hry hlx hly
  have HS := Lib.hid (fun W (h : Below w.heap.size w W) => ref11_Same ⟨xe, xa, xb, xn, xt, xl⟩ ⟨ye, ya, yb, yn, yt, yl⟩ _ _ W ⟨xA, xcc, rfl, hrx.below h⟩ ⟨yA, ycc, rfl, hry.below h⟩ hlx hly)
  clear hrx hry
  unfold repCells at HS
  unfold rspCells
  simp only at HS ⊢
  have hPQ : sameP ⟨xk, xc, xo, xs, xm, xe, xa, xb, xn, xt, xl⟩ ⟨yk, yc, yo, ys, ym, ye, ya, yb, yn, yt, yl⟩ = sameQ ⟨xe, xa, xb, xn, xt, xl⟩ ⟨ye, ya, yb, yn, yt, yl⟩ := rfl
  rw [← hPQ] at HS
  clear hPQ
  cases hs : sameP ⟨xk, xc, xo, xs, xm, xe, xa, xb, xn, xt, xl⟩ ⟨yk, yc, yo, ys, ym, ye, ya, yb, yn, yt, yl⟩ with
  | false =>
    have HR := Lib.hid (show sameR ⟨xk, xc, xo, xs, xm, xe, xa, xb, xn, xt, xl⟩ ⟨yk, yc, yo, ys, ym, ye, ya, yb, yn, yt, yl⟩ = false from by unfold sameR; simp [hs])
    rw [hs] at HS
    clear hs
    obtain ⟨W0, hW0⟩ : ∃ W0, W0 = (w.alloc (.cells #[.int .i64 xk, .int .i64 xc, .int .i64 xo, .int .i64 xs, .int .i64 xm, .int .i64 xe, .int .i64 xa, .int .i64 xb, .int .i64 xn, .string ⟨xt.toArray⟩, .slice xA xl.length xcc] 31)).alloc (.cells #[.int .i64 yk, .int .i64 yc, .int .i64 yo, .int .i64 ys, .int .i64 ym, .int .i64 ye, .int .i64 ya, .int .i64 yb, .int .i64 yn, .string ⟨yt.toArray⟩, .slice yA yl.length ycc] 31) := ⟨_, rfl⟩
    have hb0 : Below w.heap.size w W0 := by rw [hW0]; exact ((Below.refl _ _).alloc (Nat.le_refl _) _).alloc (by simp) _
    have ta : TBox W0 w.heap.size 31 #[.int .i64 xk, .int .i64 xc, .int .i64 xo, .int .i64 xs, .int .i64 xm, .int .i64 xe, .int .i64 xa, .int .i64 xb, .int .i64 xn, .string ⟨xt.toArray⟩, .slice xA xl.length xcc] := by rw [hW0]; exact (TBox.new _ _ _).below ((Below.refl _ _).alloc (Nat.le_refl _) _)
    have tb : TBox W0 (w.heap.size + 1) 31 #[.int .i64 yk, .int .i64 yc, .int .i64 yo, .int .i64 ys, .int .i64 ym, .int .i64 ye, .int .i64 ya, .int .i64 yb, .int .i64 yn, .string ⟨yt.toArray⟩, .slice yA yl.length ycc] := by
      rw [hW0]
      have h := TBox.new (w.alloc (.cells #[.int .i64 xk, .int .i64 xc, .int .i64 xo, .int .i64 xs, .int .i64 xm, .int .i64 xe, .int .i64 xa, .int .i64 xb, .int .i64 xn, .string ⟨xt.toArray⟩, .slice xA xl.length xcc] 31)) 31 #[.int .i64 yk, .int .i64 yc, .int .i64 yo, .int .i64 ys, .int .i64 ym, .int .i64 ye, .int .i64 ya, .int .i64 yb, .int .i64 yn, .string ⟨yt.toArray⟩, .slice yA yl.length ycc]
      rw [show (w.alloc (.cells #[.int .i64 xk, .int .i64 xc, .int .i64 xo, .int .i64 xs, .int .i64 xm, .int .i64 xe, .int .i64 xa, .int .i64 xb, .int .i64 xn, .string ⟨xt.toArray⟩, .slice xA xl.length xcc] 31)).heap.size = w.heap.size + 1 from by simp] at h
      exact h
    have HA := Lib.hid ta
    have HB := Lib.hid tb
    have BW := Lib.hid hb0
    have HW := Lib.hid hW0
    clear hW0 hb0 ta tb
    go_enter Try.func20, Try.ntmps20
    go_wp2_with fail
    rw [← HW.out]
    refine (HS.out _ BW.out).mono ?_
    rintro e w1 ⟨rfl, hb⟩
    have HB1 := Lib.hid (below_trans BW.out hb BW.out.size)
    have c0 : w1.cell? ⟨w.heap.size, 0, none⟩ = some (.int .i64 xk) := (HA.out.below hb).cell 0
    have c1 : w1.cell? ⟨w.heap.size, 1, none⟩ = some (.int .i64 xc) := (HA.out.below hb).cell 1
    have c2 : w1.cell? ⟨w.heap.size, 2, none⟩ = some (.int .i64 xo) := (HA.out.below hb).cell 2
    have c3 : w1.cell? ⟨w.heap.size, 3, none⟩ = some (.int .i64 xs) := (HA.out.below hb).cell 3
    have c4 : w1.cell? ⟨w.heap.size, 4, none⟩ = some (.int .i64 xm) := (HA.out.below hb).cell 4
    have c5 : w1.cell? ⟨w.heap.size, 5, none⟩ = some (.int .i64 xe) := (HA.out.below hb).cell 5
    have c6 : w1.cell? ⟨w.heap.size, 6, none⟩ = some (.int .i64 xa) := (HA.out.below hb).cell 6
    have c7 : w1.cell? ⟨w.heap.size, 7, none⟩ = some (.int .i64 xb) := (HA.out.below hb).cell 7
    have c8 : w1.cell? ⟨w.heap.size, 8, none⟩ = some (.int .i64 xn) := (HA.out.below hb).cell 8
    have c9 : w1.cell? ⟨w.heap.size, 9, none⟩ = some (.string ⟨xt.toArray⟩) := (HA.out.below hb).cell 9
    have c10 : w1.cell? ⟨w.heap.size, 10, none⟩ = some (.slice xA xl.length xcc) := (HA.out.below hb).cell 10
    have d0 : w1.cell? ⟨w.heap.size + 1, 0, none⟩ = some (.int .i64 yk) := (HB.out.below hb).cell 0
    have d1 : w1.cell? ⟨w.heap.size + 1, 1, none⟩ = some (.int .i64 yc) := (HB.out.below hb).cell 1
    have d2 : w1.cell? ⟨w.heap.size + 1, 2, none⟩ = some (.int .i64 yo) := (HB.out.below hb).cell 2
    have d3 : w1.cell? ⟨w.heap.size + 1, 3, none⟩ = some (.int .i64 ys) := (HB.out.below hb).cell 3
    have d4 : w1.cell? ⟨w.heap.size + 1, 4, none⟩ = some (.int .i64 ym) := (HB.out.below hb).cell 4
    have d5 : w1.cell? ⟨w.heap.size + 1, 5, none⟩ = some (.int .i64 ye) := (HB.out.below hb).cell 5
    have d6 : w1.cell? ⟨w.heap.size + 1, 6, none⟩ = some (.int .i64 ya) := (HB.out.below hb).cell 6
    have d7 : w1.cell? ⟨w.heap.size + 1, 7, none⟩ = some (.int .i64 yb) := (HB.out.below hb).cell 7
    have d8 : w1.cell? ⟨w.heap.size + 1, 8, none⟩ = some (.int .i64 yn) := (HB.out.below hb).cell 8
    have d9 : w1.cell? ⟨w.heap.size + 1, 9, none⟩ = some (.string ⟨yt.toArray⟩) := (HB.out.below hb).cell 9
    have d10 : w1.cell? ⟨w.heap.size + 1, 10, none⟩ = some (.slice yA yl.length ycc) := (HB.out.below hb).cell 10
    clear hb
    go_wp2_with fail
    go_ret
    exact ⟨by rw [HR.out]; rfl, HB1.out⟩
  | true =>
    rw [hs] at HS
    by_cases hf : xk = yk
    · subst hf
      by_cases hf : xc = yc
      · subst hf
        by_cases hf : xo = yo
        · subst hf
          by_cases hf : xs = ys
          · subst hf
            by_cases hf : xm = ym
            · subst hf
              have HR := Lib.hid (show sameR ⟨xk, xc, xo, xs, xm, xe, xa, xb, xn, xt, xl⟩ ⟨xk, xc, xo, xs, xm, ye, ya, yb, yn, yt, yl⟩ = true from by unfold sameR; simp [hs])
              clear hs
              obtain ⟨W0, hW0⟩ : ∃ W0, W0 = (w.alloc (.cells #[.int .i64 xk, .int .i64 xc, .int .i64 xo, .int .i64 xs, .int .i64 xm, .int .i64 xe, .int .i64 xa, .int .i64 xb, .int .i64 xn, .string ⟨xt.toArray⟩, .slice xA xl.length xcc] 31)).alloc (.cells #[.int .i64 xk, .int .i64 xc, .int .i64 xo, .int .i64 xs, .int .i64 xm, .int .i64 ye, .int .i64 ya, .int .i64 yb, .int .i64 yn, .string ⟨yt.toArray⟩, .slice yA yl.length ycc] 31) := ⟨_, rfl⟩
              have hb0 : Below w.heap.size w W0 := by rw [hW0]; exact ((Below.refl _ _).alloc (Nat.le_refl _) _).alloc (by simp) _
              have ta : TBox W0 w.heap.size 31 #[.int .i64 xk, .int .i64 xc, .int .i64 xo, .int .i64 xs, .int .i64 xm, .int .i64 xe, .int .i64 xa, .int .i64 xb, .int .i64 xn, .string ⟨xt.toArray⟩, .slice xA xl.length xcc] := by rw [hW0]; exact (TBox.new _ _ _).below ((Below.refl _ _).alloc (Nat.le_refl _) _)
              have tb : TBox W0 (w.heap.size + 1) 31 #[.int .i64 xk, .int .i64 xc, .int .i64 xo, .int .i64 xs, .int .i64 xm, .int .i64 ye, .int .i64 ya, .int .i64 yb, .int .i64 yn, .string ⟨yt.toArray⟩, .slice yA yl.length ycc] := by
                rw [hW0]
                have h := TBox.new (w.alloc (.cells #[.int .i64 xk, .int .i64 xc, .int .i64 xo, .int .i64 xs, .int .i64 xm, .int .i64 xe, .int .i64 xa, .int .i64 xb, .int .i64 xn, .string ⟨xt.toArray⟩, .slice xA xl.length xcc] 31)) 31 #[.int .i64 xk, .int .i64 xc, .int .i64 xo, .int .i64 xs, .int .i64 xm, .int .i64 ye, .int .i64 ya, .int .i64 yb, .int .i64 yn, .string ⟨yt.toArray⟩, .slice yA yl.length ycc]
                rw [show (w.alloc (.cells #[.int .i64 xk, .int .i64 xc, .int .i64 xo, .int .i64 xs, .int .i64 xm, .int .i64 xe, .int .i64 xa, .int .i64 xb, .int .i64 xn, .string ⟨xt.toArray⟩, .slice xA xl.length xcc] 31)).heap.size = w.heap.size + 1 from by simp] at h
                exact h
              have HA := Lib.hid ta
              have HB := Lib.hid tb
              have BW := Lib.hid hb0
              have HW := Lib.hid hW0
              clear hW0 hb0 ta tb
              go_enter Try.func20, Try.ntmps20
              go_wp2_with fail
              rw [← HW.out]
              refine (HS.out _ BW.out).mono ?_
              rintro e w1 ⟨rfl, hb⟩
              have HB1 := Lib.hid (below_trans BW.out hb BW.out.size)
              have c0 : w1.cell? ⟨w.heap.size, 0, none⟩ = some (.int .i64 xk) := (HA.out.below hb).cell 0
              have c1 : w1.cell? ⟨w.heap.size, 1, none⟩ = some (.int .i64 xc) := (HA.out.below hb).cell 1
              have c2 : w1.cell? ⟨w.heap.size, 2, none⟩ = some (.int .i64 xo) := (HA.out.below hb).cell 2
              have c3 : w1.cell? ⟨w.heap.size, 3, none⟩ = some (.int .i64 xs) := (HA.out.below hb).cell 3
              have c4 : w1.cell? ⟨w.heap.size, 4, none⟩ = some (.int .i64 xm) := (HA.out.below hb).cell 4
              have c5 : w1.cell? ⟨w.heap.size, 5, none⟩ = some (.int .i64 xe) := (HA.out.below hb).cell 5
              have c6 : w1.cell? ⟨w.heap.size, 6, none⟩ = some (.int .i64 xa) := (HA.out.below hb).cell 6
              have c7 : w1.cell? ⟨w.heap.size, 7, none⟩ = some (.int .i64 xb) := (HA.out.below hb).cell 7
              have c8 : w1.cell? ⟨w.heap.size, 8, none⟩ = some (.int .i64 xn) := (HA.out.below hb).cell 8
              have c9 : w1.cell? ⟨w.heap.size, 9, none⟩ = some (.string ⟨xt.toArray⟩) := (HA.out.below hb).cell 9
              have c10 : w1.cell? ⟨w.heap.size, 10, none⟩ = some (.slice xA xl.length xcc) := (HA.out.below hb).cell 10
              have d0 : w1.cell? ⟨w.heap.size + 1, 0, none⟩ = some (.int .i64 xk) := (HB.out.below hb).cell 0
              have d1 : w1.cell? ⟨w.heap.size + 1, 1, none⟩ = some (.int .i64 xc) := (HB.out.below hb).cell 1
              have d2 : w1.cell? ⟨w.heap.size + 1, 2, none⟩ = some (.int .i64 xo) := (HB.out.below hb).cell 2
              have d3 : w1.cell? ⟨w.heap.size + 1, 3, none⟩ = some (.int .i64 xs) := (HB.out.below hb).cell 3
              have d4 : w1.cell? ⟨w.heap.size + 1, 4, none⟩ = some (.int .i64 xm) := (HB.out.below hb).cell 4
              have d5 : w1.cell? ⟨w.heap.size + 1, 5, none⟩ = some (.int .i64 ye) := (HB.out.below hb).cell 5
              have d6 : w1.cell? ⟨w.heap.size + 1, 6, none⟩ = some (.int .i64 ya) := (HB.out.below hb).cell 6
              have d7 : w1.cell? ⟨w.heap.size + 1, 7, none⟩ = some (.int .i64 yb) := (HB.out.below hb).cell 7
              have d8 : w1.cell? ⟨w.heap.size + 1, 8, none⟩ = some (.int .i64 yn) := (HB.out.below hb).cell 8
              have d9 : w1.cell? ⟨w.heap.size + 1, 9, none⟩ = some (.string ⟨yt.toArray⟩) := (HB.out.below hb).cell 9
              have d10 : w1.cell? ⟨w.heap.size + 1, 10, none⟩ = some (.slice yA yl.length ycc) := (HB.out.below hb).cell 10
              clear hb
              go_wp2_with fail
              go_ret
              exact ⟨by rw [HR.out]; rfl, HB1.out⟩
            · have HR := Lib.hid (show sameR ⟨xk, xc, xo, xs, xm, xe, xa, xb, xn, xt, xl⟩ ⟨xk, xc, xo, xs, ym, ye, ya, yb, yn, yt, yl⟩ = false from by unfold sameR; simp [hs, hf])
              clear hs
              have hne : (xm == ym) = false := by rw [beq_eq_false_iff_ne]; exact hf
              clear hf
              obtain ⟨W0, hW0⟩ : ∃ W0, W0 = (w.alloc (.cells #[.int .i64 xk, .int .i64 xc, .int .i64 xo, .int .i64 xs, .int .i64 xm, .int .i64 xe, .int .i64 xa, .int .i64 xb, .int .i64 xn, .string ⟨xt.toArray⟩, .slice xA xl.length xcc] 31)).alloc (.cells #[.int .i64 xk, .int .i64 xc, .int .i64 xo, .int .i64 xs, .int .i64 ym, .int .i64 ye, .int .i64 ya, .int .i64 yb, .int .i64 yn, .string ⟨yt.toArray⟩, .slice yA yl.length ycc] 31) := ⟨_, rfl⟩
              have hb0 : Below w.heap.size w W0 := by rw [hW0]; exact ((Below.refl _ _).alloc (Nat.le_refl _) _).alloc (by simp) _
              have ta : TBox W0 w.heap.size 31 #[.int .i64 xk, .int .i64 xc, .int .i64 xo, .int .i64 xs, .int .i64 xm, .int .i64 xe, .int .i64 xa, .int .i64 xb, .int .i64 xn, .string ⟨xt.toArray⟩, .slice xA xl.length xcc] := by rw [hW0]; exact (TBox.new _ _ _).below ((Below.refl _ _).alloc (Nat.le_refl _) _)
              have tb : TBox W0 (w.heap.size + 1) 31 #[.int .i64 xk, .int .i64 xc, .int .i64 xo, .int .i64 xs, .int .i64 ym, .int .i64 ye, .int .i64 ya, .int .i64 yb, .int .i64 yn, .string ⟨yt.toArray⟩, .slice yA yl.length ycc] := by
                rw [hW0]
                have h := TBox.new (w.alloc (.cells #[.int .i64 xk, .int .i64 xc, .int .i64 xo, .int .i64 xs, .int .i64 xm, .int .i64 xe, .int .i64 xa, .int .i64 xb, .int .i64 xn, .string ⟨xt.toArray⟩, .slice xA xl.length xcc] 31)) 31 #[.int .i64 xk, .int .i64 xc, .int .i64 xo, .int .i64 xs, .int .i64 ym, .int .i64 ye, .int .i64 ya, .int .i64 yb, .int .i64 yn, .string ⟨yt.toArray⟩, .slice yA yl.length ycc]
                rw [show (w.alloc (.cells #[.int .i64 xk, .int .i64 xc, .int .i64 xo, .int .i64 xs, .int .i64 xm, .int .i64 xe, .int .i64 xa, .int .i64 xb, .int .i64 xn, .string ⟨xt.toArray⟩, .slice xA xl.length xcc] 31)).heap.size = w.heap.size + 1 from by simp] at h
                exact h
              have HA := Lib.hid ta
              have HB := Lib.hid tb
              have BW := Lib.hid hb0
              have HW := Lib.hid hW0
              clear hW0 hb0 ta tb
              go_enter Try.func20, Try.ntmps20
              go_wp2_with fail
              rw [← HW.out]
              refine (HS.out _ BW.out).mono ?_
              rintro e w1 ⟨rfl, hb⟩
              have HB1 := Lib.hid (below_trans BW.out hb BW.out.size)
              have c0 : w1.cell? ⟨w.heap.size, 0, none⟩ = some (.int .i64 xk) := (HA.out.below hb).cell 0
              have c1 : w1.cell? ⟨w.heap.size, 1, none⟩ = some (.int .i64 xc) := (HA.out.below hb).cell 1
              have c2 : w1.cell? ⟨w.heap.size, 2, none⟩ = some (.int .i64 xo) := (HA.out.below hb).cell 2
              have c3 : w1.cell? ⟨w.heap.size, 3, none⟩ = some (.int .i64 xs) := (HA.out.below hb).cell 3
              have c4 : w1.cell? ⟨w.heap.size, 4, none⟩ = some (.int .i64 xm) := (HA.out.below hb).cell 4
              have c5 : w1.cell? ⟨w.heap.size, 5, none⟩ = some (.int .i64 xe) := (HA.out.below hb).cell 5
              have c6 : w1.cell? ⟨w.heap.size, 6, none⟩ = some (.int .i64 xa) := (HA.out.below hb).cell 6
              have c7 : w1.cell? ⟨w.heap.size, 7, none⟩ = some (.int .i64 xb) := (HA.out.below hb).cell 7
              have c8 : w1.cell? ⟨w.heap.size, 8, none⟩ = some (.int .i64 xn) := (HA.out.below hb).cell 8
              have c9 : w1.cell? ⟨w.heap.size, 9, none⟩ = some (.string ⟨xt.toArray⟩) := (HA.out.below hb).cell 9
              have c10 : w1.cell? ⟨w.heap.size, 10, none⟩ = some (.slice xA xl.length xcc) := (HA.out.below hb).cell 10
              have d0 : w1.cell? ⟨w.heap.size + 1, 0, none⟩ = some (.int .i64 xk) := (HB.out.below hb).cell 0
              have d1 : w1.cell? ⟨w.heap.size + 1, 1, none⟩ = some (.int .i64 xc) := (HB.out.below hb).cell 1
              have d2 : w1.cell? ⟨w.heap.size + 1, 2, none⟩ = some (.int .i64 xo) := (HB.out.below hb).cell 2
              have d3 : w1.cell? ⟨w.heap.size + 1, 3, none⟩ = some (.int .i64 xs) := (HB.out.below hb).cell 3
              have d4 : w1.cell? ⟨w.heap.size + 1, 4, none⟩ = some (.int .i64 ym) := (HB.out.below hb).cell 4
              have d5 : w1.cell? ⟨w.heap.size + 1, 5, none⟩ = some (.int .i64 ye) := (HB.out.below hb).cell 5
              have d6 : w1.cell? ⟨w.heap.size + 1, 6, none⟩ = some (.int .i64 ya) := (HB.out.below hb).cell 6
              have d7 : w1.cell? ⟨w.heap.size + 1, 7, none⟩ = some (.int .i64 yb) := (HB.out.below hb).cell 7
              have d8 : w1.cell? ⟨w.heap.size + 1, 8, none⟩ = some (.int .i64 yn) := (HB.out.below hb).cell 8
              have d9 : w1.cell? ⟨w.heap.size + 1, 9, none⟩ = some (.string ⟨yt.toArray⟩) := (HB.out.below hb).cell 9
              have d10 : w1.cell? ⟨w.heap.size + 1, 10, none⟩ = some (.slice yA yl.length ycc) := (HB.out.below hb).cell 10
              clear hb
              go_wp2_with fail
              go_ret
              exact ⟨by rw [HR.out]; rfl, HB1.out⟩
          · have HR := Lib.hid (show sameR ⟨xk, xc, xo, xs, xm, xe, xa, xb, xn, xt, xl⟩ ⟨xk, xc, xo, ys, ym, ye, ya, yb, yn, yt, yl⟩ = false from by unfold sameR; simp [hs, hf])
            clear hs
            have hne : (xs == ys) = false := by rw [beq_eq_false_iff_ne]; exact hf
            clear hf
            obtain ⟨W0, hW0⟩ : ∃ W0, W0 = (w.alloc (.cells #[.int .i64 xk, .int .i64 xc, .int .i64 xo, .int .i64 xs, .int .i64 xm, .int .i64 xe, .int .i64 xa, .int .i64 xb, .int .i64 xn, .string ⟨xt.toArray⟩, .slice xA xl.length xcc] 31)).alloc (.cells #[.int .i64 xk, .int .i64 xc, .int .i64 xo, .int .i64 ys, .int .i64 ym, .int .i64 ye, .int .i64 ya, .int .i64 yb, .int .i64 yn, .string ⟨yt.toArray⟩, .slice yA yl.length ycc] 31) := ⟨_, rfl⟩
            have hb0 : Below w.heap.size w W0 := by rw [hW0]; exact ((Below.refl _ _).alloc (Nat.le_refl _) _).alloc (by simp) _
            have ta : TBox W0 w.heap.size 31 #[.int .i64 xk, .int .i64 xc, .int .i64 xo, .int .i64 xs, .int .i64 xm, .int .i64 xe, .int .i64 xa, .int .i64 xb, .int .i64 xn, .string ⟨xt.toArray⟩, .slice xA xl.length xcc] := by rw [hW0]; exact (TBox.new _ _ _).below ((Below.refl _ _).alloc (Nat.le_refl _) _)
            have tb : TBox W0 (w.heap.size + 1) 31 #[.int .i64 xk, .int .i64 xc, .int .i64 xo, .int .i64 ys, .int .i64 ym, .int .i64 ye, .int .i64 ya, .int .i64 yb, .int .i64 yn, .string ⟨yt.toArray⟩, .slice yA yl.length ycc] := by
              rw [hW0]
              have h := TBox.new (w.alloc (.cells #[.int .i64 xk, .int .i64 xc, .int .i64 xo, .int .i64 xs, .int .i64 xm, .int .i64 xe, .int .i64 xa, .int .i64 xb, .int .i64 xn, .string ⟨xt.toArray⟩, .slice xA xl.length xcc] 31)) 31 #[.int .i64 xk, .int .i64 xc, .int .i64 xo, .int .i64 ys, .int .i64 ym, .int .i64 ye, .int .i64 ya, .int .i64 yb, .int .i64 yn, .string ⟨yt.toArray⟩, .slice yA yl.length ycc]
              rw [show (w.alloc (.cells #[.int .i64 xk, .int .i64 xc, .int .i64 xo, .int .i64 xs, .int .i64 xm, .int .i64 xe, .int .i64 xa, .int .i64 xb, .int .i64 xn, .string ⟨xt.toArray⟩, .slice xA xl.length xcc] 31)).heap.size = w.heap.size + 1 from by simp] at h
              exact h
            have HA := Lib.hid ta
            have HB := Lib.hid tb
            have BW := Lib.hid hb0
            have HW := Lib.hid hW0
            clear hW0 hb0 ta tb
            go_enter Try.func20, Try.ntmps20
            go_wp2_with fail
            rw [← HW.out]
            refine (HS.out _ BW.out).mono ?_
            rintro e w1 ⟨rfl, hb⟩
            have HB1 := Lib.hid (below_trans BW.out hb BW.out.size)
            have c0 : w1.cell? ⟨w.heap.size, 0, none⟩ = some (.int .i64 xk) := (HA.out.below hb).cell 0
            have c1 : w1.cell? ⟨w.heap.size, 1, none⟩ = some (.int .i64 xc) := (HA.out.below hb).cell 1
            have c2 : w1.cell? ⟨w.heap.size, 2, none⟩ = some (.int .i64 xo) := (HA.out.below hb).cell 2
            have c3 : w1.cell? ⟨w.heap.size, 3, none⟩ = some (.int .i64 xs) := (HA.out.below hb).cell 3
            have c4 : w1.cell? ⟨w.heap.size, 4, none⟩ = some (.int .i64 xm) := (HA.out.below hb).cell 4
            have c5 : w1.cell? ⟨w.heap.size, 5, none⟩ = some (.int .i64 xe) := (HA.out.below hb).cell 5
            have c6 : w1.cell? ⟨w.heap.size, 6, none⟩ = some (.int .i64 xa) := (HA.out.below hb).cell 6
            have c7 : w1.cell? ⟨w.heap.size, 7, none⟩ = some (.int .i64 xb) := (HA.out.below hb).cell 7
            have c8 : w1.cell? ⟨w.heap.size, 8, none⟩ = some (.int .i64 xn) := (HA.out.below hb).cell 8
            have c9 : w1.cell? ⟨w.heap.size, 9, none⟩ = some (.string ⟨xt.toArray⟩) := (HA.out.below hb).cell 9
            have c10 : w1.cell? ⟨w.heap.size, 10, none⟩ = some (.slice xA xl.length xcc) := (HA.out.below hb).cell 10
            have d0 : w1.cell? ⟨w.heap.size + 1, 0, none⟩ = some (.int .i64 xk) := (HB.out.below hb).cell 0
            have d1 : w1.cell? ⟨w.heap.size + 1, 1, none⟩ = some (.int .i64 xc) := (HB.out.below hb).cell 1
            have d2 : w1.cell? ⟨w.heap.size + 1, 2, none⟩ = some (.int .i64 xo) := (HB.out.below hb).cell 2
            have d3 : w1.cell? ⟨w.heap.size + 1, 3, none⟩ = some (.int .i64 ys) := (HB.out.below hb).cell 3
            have d4 : w1.cell? ⟨w.heap.size + 1, 4, none⟩ = some (.int .i64 ym) := (HB.out.below hb).cell 4
            have d5 : w1.cell? ⟨w.heap.size + 1, 5, none⟩ = some (.int .i64 ye) := (HB.out.below hb).cell 5
            have d6 : w1.cell? ⟨w.heap.size + 1, 6, none⟩ = some (.int .i64 ya) := (HB.out.below hb).cell 6
            have d7 : w1.cell? ⟨w.heap.size + 1, 7, none⟩ = some (.int .i64 yb) := (HB.out.below hb).cell 7
            have d8 : w1.cell? ⟨w.heap.size + 1, 8, none⟩ = some (.int .i64 yn) := (HB.out.below hb).cell 8
            have d9 : w1.cell? ⟨w.heap.size + 1, 9, none⟩ = some (.string ⟨yt.toArray⟩) := (HB.out.below hb).cell 9
            have d10 : w1.cell? ⟨w.heap.size + 1, 10, none⟩ = some (.slice yA yl.length ycc) := (HB.out.below hb).cell 10
            clear hb
            go_wp2_with fail
            go_ret
            exact ⟨by rw [HR.out]; rfl, HB1.out⟩
        · have HR := Lib.hid (show sameR ⟨xk, xc, xo, xs, xm, xe, xa, xb, xn, xt, xl⟩ ⟨xk, xc, yo, ys, ym, ye, ya, yb, yn, yt, yl⟩ = false from by unfold sameR; simp [hs, hf])
          clear hs
          have hne : (xo == yo) = false := by rw [beq_eq_false_iff_ne]; exact hf
          clear hf
          obtain ⟨W0, hW0⟩ : ∃ W0, W0 = (w.alloc (.cells #[.int .i64 xk, .int .i64 xc, .int .i64 xo, .int .i64 xs, .int .i64 xm, .int .i64 xe, .int .i64 xa, .int .i64 xb, .int .i64 xn, .string ⟨xt.toArray⟩, .slice xA xl.length xcc] 31)).alloc (.cells #[.int .i64 xk, .int .i64 xc, .int .i64 yo, .int .i64 ys, .int .i64 ym, .int .i64 ye, .int .i64 ya, .int .i64 yb, .int .i64 yn, .string ⟨yt.toArray⟩, .slice yA yl.length ycc] 31) := ⟨_, rfl⟩
          have hb0 : Below w.heap.size w W0 := by rw [hW0]; exact ((Below.refl _ _).alloc (Nat.le_refl _) _).alloc (by simp) _
          have ta : TBox W0 w.heap.size 31 #[.int .i64 xk, .int .i64 xc, .int .i64 xo, .int .i64 xs, .int .i64 xm, .int .i64 xe, .int .i64 xa, .int .i64 xb, .int .i64 xn, .string ⟨xt.toArray⟩, .slice xA xl.length xcc] := by rw [hW0]; exact (TBox.new _ _ _).below ((Below.refl _ _).alloc (Nat.le_refl _) _)
          have tb : TBox W0 (w.heap.size + 1) 31 #[.int .i64 xk, .int .i64 xc, .int .i64 yo, .int .i64 ys, .int .i64 ym, .int .i64 ye, .int .i64 ya, .int .i64 yb, .int .i64 yn, .string ⟨yt.toArray⟩, .slice yA yl.length ycc] := by
            rw [hW0]
            have h := TBox.new (w.alloc (.cells #[.int .i64 xk, .int .i64 xc, .int .i64 xo, .int .i64 xs, .int .i64 xm, .int .i64 xe, .int .i64 xa, .int .i64 xb, .int .i64 xn, .string ⟨xt.toArray⟩, .slice xA xl.length xcc] 31)) 31 #[.int .i64 xk, .int .i64 xc, .int .i64 yo, .int .i64 ys, .int .i64 ym, .int .i64 ye, .int .i64 ya, .int .i64 yb, .int .i64 yn, .string ⟨yt.toArray⟩, .slice yA yl.length ycc]
            rw [show (w.alloc (.cells #[.int .i64 xk, .int .i64 xc, .int .i64 xo, .int .i64 xs, .int .i64 xm, .int .i64 xe, .int .i64 xa, .int .i64 xb, .int .i64 xn, .string ⟨xt.toArray⟩, .slice xA xl.length xcc] 31)).heap.size = w.heap.size + 1 from by simp] at h
            exact h
          have HA := Lib.hid ta
          have HB := Lib.hid tb
          have BW := Lib.hid hb0
          have HW := Lib.hid hW0
          clear hW0 hb0 ta tb
          go_enter Try.func20, Try.ntmps20
          go_wp2_with fail
          rw [← HW.out]
          refine (HS.out _ BW.out).mono ?_
          rintro e w1 ⟨rfl, hb⟩
          have HB1 := Lib.hid (below_trans BW.out hb BW.out.size)
          have c0 : w1.cell? ⟨w.heap.size, 0, none⟩ = some (.int .i64 xk) := (HA.out.below hb).cell 0
          have c1 : w1.cell? ⟨w.heap.size, 1, none⟩ = some (.int .i64 xc) := (HA.out.below hb).cell 1
          have c2 : w1.cell? ⟨w.heap.size, 2, none⟩ = some (.int .i64 xo) := (HA.out.below hb).cell 2
          have c3 : w1.cell? ⟨w.heap.size, 3, none⟩ = some (.int .i64 xs) := (HA.out.below hb).cell 3
          have c4 : w1.cell? ⟨w.heap.size, 4, none⟩ = some (.int .i64 xm) := (HA.out.below hb).cell 4
          have c5 : w1.cell? ⟨w.heap.size, 5, none⟩ = some (.int .i64 xe) := (HA.out.below hb).cell 5
          have c6 : w1.cell? ⟨w.heap.size, 6, none⟩ = some (.int .i64 xa) := (HA.out.below hb).cell 6
          have c7 : w1.cell? ⟨w.heap.size, 7, none⟩ = some (.int .i64 xb) := (HA.out.below hb).cell 7
          have c8 : w1.cell? ⟨w.heap.size, 8, none⟩ = some (.int .i64 xn) := (HA.out.below hb).cell 8
          have c9 : w1.cell? ⟨w.heap.size, 9, none⟩ = some (.string ⟨xt.toArray⟩) := (HA.out.below hb).cell 9
          have c10 : w1.cell? ⟨w.heap.size, 10, none⟩ = some (.slice xA xl.length xcc) := (HA.out.below hb).cell 10
          have d0 : w1.cell? ⟨w.heap.size + 1, 0, none⟩ = some (.int .i64 xk) := (HB.out.below hb).cell 0
          have d1 : w1.cell? ⟨w.heap.size + 1, 1, none⟩ = some (.int .i64 xc) := (HB.out.below hb).cell 1
          have d2 : w1.cell? ⟨w.heap.size + 1, 2, none⟩ = some (.int .i64 yo) := (HB.out.below hb).cell 2
          have d3 : w1.cell? ⟨w.heap.size + 1, 3, none⟩ = some (.int .i64 ys) := (HB.out.below hb).cell 3
          have d4 : w1.cell? ⟨w.heap.size + 1, 4, none⟩ = some (.int .i64 ym) := (HB.out.below hb).cell 4
          have d5 : w1.cell? ⟨w.heap.size + 1, 5, none⟩ = some (.int .i64 ye) := (HB.out.below hb).cell 5
          have d6 : w1.cell? ⟨w.heap.size + 1, 6, none⟩ = some (.int .i64 ya) := (HB.out.below hb).cell 6
          have d7 : w1.cell? ⟨w.heap.size + 1, 7, none⟩ = some (.int .i64 yb) := (HB.out.below hb).cell 7
          have d8 : w1.cell? ⟨w.heap.size + 1, 8, none⟩ = some (.int .i64 yn) := (HB.out.below hb).cell 8
          have d9 : w1.cell? ⟨w.heap.size + 1, 9, none⟩ = some (.string ⟨yt.toArray⟩) := (HB.out.below hb).cell 9
          have d10 : w1.cell? ⟨w.heap.size + 1, 10, none⟩ = some (.slice yA yl.length ycc) := (HB.out.below hb).cell 10
          clear hb
          go_wp2_with fail
          go_ret
          exact ⟨by rw [HR.out]; rfl, HB1.out⟩
      · have HR := Lib.hid (show sameR ⟨xk, xc, xo, xs, xm, xe, xa, xb, xn, xt, xl⟩ ⟨xk, yc, yo, ys, ym, ye, ya, yb, yn, yt, yl⟩ = false from by unfold sameR; simp [hs, hf])
        clear hs
        have hne : (xc == yc) = false := by rw [beq_eq_false_iff_ne]; exact hf
        clear hf
        obtain ⟨W0, hW0⟩ : ∃ W0, W0 = (w.alloc (.cells #[.int .i64 xk, .int .i64 xc, .int .i64 xo, .int .i64 xs, .int .i64 xm, .int .i64 xe, .int .i64 xa, .int .i64 xb, .int .i64 xn, .string ⟨xt.toArray⟩, .slice xA xl.length xcc] 31)).alloc (.cells #[.int .i64 xk, .int .i64 yc, .int .i64 yo, .int .i64 ys, .int .i64 ym, .int .i64 ye, .int .i64 ya, .int .i64 yb, .int .i64 yn, .string ⟨yt.toArray⟩, .slice yA yl.length ycc] 31) := ⟨_, rfl⟩
        have hb0 : Below w.heap.size w W0 := by rw [hW0]; exact ((Below.refl _ _).alloc (Nat.le_refl _) _).alloc (by simp) _
        have ta : TBox W0 w.heap.size 31 #[.int .i64 xk, .int .i64 xc, .int .i64 xo, .int .i64 xs, .int .i64 xm, .int .i64 xe, .int .i64 xa, .int .i64 xb, .int .i64 xn, .string ⟨xt.toArray⟩, .slice xA xl.length xcc] := by rw [hW0]; exact (TBox.new _ _ _).below ((Below.refl _ _).alloc (Nat.le_refl _) _)
        have tb : TBox W0 (w.heap.size + 1) 31 #[.int .i64 xk, .int .i64 yc, .int .i64 yo, .int .i64 ys, .int .i64 ym, .int .i64 ye, .int .i64 ya, .int .i64 yb, .int .i64 yn, .string ⟨yt.toArray⟩, .slice yA yl.length ycc] := by
          rw [hW0]
          have h := TBox.new (w.alloc (.cells #[.int .i64 xk, .int .i64 xc, .int .i64 xo, .int .i64 xs, .int .i64 xm, .int .i64 xe, .int .i64 xa, .int .i64 xb, .int .i64 xn, .string ⟨xt.toArray⟩, .slice xA xl.length xcc] 31)) 31 #[.int .i64 xk, .int .i64 yc, .int .i64 yo, .int .i64 ys, .int .i64 ym, .int .i64 ye, .int .i64 ya, .int .i64 yb, .int .i64 yn, .string ⟨yt.toArray⟩, .slice yA yl.length ycc]
          rw [show (w.alloc (.cells #[.int .i64 xk, .int .i64 xc, .int .i64 xo, .int .i64 xs, .int .i64 xm, .int .i64 xe, .int .i64 xa, .int .i64 xb, .int .i64 xn, .string ⟨xt.toArray⟩, .slice xA xl.length xcc] 31)).heap.size = w.heap.size + 1 from by simp] at h
          exact h
        have HA := Lib.hid ta
        have HB := Lib.hid tb
        have BW := Lib.hid hb0
        have HW := Lib.hid hW0
        clear hW0 hb0 ta tb
        go_enter Try.func20, Try.ntmps20
        go_wp2_with fail
        rw [← HW.out]
        refine (HS.out _ BW.out).mono ?_
        rintro e w1 ⟨rfl, hb⟩
        have HB1 := Lib.hid (below_trans BW.out hb BW.out.size)
        have c0 : w1.cell? ⟨w.heap.size, 0, none⟩ = some (.int .i64 xk) := (HA.out.below hb).cell 0
        have c1 : w1.cell? ⟨w.heap.size, 1, none⟩ = some (.int .i64 xc) := (HA.out.below hb).cell 1
        have c2 : w1.cell? ⟨w.heap.size, 2, none⟩ = some (.int .i64 xo) := (HA.out.below hb).cell 2
        have c3 : w1.cell? ⟨w.heap.size, 3, none⟩ = some (.int .i64 xs) := (HA.out.below hb).cell 3
        have c4 : w1.cell? ⟨w.heap.size, 4, none⟩ = some (.int .i64 xm) := (HA.out.below hb).cell 4
        have c5 : w1.cell? ⟨w.heap.size, 5, none⟩ = some (.int .i64 xe) := (HA.out.below hb).cell 5
        have c6 : w1.cell? ⟨w.heap.size, 6, none⟩ = some (.int .i64 xa) := (HA.out.below hb).cell 6
        have c7 : w1.cell? ⟨w.heap.size, 7, none⟩ = some (.int .i64 xb) := (HA.out.below hb).cell 7
        have c8 : w1.cell? ⟨w.heap.size, 8, none⟩ = some (.int .i64 xn) := (HA.out.below hb).cell 8
        have c9 : w1.cell? ⟨w.heap.size, 9, none⟩ = some (.string ⟨xt.toArray⟩) := (HA.out.below hb).cell 9
        have c10 : w1.cell? ⟨w.heap.size, 10, none⟩ = some (.slice xA xl.length xcc) := (HA.out.below hb).cell 10
        have d0 : w1.cell? ⟨w.heap.size + 1, 0, none⟩ = some (.int .i64 xk) := (HB.out.below hb).cell 0
        have d1 : w1.cell? ⟨w.heap.size + 1, 1, none⟩ = some (.int .i64 yc) := (HB.out.below hb).cell 1
        have d2 : w1.cell? ⟨w.heap.size + 1, 2, none⟩ = some (.int .i64 yo) := (HB.out.below hb).cell 2
        have d3 : w1.cell? ⟨w.heap.size + 1, 3, none⟩ = some (.int .i64 ys) := (HB.out.below hb).cell 3
        have d4 : w1.cell? ⟨w.heap.size + 1, 4, none⟩ = some (.int .i64 ym) := (HB.out.below hb).cell 4
        have d5 : w1.cell? ⟨w.heap.size + 1, 5, none⟩ = some (.int .i64 ye) := (HB.out.below hb).cell 5
        have d6 : w1.cell? ⟨w.heap.size + 1, 6, none⟩ = some (.int .i64 ya) := (HB.out.below hb).cell 6
        have d7 : w1.cell? ⟨w.heap.size + 1, 7, none⟩ = some (.int .i64 yb) := (HB.out.below hb).cell 7
        have d8 : w1.cell? ⟨w.heap.size + 1, 8, none⟩ = some (.int .i64 yn) := (HB.out.below hb).cell 8
        have d9 : w1.cell? ⟨w.heap.size + 1, 9, none⟩ = some (.string ⟨yt.toArray⟩) := (HB.out.below hb).cell 9
        have d10 : w1.cell? ⟨w.heap.size + 1, 10, none⟩ = some (.slice yA yl.length ycc) := (HB.out.below hb).cell 10
        clear hb
        go_wp2_with fail
        go_ret
        exact ⟨by rw [HR.out]; rfl, HB1.out⟩
    · have HR := Lib.hid (show sameR ⟨xk, xc, xo, xs, xm, xe, xa, xb, xn, xt, xl⟩ ⟨yk, yc, yo, ys, ym, ye, ya, yb, yn, yt, yl⟩ = false from by unfold sameR; simp [hs, hf])
      clear hs
      have hne : (xk == yk) = false := by rw [beq_eq_false_iff_ne]; exact hf
      clear hf
      obtain ⟨W0, hW0⟩ : ∃ W0, W0 = (w.alloc (.cells #[.int .i64 xk, .int .i64 xc, .int .i64 xo, .int .i64 xs, .int .i64 xm, .int .i64 xe, .int .i64 xa, .int .i64 xb, .int .i64 xn, .string ⟨xt.toArray⟩, .slice xA xl.length xcc] 31)).alloc (.cells #[.int .i64 yk, .int .i64 yc, .int .i64 yo, .int .i64 ys, .int .i64 ym, .int .i64 ye, .int .i64 ya, .int .i64 yb, .int .i64 yn, .string ⟨yt.toArray⟩, .slice yA yl.length ycc] 31) := ⟨_, rfl⟩
      have hb0 : Below w.heap.size w W0 := by rw [hW0]; exact ((Below.refl _ _).alloc (Nat.le_refl _) _).alloc (by simp) _
      have ta : TBox W0 w.heap.size 31 #[.int .i64 xk, .int .i64 xc, .int .i64 xo, .int .i64 xs, .int .i64 xm, .int .i64 xe, .int .i64 xa, .int .i64 xb, .int .i64 xn, .string ⟨xt.toArray⟩, .slice xA xl.length xcc] := by rw [hW0]; exact (TBox.new _ _ _).below ((Below.refl _ _).alloc (Nat.le_refl _) _)
      have tb : TBox W0 (w.heap.size + 1) 31 #[.int .i64 yk, .int .i64 yc, .int .i64 yo, .int .i64 ys, .int .i64 ym, .int .i64 ye, .int .i64 ya, .int .i64 yb, .int .i64 yn, .string ⟨yt.toArray⟩, .slice yA yl.length ycc] := by
        rw [hW0]
        have h := TBox.new (w.alloc (.cells #[.int .i64 xk, .int .i64 xc, .int .i64 xo, .int .i64 xs, .int .i64 xm, .int .i64 xe, .int .i64 xa, .int .i64 xb, .int .i64 xn, .string ⟨xt.toArray⟩, .slice xA xl.length xcc] 31)) 31 #[.int .i64 yk, .int .i64 yc, .int .i64 yo, .int .i64 ys, .int .i64 ym, .int .i64 ye, .int .i64 ya, .int .i64 yb, .int .i64 yn, .string ⟨yt.toArray⟩, .slice yA yl.length ycc]
        rw [show (w.alloc (.cells #[.int .i64 xk, .int .i64 xc, .int .i64 xo, .int .i64 xs, .int .i64 xm, .int .i64 xe, .int .i64 xa, .int .i64 xb, .int .i64 xn, .string ⟨xt.toArray⟩, .slice xA xl.length xcc] 31)).heap.size = w.heap.size + 1 from by simp] at h
        exact h
      have HA := Lib.hid ta
      have HB := Lib.hid tb
      have BW := Lib.hid hb0
      have HW := Lib.hid hW0
      clear hW0 hb0 ta tb
      go_enter Try.func20, Try.ntmps20
      go_wp2_with fail
      rw [← HW.out]
      refine (HS.out _ BW.out).mono ?_
      rintro e w1 ⟨rfl, hb⟩
      have HB1 := Lib.hid (below_trans BW.out hb BW.out.size)
      have c0 : w1.cell? ⟨w.heap.size, 0, none⟩ = some (.int .i64 xk) := (HA.out.below hb).cell 0
      have c1 : w1.cell? ⟨w.heap.size, 1, none⟩ = some (.int .i64 xc) := (HA.out.below hb).cell 1
      have c2 : w1.cell? ⟨w.heap.size, 2, none⟩ = some (.int .i64 xo) := (HA.out.below hb).cell 2
      have c3 : w1.cell? ⟨w.heap.size, 3, none⟩ = some (.int .i64 xs) := (HA.out.below hb).cell 3
      have c4 : w1.cell? ⟨w.heap.size, 4, none⟩ = some (.int .i64 xm) := (HA.out.below hb).cell 4
      have c5 : w1.cell? ⟨w.heap.size, 5, none⟩ = some (.int .i64 xe) := (HA.out.below hb).cell 5
      have c6 : w1.cell? ⟨w.heap.size, 6, none⟩ = some (.int .i64 xa) := (HA.out.below hb).cell 6
      have c7 : w1.cell? ⟨w.heap.size, 7, none⟩ = some (.int .i64 xb) := (HA.out.below hb).cell 7
      have c8 : w1.cell? ⟨w.heap.size, 8, none⟩ = some (.int .i64 xn) := (HA.out.below hb).cell 8
      have c9 : w1.cell? ⟨w.heap.size, 9, none⟩ = some (.string ⟨xt.toArray⟩) := (HA.out.below hb).cell 9
      have c10 : w1.cell? ⟨w.heap.size, 10, none⟩ = some (.slice xA xl.length xcc) := (HA.out.below hb).cell 10
      have d0 : w1.cell? ⟨w.heap.size + 1, 0, none⟩ = some (.int .i64 yk) := (HB.out.below hb).cell 0
      have d1 : w1.cell? ⟨w.heap.size + 1, 1, none⟩ = some (.int .i64 yc) := (HB.out.below hb).cell 1
      have d2 : w1.cell? ⟨w.heap.size + 1, 2, none⟩ = some (.int .i64 yo) := (HB.out.below hb).cell 2
      have d3 : w1.cell? ⟨w.heap.size + 1, 3, none⟩ = some (.int .i64 ys) := (HB.out.below hb).cell 3
      have d4 : w1.cell? ⟨w.heap.size + 1, 4, none⟩ = some (.int .i64 ym) := (HB.out.below hb).cell 4
      have d5 : w1.cell? ⟨w.heap.size + 1, 5, none⟩ = some (.int .i64 ye) := (HB.out.below hb).cell 5
      have d6 : w1.cell? ⟨w.heap.size + 1, 6, none⟩ = some (.int .i64 ya) := (HB.out.below hb).cell 6
      have d7 : w1.cell? ⟨w.heap.size + 1, 7, none⟩ = some (.int .i64 yb) := (HB.out.below hb).cell 7
      have d8 : w1.cell? ⟨w.heap.size + 1, 8, none⟩ = some (.int .i64 yn) := (HB.out.below hb).cell 8
      have d9 : w1.cell? ⟨w.heap.size + 1, 9, none⟩ = some (.string ⟨yt.toArray⟩) := (HB.out.below hb).cell 9
      have d10 : w1.cell? ⟨w.heap.size + 1, 10, none⟩ = some (.slice yA yl.length ycc) := (HB.out.below hb).cell 10
      clear hb
      go_wp2_with fail
      go_ret
      exact ⟨by rw [HR.out]; rfl, HB1.out⟩

end Go.Proofs.Ytpojhcpkmpbflaa
