/- data.Pieces, data.Patch, copyholdref03.Same: over spans of whole numbers they answer as the document says; old memory is as it was. -/
import Derived.Test.YtgmpgmhbfkdalaaUnlike
import Derived.Test.YtgmpgmhbfkdalaaSpanParts
set_option linter.unusedVariables false
namespace Go.Proofs.Ytgmpgmhbfkdalaa
open Go.RowKit Copyhold
attribute [local go_sem] piece

/-- some parts of a text -/
def piecesD (s : List UInt8) (xs : List (Nat × Nat)) : List (List UInt8) := xs.map fun p => (readD s p.1 p.2).1

/-- are they spans of whole numbers that may be? -/
def Small (xs : List (Nat × Nat)) : Prop := ∀ p ∈ xs, p.1 ≤ 1099511627776 ∧ p.2 ≤ 1099511627776

theorem info_string : (Try.prog.info? 9).map (fun i => (i.zero, i.size, i.bytes)) = some (some (.string ByteArray.empty), 1, 16) := by kernel_rfl

theorem madeOne (z : Value) (h : z.cells = #[z]) (n : Nat) : madeCells z.cells n = (List.replicate n z).toArray := by
  unfold madeCells
  rw [h]
  apply Array.ext
  · simp
  · intro i h1 h2
    simp [Nat.mod_one]

theorem run_make_strings (w : World) (n : Nat) (hn : n ≤ 8796093022208) : (Instr.makeSlice 36 (.int .i64 (n : Int)) (.int .i64 (n : Int))).run Try.prog w = .ok (.slice (some ⟨w.heap.size, 0, none⟩) n n) (w.alloc (.cells (List.replicate n (strV [])).toArray 9)) := by
  have h := run_make (P := Try.prog) w 36 9 _ (strV []) rfl rfl rfl .i64 .i64 (n : Int) (n : Int) (by omega) (by omega) (by show (16 : Int) * _ ≤ _; omega) (by omega)
  rw [madeOne _ rfl, show (Try.prog.types[9]'(by decide)).size = 1 from rfl, Nat.mul_one, Int.toNat_natCast] at h
  exact h

/-- texts of the call's own -/
def RetTexts (w : World) (ls : List (List UInt8)) (e : Ending) (w' : World) : Prop :=
  ∃ v, e = .returned v ∧ w'.ownsRow w.heap.size 9 1 v ls.length (ls.map strV) ∧ Below w.heap.size w w'

theorem set_fill {α : Type} (a : List α) (n : Nat) (z x : α) (h : 0 < n) : (a ++ List.replicate n z).set a.length x = a ++ [x] ++ List.replicate (n - 1) z := by
  obtain ⟨m, rfl⟩ : ∃ m, n = m + 1 := ⟨n - 1, by omega⟩
  rw [List.set_append_right _ _ (Nat.le_refl _), Nat.sub_self, List.replicate_succ]
  simp

theorem below_dn' {B : Nat} {a w : World} (h : Below B a w) (n : Nat) : Below B a (w.drewN n) := ⟨h.os, h.tape, h.output, h.size, h.block⟩

set_option maxHeartbeats 1000000 in
theorem data_Pieces (s : List UInt8) (xs : List (Nat × Nat)) (lv : Value) (w : World) (hl : s.length ≤ 140737488355328) (hn : xs.length ≤ 8796093022208) (hx : Small xs) (hr : Row w lv (xs.map spanV)) :
    Calls Try.prog 25 #[.string ⟨s.toArray⟩, lv] w (RetTexts w (piecesD s xs)) := by
  obtain ⟨A, c, rfl⟩ := hr.shape
  rw [List.length_map] at hr ⊢
  obtain ⟨n, hN⟩ : ∃ n, n = xs.length := ⟨_, rfl⟩
  rw [← hN] at hr hn ⊢
  have HN := Lib.hid hN
  have hmk := run_make_strings w n hn
  have HX := Lib.hid hx
  have HR := Lib.hid hr
  have hb0 := (Below.refl w.heap.size w).alloc (Nat.le_refl _) (.cells (List.replicate n (strV [])).toArray 9)
  have ho0 := owns_built (w := w) (base := w.heap.size) (e := 9) (List.replicate n (strV [])).toArray (Nat.le_refl _) (by unfold maxLen; simp; omega)
  rw [show (List.replicate n (strV [])).toArray.size = n from by simp] at ho0
  obtain ⟨W, hW⟩ : ∃ W, W = w.alloc (.cells (List.replicate n (strV [])).toArray 9) := ⟨_, rfl⟩
  rw [← hW] at hmk hb0 ho0
  have HB0 := Lib.hid hb0
  have HO0 := Lib.hid ho0
  clear hN hx hr hb0 ho0 hW
  go_enter Try.func25, Try.ntmps25
  go_wp2_with fail
  go_loopw [15] (fun si wr => ∃ k : Nat, si = .int .i64 k ∧ k ≤ n ∧ wr.ownsRow w.heap.size 9 1 (.slice (some ⟨w.heap.size, 0, none⟩) n n) n ((piecesD s (xs.take k)).map strV ++ List.replicate (n - k) (strV [])) ∧ Below w.heap.size w wr) (fun si _ => n - (intOf si).toNat)
  case atStart => exact ⟨0, rfl, Nat.zero_le _, by simpa [piecesD] using HO0.out, HB0.out⟩
  case round =>
    obtain ⟨k, rfl, hk, hown, hb⟩ := hrel
    have HOWN := Lib.hid hown
    clear hown
    by_cases hlt : k < n
    · have hkx : k < xs.length := by have := HN.out; omega
      obtain ⟨p, hp⟩ : ∃ p, p = xs[k] := ⟨_, rfl⟩
      have hsm := HX.out p (by rw [hp]; exact List.getElem_mem _)
      have hget : (xs.map spanV)[k]? = some (spanV p) := by rw [List.getElem?_map, List.getElem?_eq_getElem hkx, hp]; rfl
      obtain ⟨b, off, rfl, hbk, hlen, hcl⟩ := (HR.out.below hb).at k hget
      have hcell : wr.cell? ⟨b, off + k, none⟩ = some (.complex .f64 (fl p.1) (fl p.2)) := hcl k _ hget
      have hst := (HOWN.out.stored k (strV (readD s p.1 p.2).1)).1
      have hfr := HOWN.out.frozenAt k
      have hnew : ((piecesD s (xs.take k)).map strV ++ List.replicate (n - k) (strV [])).set k (strV (readD s p.1 p.2).1) = (piecesD s (xs.take (k + 1))).map strV ++ List.replicate (n - (k + 1)) (strV []) := by
        have hll : ((piecesD s (xs.take k)).map strV).length = k := by simp [piecesD]; omega
        have := set_fill ((piecesD s (xs.take k)).map strV) (n - k) (strV []) (strV (readD s p.1 p.2).1) (by omega)
        rw [hll] at this
        rw [this, List.take_succ_eq_append_getElem hkx, ← hp, show n - k - 1 = n - (k + 1) from by omega]
        simp [piecesD]
      rw [hnew] at hst
      have hcu : wr.cell? ⟨w.heap.size, k, none⟩ = some (strV []) := by
        have hll : ((piecesD s (xs.take k)).map strV).length = k := by simp [piecesD]; omega
        rw [HOWN.out.cellAt k (by omega), List.getElem?_append_right (by omega), hll, List.getElem?_replicate, if_pos (by omega)]
      have HST := Lib.hid hst
      clear hst hnew hcl hget hp
      go_wp2_with fail
      refine (span_Parts p.1 p.2 _ (by omega) (by omega)).mono ?_
      rintro e w1 ⟨rfl, rfl⟩
      go_wp2_with fail
      refine (data_Read s p.1 p.2 _ hl (by omega) (by omega) (by omega) (by omega)).mono ?_
      rintro e w1 ⟨rfl, rfl⟩
      go_wp2_with fail
      go_roundw
      case rel => exact ⟨k + 1, by go_num, by omega, HST.out, hb.setCell (Nat.le_refl _) _⟩
      case measure => simp [intOf]; omega
    · go_wp2_with fail
      go_ret
      have hk' : k = n := by omega
      subst hk'
      refine ⟨_, rfl, ?_, hb⟩
      have h := HOWN.out
      rw [Nat.sub_self, List.replicate_zero, List.append_nil, List.take_of_length_le (by have := HN.out; omega)] at h
      rw [show (piecesD s xs).length = k from by simp [piecesD, HN.out]]
      exact h

/-- a text with pieces written into it; s if one is refused -/
def patchGo (s : List UInt8) : List UInt8 → List (Nat × Nat) → List (List UInt8) → List UInt8 × Int
  | out, p :: xs, t :: ts => if (writeD out p.1 t).2 = 0 then patchGo s (writeD out p.1 t).1 xs ts else (s, (writeD out p.1 t).2)
  | out, _, _ => (out, 0)
def patchD (s : List UInt8) (xs : List (Nat × Nat)) (ts : List (List UInt8)) : List UInt8 × Int := if xs.length = ts.length then patchGo s s xs ts else (s, 1)

theorem writeD_len' (l : List UInt8) (a : Int) (t : List UInt8) (hl : l.length ≤ 140737488355328) : (writeD l a t).1.length ≤ 140737488355328 := by
  unfold writeD
  split
  · rename_i h
    have := refusedD_zero h
    show (if t = [] then l else putD l a.toNat t).length ≤ _
    split
    · exact hl
    · rw [putD_length]; omega
  · exact hl

set_option maxHeartbeats 1000000 in
theorem data_Patch (s : List UInt8) (xs : List (Nat × Nat)) (ts : List (List UInt8)) (lv pv : Value) (w : World) (hl : s.length ≤ 140737488355328) (hn : xs.length ≤ 8796093022208) (_hm : ts.length ≤ 9223372036854775807) (hx : Small xs) (ht : ∀ t ∈ ts, t.length ≤ 140737488355328)
    (hr : Row w lv (xs.map spanV)) (hp : Row w pv (ts.map strV)) :
    Calls Try.prog 19 #[.string ⟨s.toArray⟩, lv, pv] w fun e w' => e = .returned (.tuple #[.string ⟨(patchD s xs ts).1.toArray⟩, .int .i64 (patchD s xs ts).2]) ∧ Below w.heap.size w w' := by
  obtain ⟨A, c, rfl⟩ := hr.shape
  obtain ⟨A', c', rfl⟩ := hp.shape
  rw [List.length_map] at hr hp ⊢
  rw [List.length_map]
  by_cases hle : xs.length = ts.length
  · have hpd : patchD s xs ts = patchGo s s xs ts := if_pos hle
    rw [hpd]
    obtain ⟨n, hN⟩ : ∃ n, n = xs.length := ⟨_, rfl⟩
    rw [← hle, ← hN] at hp ⊢
    rw [← hN] at hr hn
    have HN := Lib.hid hN
    have HM := Lib.hid (hN.trans hle)
    have HX := Lib.hid hx
    have HT := Lib.hid ht
    have HR := Lib.hid hr
    have HP := Lib.hid hp
    obtain ⟨D, hD⟩ : ∃ D, D = patchGo s s xs ts := ⟨_, rfl⟩
    rw [← hD]
    have HD := Lib.hid hD
    clear hN hx hr hp hD hpd hle ht
    go_enter Try.func19, Try.ntmps19
    go_wp2_with fail
    go_loopw [8, 23] (fun so si wr => ∃ (k : Nat) (out : List UInt8), si = .int .i64 k ∧ so = .string ⟨out.toArray⟩ ∧ k ≤ n ∧ out.length ≤ 140737488355328 ∧ D = patchGo s out (xs.drop k) (ts.drop k) ∧ Below w.heap.size w wr) (fun _ si _ => n - (intOf si).toNat)
    case atStart => exact ⟨0, s, rfl, rfl, Nat.zero_le _, hl, HD.out, Below.refl _ _⟩
    case round =>
      obtain ⟨k, out, rfl, rfl, hk, ho, hdk, hb⟩ := hrel
      have HDK := Lib.hid hdk
      clear hdk
      by_cases hlt : k < n
      · have hkx : k < xs.length := by have := HN.out; omega
        have hkt : k < ts.length := by have := HM.out; omega
        obtain ⟨p, hp⟩ : ∃ p, p = xs[k] := ⟨_, rfl⟩
        obtain ⟨t, ht⟩ : ∃ t, t = ts[k] := ⟨_, rfl⟩
        have hsm := HX.out p (by rw [hp]; exact List.getElem_mem _)
        have htl := HT.out t (by rw [ht]; exact List.getElem_mem _)
        have hget : (xs.map spanV)[k]? = some (spanV p) := by rw [List.getElem?_map, List.getElem?_eq_getElem hkx, hp]; rfl
        have hget' : (ts.map strV)[k]? = some (strV t) := by rw [List.getElem?_map, List.getElem?_eq_getElem hkt, ht]; rfl
        obtain ⟨b, off, rfl, hbk, hlen, hcl⟩ := (HR.out.below hb).at k hget
        obtain ⟨b', off', rfl, hbk', hlen', hcl'⟩ := (HP.out).at k hget'
        have hcell : wr.cell? ⟨b, off + k, none⟩ = some (.complex .f64 (fl p.1) (fl p.2)) := hcl k _ hget
        have hcell' : wr.cell? ⟨b', off' + k, none⟩ = some (.string ⟨t.toArray⟩) := (hb.cell (p := ⟨b', off' + k, none⟩) hbk').trans (hcl' k _ hget')
        have hstep : patchGo s out (xs.drop k) (ts.drop k) = if (writeD out p.1 t).2 = 0 then patchGo s (writeD out p.1 t).1 (xs.drop (k + 1)) (ts.drop (k + 1)) else (s, (writeD out p.1 t).2) := by
          rw [List.drop_eq_getElem_cons hkx, List.drop_eq_getElem_cons hkt, ← hp, ← ht]
          rfl
        have hwl := writeD_len' out p.1 t ho
        have HST := Lib.hid hstep
        clear hstep hcl hcl' hget hget' hp ht
        go_wp2_with fail
        refine (span_Parts p.1 p.2 _ (by omega) (by omega)).mono ?_
        rintro e w1 ⟨rfl, rfl⟩
        go_wp2_with fail
        refine (data_Write out p.1 t _ ho htl (by omega) (by omega)).mono ?_
        rintro e w1 ⟨rfl, hb1⟩
        have hb1 := hb.trans (hb1.mono hb.size)
        obtain ⟨z, hz⟩ : ∃ z, z = (writeD out p.1 t).2 := ⟨_, rfl⟩
        rw [← hz]
        by_cases hz0 : z = 0
        · have hd : D = patchGo s (writeD out p.1 t).1 (xs.drop (k + 1)) (ts.drop (k + 1)) := by rw [HDK.out, HST.out, if_pos (by rw [← hz]; exact hz0)]
          have HD2 := Lib.hid hd
          clear hd hz
          subst hz0
          go_wp2_with fail
          go_roundw
          case rel => exact ⟨k + 1, _, by go_num, rfl, by omega, hwl, HD2.out, hb1⟩
          case measure => simp [intOf]; omega
        · have hd : D = (s, z) := by rw [HDK.out, HST.out, if_neg (by rw [← hz]; exact hz0), ← hz]
          have HD2 := Lib.hid hd
          have hq : (z != 0) = true := by simpa using hz0
          clear hd hz hz0
          go_wp2_with fail
          go_ret2
          exact ⟨by rw [HD2.out]; rfl, hb1⟩
      · have hd : D = (out, 0) := by
          rw [HDK.out, List.drop_eq_nil_of_le (by have := HN.out; omega)]
          rfl
        have HD2 := Lib.hid hd
        clear hd
        go_wp2_with fail
        go_ret2
        exact ⟨by rw [HD2.out]; rfl, hb⟩
  · have hpd : patchD s xs ts = (s, 1) := if_neg hle
    rw [hpd]
    have hq : ((xs.length : Int) != (ts.length : Int)) = true := by rw [bne_iff_ne]; omega
    clear hpd hx ht hr hp
    go_enter Try.func19, Try.ntmps19
    go_wp2_with fail
    go_ret2
    exact ⟨rfl, Below.refl _ _⟩

theorem fl_same (a b : Nat) (ha : a < 2 ^ 53) (hb : b < 2 ^ 53) : Op.floatEq .f64 (fl a) (fl b) = decide (a = b) := by
  have h := fl_order a b ha hb
  unfold Op.floatEq
  rw [h]
  rcases Nat.lt_trichotomy a b with h | h | h
  · rw [Nat.compare_eq_lt.2 h, decide_eq_false (by omega)]; rfl
  · subst h; rw [Nat.compare_eq_eq.2 rfl, decide_eq_true rfl]; rfl
  · rw [Nat.compare_eq_gt.2 h, decide_eq_false (by omega)]; rfl

theorem run_complex_neq {P : Program} (w : World) (t : TypeId) (a b c d : Nat) :
    (binOp .neq t (.complex .f64 a b) (.complex .f64 c d)).run P w = .ok (.bool (!(Op.floatEq .f64 a c && Op.floatEq .f64 b d))) w := by
  simp only [binOp]
  simp [Op.complexOp, Op.Complex.cmp, Op.floatCmp, Op.floatEq, asBool]

set_option maxHeartbeats 1000000 in
theorem ref_Same (xs ys : List (Nat × Nat)) (lv pv : Value) (w : World) (hn : xs.length ≤ 9223372036854775807) (hm : ys.length ≤ 9223372036854775807) (hx : Small xs) (hy : Small ys)
    (hr : Row w lv (xs.map spanV)) (hp : Row w pv (ys.map spanV)) :
    Calls Try.prog 21 #[lv, pv] w fun e w' => e = .returned (.bool (decide (xs = ys))) ∧ Below w.heap.size w w' := by
  obtain ⟨A, c, rfl⟩ := hr.shape
  obtain ⟨A', c', rfl⟩ := hp.shape
  rw [List.length_map] at hr hp ⊢
  rw [List.length_map]
  by_cases hle : xs.length = ys.length
  · obtain ⟨n, hN⟩ : ∃ n, n = xs.length := ⟨_, rfl⟩
    rw [← hle, ← hN] at hp ⊢
    rw [← hN] at hr hn
    have HN := Lib.hid hN
    have HM := Lib.hid (hN.trans hle)
    have HX := Lib.hid hx
    have HY := Lib.hid hy
    have HR := Lib.hid hr
    have HP := Lib.hid hp
    obtain ⟨D, hD⟩ : ∃ D, D = decide (xs = ys) := ⟨_, rfl⟩
    rw [← hD]
    have HD := Lib.hid hD
    clear hN hx hr hp hD hle hy
    go_enter Try.func21, Try.ntmps21
    go_wp2_with fail
    go_loopw [5] (fun si wr => ∃ (k : Nat), si = .int .i64 k ∧ k ≤ n ∧ xs.take k = ys.take k ∧ Below w.heap.size w wr) (fun si _ => n - (intOf si).toNat)
    case atStart => exact ⟨0, rfl, Nat.zero_le _, rfl, Below.refl _ _⟩
    case round =>
      obtain ⟨k, rfl, hk, hdk, hb⟩ := hrel
      have HDK := Lib.hid hdk
      clear hdk
      by_cases hlt : k < n
      · have hkx : k < xs.length := by have := HN.out; omega
        have hkt : k < ys.length := by have := HM.out; omega
        obtain ⟨p, hp⟩ : ∃ p, p = xs[k] := ⟨_, rfl⟩
        obtain ⟨q, hq⟩ : ∃ q, q = ys[k] := ⟨_, rfl⟩
        have hsm := HX.out p (by rw [hp]; exact List.getElem_mem _)
        have hsq := HY.out q (by rw [hq]; exact List.getElem_mem _)
        have hget : (xs.map spanV)[k]? = some (spanV p) := by rw [List.getElem?_map, List.getElem?_eq_getElem hkx, hp]; rfl
        have hget' : (ys.map spanV)[k]? = some (spanV q) := by rw [List.getElem?_map, List.getElem?_eq_getElem hkt, hq]; rfl
        obtain ⟨b, off, rfl, hbk, hlen, hcl⟩ := (HR.out.below hb).at k hget
        obtain ⟨b', off', rfl, hbk', hlen', hcl'⟩ := (HP.out).at k hget'
        have hcell : wr.cell? ⟨b, off + k, none⟩ = some (.complex .f64 (fl p.1) (fl p.2)) := hcl k _ hget
        have hcell' : wr.cell? ⟨b', off' + k, none⟩ = some (.complex .f64 (fl q.1) (fl q.2)) := (hb.cell (p := ⟨b', off' + k, none⟩) hbk').trans (hcl' k _ hget')
        have hne := fun W : World => run_complex_neq (P := Try.prog) W 57 (fl p.1) (fl p.2) (fl q.1) (fl q.2)
        rw [fl_same p.1 q.1 (by omega) (by omega), fl_same p.2 q.2 (by omega) (by omega)] at hne
        have hpq : (!(decide (p.1 = q.1) && decide (p.2 = q.2))) = decide (p ≠ q) := by
          rw [Bool.eq_iff_iff]
          simp [Prod.ext_iff]
        rw [hpq] at hne
        by_cases he : p = q
        · rw [decide_eq_false (fun h => h he)] at hne
          have hdk : xs.take (k + 1) = ys.take (k + 1) := by
            rw [List.take_succ_eq_append_getElem hkx, List.take_succ_eq_append_getElem hkt, HDK.out, ← hp, ← hq, he]
          have HDK' := Lib.hid hdk
          clear hdk he hcl hcl' hget hget' hp hq hpq
          go_wp2_with fail
          go_quiet (fail)
          go_wp2_with fail
          go_roundw
          case rel => exact ⟨k + 1, by go_num, by omega, HDK'.out, below_dn' hb _⟩
          case measure => simp [intOf]; omega
        · rw [decide_eq_true he] at hne
          have hd : D = false := by
            rw [HD.out]
            refine decide_eq_false fun e => he ?_
            rw [hp, hq]
            simp only [e]
          have HD' := Lib.hid hd
          clear hd he hcl hcl' hget hget' hp hq hpq
          go_wp2_with fail
          go_quiet (fail)
          go_wp2_with fail
          go_ret
          exact ⟨by rw [HD'.out]; rfl, below_dn' hb _⟩
      · have hd : D = true := by
          rw [HD.out]
          refine decide_eq_true ?_
          have h := HDK.out
          rwa [List.take_of_length_le (by have := HN.out; omega), List.take_of_length_le (by have := HM.out; omega)] at h
        have HD2 := Lib.hid hd
        clear hd
        go_wp2_with fail
        go_ret
        exact ⟨by rw [HD2.out]; rfl, hb⟩
  · have hpd : decide (xs = ys) = false := decide_eq_false fun e => hle (by rw [e])
    rw [hpd]
    have hq : ((xs.length : Int) != (ys.length : Int)) = true := by rw [bne_iff_ne]; omega
    clear hpd hx hr hp hy
    go_enter Try.func21, Try.ntmps21
    go_wp2_with fail
    go_ret
    exact ⟨rfl, Below.refl _ _⟩
end Go.Proofs.Ytgmpgmhbfkdalaa
