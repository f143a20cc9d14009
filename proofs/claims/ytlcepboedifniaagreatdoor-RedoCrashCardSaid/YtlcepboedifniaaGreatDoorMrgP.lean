/- copyholdref05.stands. copyholdref05.found, Right. The examples as facts; shown. ref01.Long; records that are the same. Few; right logs as the calls have them. -/
import Derived.Test.YtlcepboedifniaaGreatDoorMrgO
set_option linter.unusedVariables false
set_option linter.unusedSimpArgs false
namespace Go.Proofs.YtlcepboedifniaaGreatDoor
open Go Go.RowKit Copyhold Copyhold.Disk
def rstF (g : Txt) (n : Int) : Txt × Int := if (stG g n).2 = true then ((stG g n).1, (needB (stG g n).1 : Int)) else ([], 0)
theorem rst_no {g : Txt} {n : Int} (h : ¬ (stG g n).2 = true) : rstF g n = ([], 0) := if_neg h
theorem rst_short {g : Txt} {n : Int} (h : g.length < 64) : ¬ (stG g n).2 = true := fun hs => by
  have h1 := (st_fits hs).2
  have h2 := needB_pos (stG g n).1
  omega
theorem take_pad {g : Txt} {n : Int} {s : Txt} (h : padR n s <+: g) (hl : s.length ≤ 4096) : (takeText (g.drop 8) 4096).1 = s ∧ (takeText (g.drop 8) 4096).2.2 = 0 := by
  obtain ⟨t, rfl⟩ := h
  obtain ⟨R, hR⟩ : ∃ R, R = tailB (crcSum (num8 n ++ textB s)) ++ (List.replicate (64 * needB s - (recB n s).length) 0 ++ t) := ⟨_, rfl⟩
  have hg : padR n s ++ t = num8 n ++ (textB s ++ R) := by
    rw [hR]
    unfold padR
    generalize 64 * needB s - (recB n s).length = z
    rw [show recB n s = num8 n ++ textB s ++ tailB (crcSum (num8 n ++ textB s)) from rfl]
    simp only [List.append_assoc]
  have hd : (padR n s ++ t).drop 8 = textB s ++ R := by rw [hg, List.drop_left' (num8_len n)]
  rw [hd, takeText_textB _ _ _ (by omega), if_neg (by omega)]
  exact ⟨rfl, rfl⟩
theorem rst_take {g : Txt} {n : Int} (hs : (stG g n).2 = true) (hl : g.length ≤ 4096) : (takeText (g.drop 8) 4096).1 = (stG g n).1 ∧ (takeText (g.drop 8) 4096).2.2 = 0 :=
  take_pad (pad_of_st hs) (by have h1 := (st_fits hs).2; have h2 := need_len (stG g n).1; omega)
theorem rst_yes {g : Txt} {n : Int} {s : Txt} (hs : s.length ≤ 1000000) (h : g.take (64 * needB s) = padR n s) : rstF g n = (s, (needB s : Int)) := by
  have e := st_of_pad hs (g := g) (n := n) (by rw [← h]; exact List.take_prefix _ _)
  unfold rstF
  rw [e]
  rfl
theorem take_of_pad {g : Txt} {n : Int} {s : Txt} (h : padR n s <+: g) : g.take (64 * needB s) = padR n s := by
  obtain ⟨t, rfl⟩ := h
  exact List.take_left' (padR_len n s)
theorem rst_ne {g : Txt} {n : Int} {s : Txt} (h : g.length ≤ 4096) (he : (takeText (g.drop 8) 4096).1 = s) (hn : ¬ g.take (64 * needB s) = padR n s) : ¬ (stG g n).2 = true := fun hs => by
  rw [← he, (rst_take hs h).1] at hn
  exact hn (take_of_pad (pad_of_st hs))
theorem pad_end {n : Int} {s : Txt} {j : Nat} (h1 : j ≤ 64 * needB s - (recB n s).length) (h2 : 64 * needB s ≤ (recB n s).length + j) : recB n s ++ List.replicate j 0 = padR n s := by
  have := recB_le n s
  unfold padR
  congr 2
  omega
theorem sec_of {d : Dsk} {r : Rng} {a : Int} {k : Nat} {x : Txt} (h : (imageL d)[(r.from_ + (a + (k : Int)) % r.many).toNat]? = some x) : segN d r a k ++ x = segN d r a (k + 1) := by
  rw [segN_succ]
  unfold secI
  rw [List.getD_eq_getElem?_getD, h]
  rfl
set_option maxRecDepth 100000 in
set_option maxHeartbeats 4000000 in
theorem rstands_spec (d : Dsk) (r : Rng) (a : Int) (u : Nat) (n : Int) (hr : Copyhold.Disk.Right d) (hw : d.w.length ≤ 8796093022208) (okr : OkR r) (hrg : ringP d.kept.length r) (hk : d.kept.length ≤ 1000000) (ha : 0 ≤ a ∧ a ≤ 1000000) (hu : u ≤ 40) (hn : U64 n) : FSpec Tryz.prog 41 [.agg [.sl 1 false (d.kept.map txA), .sl 2 false (d.w.map putA), aB d.off], .agg [aI r.from_, aI r.many], aI a, aI (u : Int), .val (.int .u64 n)] (.tup [aS (rstF (segN d r a u) n).1, aI (rstF (segN d r a u) n).2]) := by
  have h01 : ([0] : Txt).length = 1 := rfl
  have hr3 : 0 ≤ r.from_ ∧ 1 ≤ r.many ∧ r.from_ ≤ d.kept.length ∧ r.many ≤ d.kept.length - r.from_ := hrg
  exact spec_vd Tryz.func41 (
 .new fun b1 => .new fun b2 => .r 2 <| .u 1 [b1] <|
 .call (rimage_spec d hr (by omega)) <|
 .r 1 <| .r 1 <| .r 1 <| let L1 : Lp (Nat) := ⟨fun a1 => ⟨[(2, aI a), (3, aI (u : Int)), (4, .val (.int .u64 n)), (6, .ptr 6 b2 0), (12, .sl 1 false ((imageL d).map txA)), (13, aS (segN d r a a1)), (14, aI (a1 : Int))], [(6, .box b2 27 [aI r.from_, aI r.many])]⟩, fun a1 => u - a1, fun a1 => a1 ≤ u⟩
 .lp L1 0 (show 0 ≤ u from Nat.zero_le _) [(13, aS ([])), (14, aI 0)] [] ⟨Sub.refl _, Sub.refl _, Sub.refl _, Sub.refl _, Sub.refl _, Sub.of_eq (congrArg aS (by simp [segN])), sO, trivial⟩ bb1 fun a1 ha1 =>
 (fun (k : Nat) (hH1 : k ≤ u) => have hlk := segN_len hr hrg a k; have hin := ring_in hrg (a + (k : Int)); .r 4 <| .bd 25 ((k : Int) < (u : Int)) (fun p1 => .r 3 <| .is 28 (show (decide ((k : Int) < 66)) = true from (decide_eq_true (by omega))) <| .ord [0, 1, 2, 3, 4, 5, 6, 7, 8, 9, 10, 11, 12, 13, 14] <| .run 9 [b2 = b2, rng .i64 (a + (k : Int)), b2 = b2] ⟨rfl, rng64 (by omega) (by omega), rfl, trivial⟩ <|
 .binV .rem 3 (remN (a := a + (k : Int)) (b := r.many) (by omega) (by omega) (by omega)) <|
 .run 1 [rng .i64 (r.from_ + ((a + (k : Int)) % r.many))] ⟨rng64 (by omega) (by omega), trivial⟩ <|
 .idxM (imageL d) txA ((r.from_ + (a + (k : Int)) % r.many).toNat) (m := r.from_ + ((a + (k : Int)) % r.many)) (by omega) (by rw [image_len]; omega) fun x1 hx1 =>
 have hx64 := image64 hr x1 (List.mem_of_getElem? hx1); .run 3 [(segN d r a k).length + x1.length ≤ 9223372036854775807] ⟨(by omega), trivial⟩ <|
 .run 3 [rng .i64 ((k : Int) + 1)] ⟨rng64 (by omega) (by omega), trivial⟩ <|
 .bk L1 k (k + 1) (show (k + 1) ≤ u from (by show _ ≤ _; omega)) (show u - (k + 1) < u - k from (by omega)) [(13, aS ((segN d r a k) ++ x1)), (14, aI ((k : Int) + 1))] [] ⟨Sub.refl _, Sub.refl _, Sub.refl _, Sub.refl _, Sub.refl _, Sub.of_eq (congrArg aS (sec_of hx1)), sO, trivial⟩ bb1)
 <| fun p1 => .r 3 <| .r 3 <| .bd 47 (((segN d r a k).length : Int) < 64) (fun p2 => have hku : u = k := (by omega); have htl := takeText_le ((segN d r a k).drop 8) 4096; have hdl : ((segN d r a k).drop 8).length = (segN d r a k).length - 8 := List.length_drop; have hrb := recB_le n (takeText ((segN d r a k).drop 8) 4096).1; have hnp := needB_pos (takeText ((segN d r a k).drop 8) 4096).1; have htn : (64 * (needB (takeText ((segN d r a k).drop 8) 4096).1 : Int)).toNat = 64 * needB (takeText ((segN d r a k).drop 8) 4096).1 := (by omega); .r 2 <| .f (.tup [aS (rstF (segN d r a u) n).1, aI (rstF (segN d r a u) n).2]) [] (.tup [aS ([]), aI 0]) (by
    rw [hku, rst_no (rst_short (g := segN d r a k) (by omega))]
    exact Sub.refl _))
 <| fun p2 => have hku : u = k := (by omega); have htl := takeText_le ((segN d r a k).drop 8) 4096; have hdl : ((segN d r a k).drop 8).length = (segN d r a k).length - 8 := List.length_drop; have hrb := recB_le n (takeText ((segN d r a k).drop 8) 4096).1; have hnp := needB_pos (takeText ((segN d r a k).drop 8) 4096).1; have htn : (64 * (needB (takeText ((segN d r a k).drop 8) 4096).1 : Int)).toNat = 64 * needB (takeText ((segN d r a k).drop 8) 4096).1 := (by omega); .r 1 <| .slcS (segN d r a k) (some 8) none 8 ((segN d r a k).length) (.inr rfl) (.inl ⟨rfl, rfl⟩) (by first | omega | (simp; done) | (simp; omega)) (by first | omega | (simp; done) | (simp; omega)) <|
 .cs (args0 := [aS (((segN d r a k).take ((segN d r a k).length)).drop 8), aI 4096]) (rtake_spec ((segN d r a k).drop 8) 4096 (by rw [List.length_drop]; omega) ⟨by omega, by omega⟩) ⟨Sub.of_eq (congrArg aS (by rw [List.take_length])), Sub.refl _, trivial⟩ <|
 .r 7 <| .r 2 <| .bn 56 ((takeText ((segN d r a k).drop 8) 4096).2.2) 0 (fun p3 => .r 2 <| .f (.tup [aS (rstF (segN d r a u) n).1, aI (rstF (segN d r a u) n).2]) [] (.tup [aS ([]), aI 0]) (by
    rw [hku, rst_no (g := segN d r a k) (n := n) (fun hs => by have h1 := rst_take hs (by omega); have h2 := (st_fits hs).2; have h3 := h1.2; rw [← h1.1] at h2; omega)]
    exact Sub.refl _))
 <| fun p3 => .r 2 <| .call (rrecord_spec n (takeText ((segN d r a k).drop 8) 4096).1 hn (by omega)) <|
 .r 1 <| .r 1 <| .call (rneed_spec (takeText ((segN d r a k).drop 8) 4096).1 (by omega)) <|
 .r 1 <| .r 3 <| .bd 64 ((needB (takeText ((segN d r a k).drop 8) 4096).1 : Int) > (u : Int)) (fun p4 => .r 2 <| .f (.tup [aS (rstF (segN d r a u) n).1, aI (rstF (segN d r a u) n).2]) [] (.tup [aS ([]), aI 0]) (by
    rw [hku, rst_no (g := segN d r a k) (n := n) (fun hs => by have h1 := rst_take hs (by omega); have h2 := (st_fits hs).2; have h3 := h1.2; rw [← h1.1] at h2; omega)]
    exact Sub.refl _))
 <| fun p4 => let L2 : Lp (Nat) := ⟨fun a2 => ⟨[(13, aS (segN d r a k)), (15, aS ((takeText ((segN d r a k).drop 8) 4096).1)), (19, aI (needB (takeText ((segN d r a k).drop 8) 4096).1 : Int)), (18, aS (recB n (takeText ((segN d r a k).drop 8) 4096).1 ++ List.replicate a2 0))], []⟩, fun a2 => 64 * needB (takeText ((segN d r a k).drop 8) 4096).1 - (recB n (takeText ((segN d r a k).drop 8) 4096).1).length - a2, fun a2 => a2 ≤ 64 * needB (takeText ((segN d r a k).drop 8) 4096).1 - (recB n (takeText ((segN d r a k).drop 8) 4096).1).length⟩
 .lp L2 0 (show 0 ≤ 64 * needB (takeText ((segN d r a k).drop 8) 4096).1 - (recB n (takeText ((segN d r a k).drop 8) 4096).1).length from Nat.zero_le _) [(18, aS (recB n (takeText ((segN d r a k).drop 8) 4096).1))] [] ⟨Sub.refl _, Sub.refl _, Sub.refl _, Sub.of_eq (congrArg aS (by simp)), trivial⟩ trivial fun a2 ha2 =>
 (fun (j : Nat) (hH2 : j ≤ 64 * needB (takeText ((segN d r a k).drop 8) 4096).1 - (recB n (takeText ((segN d r a k).drop 8) 4096).1).length) => have hjl : (recB n (takeText ((segN d r a k).drop 8) 4096).1 ++ List.replicate j 0).length = (recB n (takeText ((segN d r a k).drop 8) 4096).1).length + j := (by simp); .run 5 [rng .i64 (64 * (needB (takeText ((segN d r a k).drop 8) 4096).1 : Int))] ⟨rng64 (by omega) (by omega), trivial⟩ <|
 .bd 69 (((recB n (takeText ((segN d r a k).drop 8) 4096).1 ++ List.replicate j 0).length : Int) < (64 * (needB (takeText ((segN d r a k).drop 8) 4096).1 : Int))) (fun p5 => .run 3 [(recB n (takeText ((segN d r a k).drop 8) 4096).1 ++ List.replicate j 0).length + ([0]).length ≤ 9223372036854775807] ⟨(by omega), trivial⟩ <|
 .bk L2 j (j + 1) (show (j + 1) ≤ 64 * needB (takeText ((segN d r a k).drop 8) 4096).1 - (recB n (takeText ((segN d r a k).drop 8) 4096).1).length from (by show _ ≤ _; omega)) (show 64 * needB (takeText ((segN d r a k).drop 8) 4096).1 - (recB n (takeText ((segN d r a k).drop 8) 4096).1).length - (j + 1) < 64 * needB (takeText ((segN d r a k).drop 8) 4096).1 - (recB n (takeText ((segN d r a k).drop 8) 4096).1).length - j from (by omega)) [(18, aS ((recB n (takeText ((segN d r a k).drop 8) 4096).1 ++ List.replicate j 0) ++ ([0])))] [] ⟨Sub.refl _, Sub.refl _, Sub.refl _, Sub.of_eq (congrArg aS (by rw [List.replicate_succ', List.append_assoc])), trivial⟩ trivial)
 <| fun p5 => .run 3 [rng .i64 (64 * (needB (takeText ((segN d r a k).drop 8) 4096).1 : Int))] ⟨rng64 (by omega) (by omega), trivial⟩ <|
 .slcS (segN d r a k) none (some (64 * (needB (takeText ((segN d r a k).drop 8) 4096).1 : Int))) 0 ((64 * (needB (takeText ((segN d r a k).drop 8) 4096).1 : Int)).toNat) (.inl ⟨rfl, rfl⟩) (.inr (congrArg some (by omega))) (by first | omega | (simp; done) | (simp; omega)) (by first | omega | (simp; done) | (simp; omega)) <|
 .r 2 <| .nbe 77 (((segN d r a k).take ((64 * (needB (takeText ((segN d r a k).drop 8) 4096).1 : Int)).toNat)).drop 0) (recB n (takeText ((segN d r a k).drop 8) 4096).1 ++ List.replicate j 0) (fun p6 => .r 2 <| .f (.tup [aS (rstF (segN d r a u) n).1, aI (rstF (segN d r a u) n).2]) [] (.tup [aS ([]), aI 0]) (by
    rw [hku, rst_no (rst_ne (g := segN d r a k) (s := (takeText ((segN d r a k).drop 8) 4096).1) (by omega) rfl (fun h => p6 (by rw [pad_end (by omega) (by omega), ← h, htn, List.drop_zero])))]
    exact Sub.refl _))
 <| fun p6 => .r 4 <| .f (.tup [aS (rstF (segN d r a u) n).1, aI (rstF (segN d r a u) n).2]) [] (.tup [aS ((takeText ((segN d r a k).drop 8) 4096).1), aI (needB (takeText ((segN d r a k).drop 8) 4096).1 : Int)]) (by
    rw [hku, rst_yes (s := (takeText ((segN d r a k).drop 8) 4096).1) (by omega) (by have := p6; rw [pad_end (by omega) (by omega), htn, List.drop_zero] at this; exact this)]
    exact Sub.refl _)) a2 ha2) a1 ha1)
end Go.Proofs.YtlcepboedifniaaGreatDoor

set_option linter.unusedVariables false
set_option linter.unusedSimpArgs false
namespace Go.Proofs.YtlcepboedifniaaGreatDoor
open Go Go.RowKit Copyhold Copyhold.Disk
theorem seg_rest {d : Dsk} {r : Rng} {a : Int} {u m : Nat} (hr : Copyhold.Disk.Right d) (hrg : ringP d.kept.length r) (hu : u ≤ m) : segN d r ((a + (u : Int)) % r.many) (m - u) = (segN d r a m).drop (64 * u) := by
  rw [segN_mod]
  conv => rhs; rw [show m = u + (m - u) from by omega, segN_add, List.drop_left' (segN_len hr hrg a u)]
theorem rst_two (g : Txt) (n : Int) : ((rstF g n).2 = 0 → (stG g n).2 = false) ∧ (¬ (rstF g n).2 = 0 → (stG g n).2 = true ∧ rstF g n = ((stG g n).1, (needB (stG g n).1 : Int))) := by
  unfold rstF
  cases h : (stG g n).2 with
  | false => exact ⟨fun _ => rfl, fun h2 => absurd rfl h2⟩
  | true =>
    refine ⟨fun h2 => ?_, fun _ => ⟨rfl, rfl⟩⟩
    have := needB_pos (stG g n).1
    have h3 : (needB (stG g n).1 : Int) = 0 := h2
    omega
theorem fnd_no {g g2 : Txt} {n n2 : Int} {k : Nat} (hn : U64 n) (hk : k ≤ (recsG g n).length) (hg : g2 = g.drop (64 * sumN ((recsG g n).take k))) (hn2 : n2 = (n + (k : Int)) % 18446744073709551616) (h : (rstF g2 n2).2 = 0) : k = (recsG g n).length := by
  subst hg hn2
  exact (recs_next hn hk).2 ((rst_two _ _).1 h)
theorem fnd_yes {g g2 : Txt} {n n2 : Int} {k : Nat} (hn : U64 n) (hk : k ≤ (recsG g n).length) (hg : g2 = g.drop (64 * sumN ((recsG g n).take k))) (hn2 : n2 = (n + (k : Int)) % 18446744073709551616) (h : ¬ (rstF g2 n2).2 = 0) :
    (recsG g n)[k]? = some (rstF g2 n2).1 ∧ (rstF g2 n2).2 = (needB (rstF g2 n2).1 : Int) ∧ (recsG g n).take (k + 1) = (recsG g n).take k ++ [(rstF g2 n2).1] ∧ sumN ((recsG g n).take (k + 1)) = sumN ((recsG g n).take k) + needB (rstF g2 n2).1 ∧ k + 1 ≤ (recsG g n).length := by
  subst hg hn2
  obtain ⟨h1, h2⟩ := (rst_two _ _).2 h
  have hx := (recs_next hn hk).1 h1
  have e : (rstF (g.drop (64 * sumN ((recsG g n).take k))) ((n + (k : Int)) % 18446744073709551616)).1 = (stG (g.drop (64 * sumN ((recsG g n).take k))) ((n + (k : Int)) % 18446744073709551616)).1 := by rw [h2]
  rw [← e] at hx
  have ht := take_step hx
  exact ⟨hx, by rw [h2], ht, by rw [ht, sumN_snoc], (List.getElem?_eq_some_iff.1 hx).1⟩
theorem fnd_full {g : Txt} {n : Int} {k : Nat} (hn : U64 n) (hk : k ≤ (recsG g n).length) (h : g.length ≤ 64 * sumN ((recsG g n).take k)) : k = (recsG g n).length := by
  refine (recs_next hn hk).2 ?_
  rw [List.drop_of_length_le h]
  exact st_nil _
theorem fnd_end {T : List Txt} {k m : Nat} (h : k = T.length) (hm : k ≤ m) : T.take k = T.take m := by
  rw [List.take_of_length_le (by omega), List.take_of_length_le (by omega)]
set_option maxRecDepth 100000 in
set_option maxHeartbeats 4000000 in
theorem rfound_spec (d : Dsk) (r : Rng) (a n mx : Int) (hr : Copyhold.Disk.Right d) (hw : d.w.length ≤ 8796093022208) (hk : d.kept.length ≤ 40) (okr : OkR r) (hrg : ringP d.kept.length r) (hpl : placeP r a) (hn : U64 n) (hmx : I64 mx) : FSpec Tryz.prog 26 [.agg [.sl 1 false (d.kept.map txA), .sl 2 false (d.w.map putA), aB d.off], .agg [aI r.from_, aI r.many], aI a, .val (.int .u64 n), aI mx] (.tup [.sl 1 false ((toldW d r (lg0 r a n) mx).map txA), aI (sumN (toldW d r (lg0 r a n) mx) : Int)]) := by
  have hr3 : 0 ≤ r.from_ ∧ 1 ≤ r.many ∧ r.from_ ≤ d.kept.length ∧ r.many ≤ d.kept.length - r.from_ := hrg
  have hp3 : 0 ≤ a ∧ a < r.many := hpl
  have hsl := segN_len hr hrg a r.many.toNat
  have hsm0 := recs_sum (segN d r a r.many.toNat).length (segN d r a r.many.toNat) n
  have hsm : sumN (recsG (segN d r a r.many.toNat) n) ≤ r.many.toNat := by show sumN (recsF _ _ _) ≤ _; omega
  have hn1 := hn.1
  have hn3 := hn.2
  have hm1 := hmx.1
  have hm2 := hmx.2
  exact spec_vd Tryz.func26 (
 .new fun b1 => .new fun b2 => .r 2 <| .r 1 <| .r 1 <| .rowNil 12 12 9 1 <| let L1 : Lp (Nat × Value) := ⟨fun a1 => ⟨[(2, aI a), (3, .val (.int .u64 n)), (4, aI mx), (5, .ptr 5 b1 0), (6, .ptr 6 b2 0), (12, .rw 12 a1.2 (((recsG (segN d r a r.many.toNat) n).take a1.1).length)), (13, aI (sumN ((recsG (segN d r a r.many.toNat) n).take a1.1) : Int))], [(5, .box b1 25 [.sl 1 false (d.kept.map txA), .sl 2 false (d.w.map putA), aB d.off]), (6, .box b2 27 [aI r.from_, aI r.many]), (12, .row a1.2 9 1 (((recsG (segN d r a r.many.toNat) n).take a1.1).map txA))]⟩, fun a1 => (recsG (segN d r a r.many.toNat) n).length - a1.1, fun a1 => a1.1 ≤ (recsG (segN d r a r.many.toNat) n).length ∧ a1.1 ≤ mx.toNat⟩
 .lp L1 (0, .slice none 0 0) ⟨Nat.zero_le _, Nat.zero_le _⟩ [(12, .rw 12 (.slice none 0 0) 0), (13, aI 0)] [(12, .row (.slice none 0 0) 9 1 ([]))] ⟨Sub.refl _, Sub.refl _, Sub.refl _, Sub.refl _, Sub.refl _, Sub.refl _, Sub.refl _, trivial⟩ ⟨sB, sB, ⟨_, rfl, SubB.refl _⟩, trivial⟩ fun a1 ha1 =>
 (fun (k : Nat) (V : Value) (hH1 : k ≤ (recsG (segN d r a r.many.toNat) n).length ∧ k ≤ mx.toNat) => have hln : ((recsG (segN d r a r.many.toNat) n).take k).length = k := (by rw [List.length_take]; omega); have hle := sumN_len ((recsG (segN d r a r.many.toNat) n).take k); have hsk : sumN ((recsG (segN d r a r.many.toNat) n).take k) ≤ r.many.toNat := Nat.le_trans (sumN_take _ _) hsm; have hin := ring_in hrg (a + (sumN ((recsG (segN d r a r.many.toNat) n).take k) : Int)); have hg2 : (segN d r ((a + (sumN ((recsG (segN d r a r.many.toNat) n).take k) : Int)) % r.many) (r.many.toNat - sumN ((recsG (segN d r a r.many.toNat) n).take k))) = (segN d r a r.many.toNat).drop (64 * sumN ((recsG (segN d r a r.many.toNat) n).take k)) := seg_rest hr hrg hsk; have hn2 : ((n + (((recsG (segN d r a r.many.toNat) n).take k).length : Int)) % 18446744073709551616) = (n + (k : Int)) % 18446744073709551616 := (by rw [hln]); .r 5 <| .bd 20 ((((recsG (segN d r a r.many.toNat) n).take k).length : Int) < mx) (fun p1 => .u 5 [b2] <|
 .bd 25 ((sumN ((recsG (segN d r a r.many.toNat) n).take k) : Int) < r.many) (fun p2 => .ord [0, 1, 2, 3, 4, 5, 6, 7, 8, 9, 10, 11, 12, 13, 14, 15, 16, 17, 18, 19, 20, 21, 22] <| .run 7 [b1 = b1, b2 = b2, rng .i64 (a + (sumN ((recsG (segN d r a r.many.toNat) n).take k) : Int)), b2 = b2] ⟨rfl, rfl, rng64 (by omega) (by omega), rfl, trivial⟩ <|
 .binV .rem 3 (remN (a := a + (sumN ((recsG (segN d r a r.many.toNat) n).take k) : Int)) (b := r.many) (by omega) (by omega) (by omega)) <|
 .run 7 [b2 = b2, rng .i64 (r.many - (sumN ((recsG (segN d r a r.many.toNat) n).take k) : Int))] ⟨rfl, rng64 (by omega) (by omega), trivial⟩ <|
 .op (cvR) (3, 28, .int .i64 (((recsG (segN d r a r.many.toNat) n).take k).length : Int), some 42) (fun (_ : Unit) σ => σ.put (some 42) (.val (.int .u64 (((recsG (segN d r a r.many.toNat) n).take k).length : Int)))) (rule_cv (conv_int (by kernel_rfl) (by kernel_rfl) (rngu (by omega) (by omega)))) fun _ =>
 .binV .add 28 (addW (a := n) (b := (((recsG (segN d r a r.many.toNat) n).take k).length : Int))) <|
 .cs (args0 := [.agg [.sl 1 false (d.kept.map txA), .sl 2 false (d.w.map putA), aB d.off], .agg [aI r.from_, aI r.many], aI ((a + (sumN ((recsG (segN d r a r.many.toNat) n).take k) : Int)) % r.many), aI (r.many - (sumN ((recsG (segN d r a r.many.toNat) n).take k) : Int)), .val (.int .u64 ((n + (((recsG (segN d r a r.many.toNat) n).take k).length : Int)) % 18446744073709551616))]) (rstands_spec d r ((a + (sumN ((recsG (segN d r a r.many.toNat) n).take k) : Int)) % r.many) (r.many.toNat - sumN ((recsG (segN d r a r.many.toNat) n).take k)) ((n + (((recsG (segN d r a r.many.toNat) n).take k).length : Int)) % 18446744073709551616) hr (by omega) okr hrg (by omega) ⟨by omega, by omega⟩ (by omega) ⟨by omega, by omega⟩) ⟨Sub.refl _, Sub.refl _, Sub.refl _, Sub.of_eq (congrArg aI (by omega)), Sub.refl _, trivial⟩ <|
 .r 5 <| .r 2 <| .be 48 ((rstF (segN d r ((a + (sumN ((recsG (segN d r a r.many.toNat) n).take k) : Int)) % r.many) (r.many.toNat - sumN ((recsG (segN d r a r.many.toNat) n).take k))) ((n + (((recsG (segN d r a r.many.toNat) n).take k).length : Int)) % 18446744073709551616)).2) 0 (fun p3 => have hend : ((recsG (segN d r a r.many.toNat) n).take k) = (recsG (segN d r a r.many.toNat) n).take mx.toNat := fnd_end (fnd_no hn hH1.1 hg2 hn2 p3) hH1.2; .r 4 <| .frz 12 [10, 11] [] [V = V, ((recsG (segN d r a r.many.toNat) n).take k).length = (((recsG (segN d r a r.many.toNat) n).take k).map txA).length] ⟨rfl, (by first | rfl | (simp; done) | (simp; omega)), trivial⟩ <|
 .f (.tup [.sl 1 false ((toldW d r (lg0 r a n) mx).map txA), aI (sumN (toldW d r (lg0 r a n) mx) : Int)]) [] (.tup [.sl 1 false (((recsG (segN d r a r.many.toNat) n).take k).map txA), aI (sumN ((recsG (segN d r a r.many.toNat) n).take k) : Int)]) (by
    rw [told0 hr hrg hpl, ← hend]
    exact Sub.refl _))
 <| fun p3 => have hfy := fnd_yes hn hH1.1 hg2 hn2 p3; have hfy1 := hfy.2.1; have hfy2 := hfy.2.2.2.1; have hfy3 : sumN ((recsG (segN d r a r.many.toNat) n).take (k + 1)) ≤ r.many.toNat := Nat.le_trans (sumN_take _ _) hsm; have hfy5 := hfy.2.2.2.2; .r 3 <| .app 16 V (((recsG (segN d r a r.many.toNat) n).take k).map txA) ([[aS ((rstF (segN d r ((a + (sumN ((recsG (segN d r a r.many.toNat) n).take k) : Int)) % r.many) (r.many.toNat - sumN ((recsG (segN d r a r.many.toNat) n).take k))) ((n + (((recsG (segN d r a r.many.toNat) n).take k).length : Int)) % 18446744073709551616)).1)]]) (by simp only [List.length_map, List.length_cons, List.length_nil, List.length_append]; omega) (by simp only [List.length_map, List.length_cons, List.length_nil, List.length_append]; omega) fun V1 =>
 .r 1 <| .run 4 [rng .i64 ((sumN ((recsG (segN d r a r.many.toNat) n).take k) : Int) + ((rstF (segN d r ((a + (sumN ((recsG (segN d r a r.many.toNat) n).take k) : Int)) % r.many) (r.many.toNat - sumN ((recsG (segN d r a r.many.toNat) n).take k))) ((n + (((recsG (segN d r a r.many.toNat) n).take k).length : Int)) % 18446744073709551616)).2))] ⟨rng64 (by omega) (by omega), trivial⟩ <|
 .bk L1 (k, V) ((k + 1), V1) ⟨hfy.2.2.2.2, by omega⟩ (show (recsG (segN d r a r.many.toNat) n).length - (k + 1) < (recsG (segN d r a r.many.toNat) n).length - k from (by omega)) [(12, .rw 12 V1 ((((recsG (segN d r a r.many.toNat) n).take k).map txA).length + ([[aS ((rstF (segN d r ((a + (sumN ((recsG (segN d r a r.many.toNat) n).take k) : Int)) % r.many) (r.many.toNat - sumN ((recsG (segN d r a r.many.toNat) n).take k))) ((n + (((recsG (segN d r a r.many.toNat) n).take k).length : Int)) % 18446744073709551616)).1)]] : List (List AV)).length)), (13, aI ((sumN ((recsG (segN d r a r.many.toNat) n).take k) : Int) + ((rstF (segN d r ((a + (sumN ((recsG (segN d r a r.many.toNat) n).take k) : Int)) % r.many) (r.many.toNat - sumN ((recsG (segN d r a r.many.toNat) n).take k))) ((n + (((recsG (segN d r a r.many.toNat) n).take k).length : Int)) % 18446744073709551616)).2)))] [(12, .row V1 9 1 ((((recsG (segN d r a r.many.toNat) n).take k).map txA) ++ ([[aS ((rstF (segN d r ((a + (sumN ((recsG (segN d r a r.many.toNat) n).take k) : Int)) % r.many) (r.many.toNat - sumN ((recsG (segN d r a r.many.toNat) n).take k))) ((n + (((recsG (segN d r a r.many.toNat) n).take k).length : Int)) % 18446744073709551616)).1)]])))] ⟨Sub.refl _, Sub.refl _, Sub.refl _, Sub.refl _, Sub.refl _, Sub.of_eq (congrArg (AV.rw 12 V1) (by rw [hfy.2.2.1]; simp)), Sub.of_eq (congrArg aI (by show _ = ((sumN ((recsG (segN d r a r.many.toNat) n).take (k + 1)) : Nat) : Int); omega)), trivial⟩ ⟨sB, sB, ⟨_, rfl, SubB.of_eq (by rw [hfy.2.2.1]; simp [txA])⟩, trivial⟩)
 <| fun p2 => have hend : ((recsG (segN d r a r.many.toNat) n).take k) = (recsG (segN d r a r.many.toNat) n).take mx.toNat := fnd_end (fnd_full hn hH1.1 (by omega)) hH1.2; .r 4 <| .frz 12 [10, 11] [] [V = V, ((recsG (segN d r a r.many.toNat) n).take k).length = (((recsG (segN d r a r.many.toNat) n).take k).map txA).length] ⟨rfl, (by first | rfl | (simp; done) | (simp; omega)), trivial⟩ <|
 .f (.tup [.sl 1 false ((toldW d r (lg0 r a n) mx).map txA), aI (sumN (toldW d r (lg0 r a n) mx) : Int)]) [] (.tup [.sl 1 false (((recsG (segN d r a r.many.toNat) n).take k).map txA), aI (sumN ((recsG (segN d r a r.many.toNat) n).take k) : Int)]) (by
    rw [told0 hr hrg hpl, ← hend]
    exact Sub.refl _))
 <| fun p1 => have hend : ((recsG (segN d r a r.many.toNat) n).take k) = (recsG (segN d r a r.many.toNat) n).take mx.toNat := congrArg (fun m => List.take m (recsG (segN d r a r.many.toNat) n)) (by omega); .r 5 <| .r 4 <| .frz 12 [10, 11] [] [V = V, ((recsG (segN d r a r.many.toNat) n).take k).length = (((recsG (segN d r a r.many.toNat) n).take k).map txA).length] ⟨rfl, (by first | rfl | (simp; done) | (simp; omega)), trivial⟩ <|
 .f (.tup [.sl 1 false ((toldW d r (lg0 r a n) mx).map txA), aI (sumN (toldW d r (lg0 r a n) mx) : Int)]) [] (.tup [.sl 1 false (((recsG (segN d r a r.many.toNat) n).take k).map txA), aI (sumN ((recsG (segN d r a r.many.toNat) n).take k) : Int)]) (by
    rw [told0 hr hrg hpl, ← hend]
    exact Sub.refl _)) a1.1 a1.2 ha1)
set_option maxRecDepth 100000 in
set_option maxHeartbeats 4000000 in
theorem rright_spec (d : Dsk) (r : Rng) (l : Lg) (hr : Copyhold.Disk.Right d) (hw : d.w.length ≤ 8796093022208) (hk : d.kept.length ≤ 40) (okr : OkR r) (okl : OkL l) : FSpec Tryz.prog 8 [.agg [.sl 1 false (d.kept.map txA), .sl 2 false (d.w.map putA), aB d.off], .agg [aI r.from_, aI r.many], .agg [aI l.at_, aI l.used, .val (.int .u64 l.first), aI l.many]] (aB (dP (rrT d r l))) := by
  exact spec_vd Tryz.func8 (let R : AV := aB (dP (rrT d r l));
 .new fun b1 => .new fun b2 => .new fun b3 => .r 1 <| .u 2 [b1, b2] <|
 .call (may_spec d r okr (by omega)) <|
 .r 1 <| .u 3 [b1] <|
 .br 15 (d.off) (fun q1 => have p1 := booT q1; .r 25 <| .r 1 <| .f (aB (dP (rrT d r l))) [] (aB false) (by exact sF (fun h => by have := h.1; rw [q1] at this; cases this)))
 <| fun q1 => have p1 := booF q1; .r 4 <| .br 19 (!(dP (ringP d.kept.length r))) (fun q2 => have q2 := notT q2; have p2 := booF q2; .r 21 <| .r 1 <| .f R [] (aB false) (by exact sF (fun h => dP_false.1 q2 h.2.1)))
 <| fun q2 => have q2 := notF q2; have p2 := booT q2; .u 5 [b3] <|
 .bd 24 (l.at_ < 0) (fun p3 => .r 16 <| .r 1 <| .f R [] (aB false) (by exact sF (fun h => by obtain ⟨h1, h2, ⟨h3, h3b⟩, h4, h5, h6, h7⟩ := h; omega)))
 <| fun p3 => .u 7 [b3, b2] <|
 .bd 31 (l.at_ ≥ r.many) (fun p4 => .r 9 <| .r 1 <| .f R [] (aB false) (by exact sF (fun h => by obtain ⟨h1, h2, ⟨h3, h3b⟩, h4, h5, h6, h7⟩ := h; omega)))
 <| fun p4 => .u 5 [b3] <|
 .bd 36 (l.many < 0) (fun p5 => .r 4 <| .r 1 <| .f R [] (aB false) (by exact sF (fun h => by obtain ⟨h1, h2, ⟨h3, h3b⟩, h4, h5, h6, h7⟩ := h; omega)))
 <| fun p5 => .u 4 [b3] <|
 .bd 40 (l.used < 0) (fun p6 => .r 1 <| .f R [] (aB false) (by exact sF (fun h => by obtain ⟨h1, h2, ⟨h3, h3b⟩, h4, h5, h6, h7⟩ := h; omega)))
 <| fun p6 => .u 8 [b1, b2, b3, b3, b3] <|
 .call (rfound_spec d r l.at_ l.first l.many hr (by omega) hk okr (dP_true.1 q2) ⟨by omega, by omega⟩ okl.f okl.m) <|
 .r 5 <| .r 2 <| .lm 54 (toldW d r (lg0 r l.at_ l.first) l.many) txA <| .u 4 [b3] <|
 .be 58 ((toldW d r (lg0 r l.at_ l.first) l.many).length : Int) l.many (fun p7 => .u 6 [b3] <|
 .f R [] (aB ((sumN (toldW d r (lg0 r l.at_ l.first) l.many) : Int) == l.used)) (by
    refine sE ?_
    simp only [beq_iff_eq]
    exact ⟨fun h => ⟨q1, dP_true.1 q2, ⟨by omega, by omega⟩, by omega, by omega, by omega, by omega⟩, fun h => by obtain ⟨h1, h2, h3, h4, h5, h6, h7⟩ := h; omega⟩))
 <| fun p7 => .r 6 <| .f R [] (aB false) (by exact sF (fun h => by obtain ⟨h1, h2, ⟨h3, h3b⟩, h4, h5, h6, h7⟩ := h; omega)))
end Go.Proofs.YtlcepboedifniaaGreatDoor

set_option linter.unusedVariables false
set_option linter.unusedSimpArgs false
namespace Go.Proofs.YtlcepboedifniaaGreatDoor
open Go Go.RowKit Copyhold Copyhold.Disk
def tD0 : Dsk := ⟨List.replicate 2 zS, [], false⟩
def tR : Rng := ⟨0, 2⟩
def tL : Lg := ⟨0, 0, 7, 0⟩
def tN : Lg := ⟨0, 1, 7, 1⟩
def tD1 : Dsk := laidD tD0 tR tL [104, 105]
def tT : List Txt := [[104, 105]]
theorem tR_ok : OkR tR := ⟨⟨by decide, by decide⟩, ⟨by decide, by decide⟩⟩
theorem tL_ok : OkL tL := ⟨⟨by decide, by decide⟩, ⟨by decide, by decide⟩, ⟨by decide, by decide⟩, ⟨by decide, by decide⟩⟩
theorem new_shown : FSpec Tryz.prog 23 [aI 2] (.tup [.agg (dskA tD0), aI 0]) := new_spec 2 (by decide) (by decide)
theorem tring0 : ringP tD0.kept.length tR := show (0 : Int) ≤ 0 ∧ (1 : Int) ≤ 2 ∧ (0 : Int) ≤ (tD0.kept.length : Int) ∧ (2 : Int) ≤ (tD0.kept.length : Int) - 0 from by decide +kernel
theorem tring1 : ringP tD1.kept.length tR := show (0 : Int) ≤ 0 ∧ (1 : Int) ≤ 2 ∧ (0 : Int) ≤ (tD1.kept.length : Int) ∧ (2 : Int) ≤ (tD1.kept.length : Int) - 0 from by decide +kernel
theorem app_eq : appD tD0 tR tL [104, 105] = (tD1, tN, 0) := by
  unfold appD
  rw [if_neg (by decide), if_neg (by decide), if_neg (by decide +kernel)]
  exact Prod.ext rfl (Prod.ext (by decide +kernel) rfl)
theorem app_shown : FSpec Tryz.prog 19 [.agg (dskA tD0), .agg (rngA tR), .agg (lgA tL), aS [104, 105]] (.tup [.agg (dskA tD1), .agg (lgA tN), aI 0]) := by
  have h := append_spec tD0 tR tL [104, 105] tR_ok tL_ok (by decide) (by decide) tring0 ⟨by decide, by decide⟩ ⟨by decide, by decide⟩ ⟨by decide, by decide⟩ (by decide)
  rw [app_eq] at h
  exact h
theorem tgood : goodW tD1 tR (lg0 tR 0 7) := ⟨tring1, ⟨by decide, by decide⟩, by decide, by decide⟩
theorem trecs : recsG (segI tD1 tR (lg0 tR 0 7)) 7 = tT := by decide +kernel
theorem ttold : toldW tD1 tR (lg0 tR 0 7) tR.many = tT := by
  rw [toldW_good tgood]
  show (recsG (segI tD1 tR (lg0 tR 0 7)) 7).take 2 = tT
  rw [trecs]
  rfl
theorem scan_eq : scanD tD1 tR 0 7 = (tN, tT, 0) := by
  unfold scanD
  rw [if_neg (by decide +kernel), if_pos ⟨tring1, ⟨by decide, by decide⟩⟩, ttold]
  exact Prod.ext (by decide +kernel) rfl
theorem tD1_ok : OkDk tD1 := ⟨by decide +kernel, by decide +kernel, by
    intro x hx
    have hd : ∀ x ∈ tD1.w, (0 ≤ x.1 ∧ x.1 ≤ 2) ∧ x.2.length ≤ 64 := by decide +kernel
    have := hd x hx
    unfold okPut
    omega, by decide +kernel⟩
theorem scan_shown : FSpec Tryz.prog 9 [.agg (dskA tD1), .agg (rngA tR), aI 0, .val (.int .u64 7)] (.tup [.agg (lgA tN), .sl 1 false (tT.map txA), aI 0]) := by
  have h := scan_spec tD1 tR tD1_ok (by decide +kernel) (by decide +kernel) tR_ok 0 7 ⟨by decide, by decide⟩ ⟨by decide, by decide⟩
  rw [scan_eq] at h
  exact h
theorem need_47 : FSpec Tryz.prog 14 [aS (List.replicate 47 0)] (aI 1) := by
  have h := need_spec (List.replicate 47 0) (by decide)
  rw [show needB (List.replicate 47 0) = 1 from by decide +kernel] at h
  exact h
theorem need_52 : FSpec Tryz.prog 14 [aS (List.replicate 52 0)] (aI 2) := by
  have h := need_spec (List.replicate 52 0) (by decide)
  rw [show needB (List.replicate 52 0) = 2 from by decide +kernel] at h
  exact h
set_option maxRecDepth 100000 in
set_option maxHeartbeats 4000000 in
theorem shown5  : FSpec Tryz.prog 6 [] (aB true) := by
  exact spec_vd Tryz.func6 (
 .r 1 <| .call (new_shown) <|
 .r 3 <| .new fun b1 => .u 2 [b1] <|
 .r 1 <| .new fun b2 => .u 1 [b2] <|
 .u 3 [b1, b2] <|
 .call (app_shown) <|
 .r 4 <| .new fun b3 => .u 3 [b1, b3] <|
 .u 2 [b1, b2] <|
 .call (scan_shown) <|
 .r 4 <| .new fun b4 => .u 3 [b4] <|
 .r 3 <| .is 31 (show (0 == 0) = true from rfl) <| .r 4 <| .is 35 (show (0 == 0) = true from rfl) <| .u 5 [b3] <|
 .is 40 (show (1 == 1) = true from rfl) <| .u 5 [b3] <|
 .is 45 (show (1 == 1) = true from rfl) <| .r 2 <| .lm 47 tT txA <| .r 3 <| .is 50 (show ((tT.length : Int) == 1) = true from rfl) <| .r 1 <| .idxM tT txA 0 (m := 0) (show (0 : Int) = ((0 : Nat) : Int) from rfl) (by decide) fun x1 hx1 =>
 .r 4 <| .is 56 (show (x1 == ([104, 105])) = true from (by cases (Option.some.inj (show some ([104, 105] : Txt) = some x1 from hx1)); rfl)) <| .op (mkN Tryz.prog) (63, 47, 47, 5, [.val (.int .u8 0)], 57) (fun (V : Value) σ => (σ.put (some 57) (.rw 57 V 47)).setB 57 (.row V 5 1 (List.replicate 47 [.val (.int .u8 0)]))) (rule_mkN 47 1 (by kernel_rfl) (by omega) (by omega) (by omega)) fun V1 =>
 .op cvB (63, 9, 47, V1, V1, 5, 1, List.replicate 47 [.val (.int .u8 0)], some 58) (fun (_ : Unit) σ => σ.put (some 58) (aS (List.replicate 47 0))) (rule_cvB (List.replicate 47 0) (by rfl) rfl (by decide) rfl rfl rfl) fun _ =>
 .call (need_47) <|
 .r 3 <| .is 62 (show (1 == 1) = true from rfl) <| .op (mkN Tryz.prog) (63, 52, 52, 5, [.val (.int .u8 0)], 63) (fun (V : Value) σ => (σ.put (some 63) (.rw 63 V 52)).setB 63 (.row V 5 1 (List.replicate 52 [.val (.int .u8 0)]))) (rule_mkN 52 1 (by kernel_rfl) (by omega) (by omega) (by omega)) fun V2 =>
 .op cvB (63, 9, 52, V2, V2, 5, 1, List.replicate 52 [.val (.int .u8 0)], some 64) (fun (_ : Unit) σ => σ.put (some 64) (aS (List.replicate 52 0))) (rule_cvB (List.replicate 52 0) (by rfl) rfl (by decide) rfl rfl rfl) fun _ =>
 .call (need_52) <|
 .r 3 <| .fi (aB true) [])
end Go.Proofs.YtlcepboedifniaaGreatDoor

set_option linter.unusedVariables false
set_option linter.unusedSimpArgs false
namespace Go.Proofs.YtlcepboedifniaaGreatDoor
open Go Go.RowKit Copyhold Copyhold.Disk
def longK (l : List Txt) (k : Nat) : Nat := l.length + ((l.take k).map List.length).sum
theorem longK_step {l : List Txt} {k : Nat} {x : Txt} (h : l[k]? = some x) : longK l (k + 1) = longK l k + x.length := by
  unfold longK
  rw [List.take_add_one, h]
  simp
  omega
theorem longK_le (l : List Txt) (b : Nat) (h : ∀ x ∈ l, x.length ≤ b) : ∀ k, longK l k ≤ l.length + k * b
  | 0 => by simp [longK]
  | k + 1 => by
    have ih := longK_le l b h k
    rw [Nat.succ_mul]
    cases e : l[k]? with
    | none =>
      have : longK l (k + 1) = longK l k := by unfold longK; rw [List.take_add_one, e]; simp
      omega
    | some x =>
      have := longK_step e
      have := h x (List.mem_of_getElem? e)
      omega
set_option maxRecDepth 100000 in
set_option maxHeartbeats 4000000 in
theorem long_spec (l : List Txt) (b : Nat) (hb : ∀ x ∈ l, x.length ≤ b) (hl : l.length ≤ 1000000) (hm : l.length * b ≤ 4000000000000000000) : FSpec Tryz.prog 17 [.sl 1 false (l.map txA)] (aI (longK l l.length : Int)) := by
  exact spec_vd Tryz.func17 (
 .r 1 <| .r 2 <| .lm 6 l txA <| .r 1 <| .r 1 <| let L1 : Lp (Nat) := ⟨fun a1 => ⟨[(0, .sl 1 false (l.map txA)), (4, aI (a1 : Int)), (3, aI (longK l a1 : Int))], []⟩, fun a1 => l.length - a1, fun a1 => a1 ≤ l.length⟩
 .lp L1 0 (show 0 ≤ l.length from Nat.zero_le _) [(4, aI 0), (3, aI (l.length : Int))] [] ⟨Sub.refl _, sO, Sub.of_eq (congrArg aI (by simp [longK])), trivial⟩ trivial fun a1 ha1 =>
 (fun (k : Nat) (hH1 : k ≤ l.length) => have hlk := longK_le l b hb k; have hkb : k * b ≤ l.length * b := Nat.mul_le_mul_right b hH1; .r 3 <| .lm 9 l txA <| .r 1 <| .bd 10 ((k : Int) < (l.length : Int)) (fun p1 => .r 3 <| .idxM l txA k (m := (k : Int)) rfl (by omega) fun x1 hx1 =>
 have hls := longK_step hx1; have hl2 := longK_le l b hb (k + 1); have hl3 : (k + 1) * b ≤ l.length * b := Nat.mul_le_mul_right b (List.getElem?_eq_some_iff.1 hx1).1; .run 4 [rng .i64 ((longK l k : Int) + ((x1).length : Int))] ⟨rng64 (by omega) (by omega), trivial⟩ <|
 .run 3 [rng .i64 ((k : Int) + 1)] ⟨rng64 (by omega) (by omega), trivial⟩ <|
 .bk L1 k (k + 1) (show (k + 1) ≤ l.length from (by show _ ≤ _; omega)) (show l.length - (k + 1) < l.length - k from (by omega)) [(4, aI ((k : Int) + 1)), (3, aI ((longK l k : Int) + ((x1).length : Int)))] [] ⟨Sub.refl _, sO, Sub.of_eq (congrArg aI (by show _ = ((longK l (k + 1) : Nat) : Int); rw [longK_step hx1]; omega)), trivial⟩ trivial)
 <| fun p1 => .r 2 <| .f (aI (longK l l.length : Int)) [] (aI (longK l k : Int)) (by exact Sub.of_eq (by rw [show l.length = k from by omega]))) a1 ha1)
end Go.Proofs.YtlcepboedifniaaGreatDoor

set_option linter.unusedVariables false
set_option linter.unusedSimpArgs false
namespace Go.Proofs.YtlcepboedifniaaGreatDoor
open Go Go.RowKit Copyhold Copyhold.Disk
def fewP (d : Dsk) : Prop := (d.kept.length ≤ 40 ∧ d.w.length ≤ 60) ∧ Copyhold.Disk.Right d
theorem okd_of {d : Dsk} (hr : Copyhold.Disk.Right d) (hw : d.w.length ≤ 5864062014634) : OkDk d := ⟨by have := hr.1; omega, fun l hl => by rw [hr.2.1 l hl]; omega, by
  intro x hx
  have h1 := hr.2.2 x hx
  have h2 := hr.1
  unfold okPut
  omega, hw⟩
theorem LogOk.bd {d : Dsk} {r : Rng} {l : Lg} {ts : List Txt} (h : LogOk d r l ts) (hk : d.kept.length ≤ 200) : (0 ≤ l.at_ ∧ l.at_ < r.many) ∧ (0 ≤ l.used ∧ l.used ≤ r.many) ∧ (0 ≤ l.many ∧ l.many ≤ l.used) ∧ (0 ≤ r.from_ ∧ 1 ≤ r.many ∧ r.from_ ≤ d.kept.length ∧ r.many ≤ d.kept.length - r.from_) ∧ OkL l ∧ SmL l := by
  have h1 := h.small hk
  have h2 := h.used
  have h3 := h.many
  have h4 := h.room
  have h5 : 0 ≤ l.at_ ∧ l.at_ < r.many := h.place
  have h6 : 0 ≤ r.from_ ∧ 1 ≤ r.many ∧ r.from_ ≤ d.kept.length ∧ r.many ≤ d.kept.length - r.from_ := h.ring
  have h7 := sumN_len ts
  refine ⟨h5, by omega, by omega, h6, ⟨⟨by omega, by omega⟩, ⟨by omega, by omega⟩, h.num, ⟨by omega, by omega⟩⟩, ⟨by omega, by omega⟩, ⟨by omega, by omega⟩, by omega, by omega⟩
theorem need_le {s : Txt} (h : s.length ≤ 5000) : needB s ≤ 80 := by
  have h1 := recB_len 0 s
  have h2 := textB_len s (by omega)
  unfold needB sec
  omega
theorem app_room {d : Dsk} {r : Rng} {l : Lg} {s : Txt} (ho : d.off = false) (hs : s.length ≤ 4096) (h : l.used + (needB s : Int) > r.many) : appD d r l s = (d, l, 12) := by
  unfold appD
  rw [if_neg (by rw [ho]; decide), if_neg (by omega), if_pos (by omega)]
theorem app_fits {d : Dsk} {r : Rng} {l : Lg} {s : Txt} (ho : d.off = false) (hs : s.length ≤ 4096) (h : ¬ l.used + (needB s : Int) > r.many) : appD d r l s = (laidD d r l s, ⟨l.at_, l.used + (needB s : Int), l.first, l.many + 1⟩, 0) := by
  unfold appD
  rw [if_neg (by rw [ho]; decide), if_neg (by omega), if_neg (by omega)]
theorem laid_w {d : Dsk} {r : Rng} {l : Lg} {s : Txt} (ho : d.off = false) : (laidD d r l s).w.length = d.w.length + needB s := by
  have h := (layK_facts d r (l.at_ + l.used) (cutF (recB (nxtN l) s)) ho (cutF (recB (nxtN l) s)).length).2.1
  rw [cutF_len, cut_need] at h
  unfold laidD
  rw [cutF_len, cut_need]
  exact h
theorem texts_ok {d : Dsk} {r : Rng} {l : Lg} {ts : List Txt} (h : LogOk d r l ts) (hr : Copyhold.Disk.Right d) (hk : d.kept.length ≤ 200) (hw : d.w.length ≤ 5000000) (okr : OkR r) : FSpec Tryz.prog 20 [.agg (dskA d), .agg (rngA r), .agg (lgA l)] (.tup [.sl 1 false (ts.map txA), aI 0]) := by
  have e := texts_spec d r l (okd_of hr (by omega)) hr hk okr (h.bd hk).2.2.2.2.1
  have hm := h.many
  rw [show textsD d r l = (ts, 0) from by
    unfold textsD
    rw [if_neg (by rw [h.off]; decide), h.told hr hk, List.take_of_length_le (by omega)]] at e
  exact e
def dropL (r : Rng) (l : Lg) (ts : List Txt) (m : Nat) : Lg := ⟨roundF r (l.at_ + (sumN (ts.take m) : Int)), l.used - (sumN (ts.take m) : Int), (l.first + (m : Int)) % 18446744073709551616, l.many - (m : Int)⟩
theorem drop_in {d : Dsk} {r : Rng} {l : Lg} {ts : List Txt} (h : LogOk d r l ts) (hr : Copyhold.Disk.Right d) (hk : d.kept.length ≤ 200) {m : Int} (h0 : 0 ≤ m) (h1 : m ≤ l.many) : dropD d r l m = (dropL r l ts m.toNat, 0) ∧ LogOk d r (dropL r l ts m.toNat) (ts.drop m.toNat) := by
  have hm := h.many
  refine ⟨?_, ok_drop hr h m.toNat (by omega)⟩
  unfold dropD dropL
  rw [if_neg (by omega), h.told hr hk, Int.toNat_of_nonneg h0]
theorem drop_out {d : Dsk} {r : Rng} {l : Lg} {m : Int} (h : ¬ (0 ≤ m ∧ m ≤ l.many)) : dropD d r l m = (l, 1) := if_pos (by omega)
theorem scan_ok {d : Dsk} {r : Rng} {l : Lg} {ts : List Txt} (h : LogOk d r l ts) (hr : Copyhold.Disk.Right d) (hk : d.kept.length ≤ 200) : ∃ t2, (scanD d r l.at_ l.first = (lgW (lg0 r l.at_ l.first) t2, t2, 0) ∧ LogOk d r (lgW (lg0 r l.at_ l.first) t2) t2) ∧ l.many ≤ t2.length ∧ t2.take ts.length = ts := by
  have h3 := (h.bd hk).2.2.2.1
  have h4 := h.room
  have h5 := sumN_len ts
  have h6 := h.many
  refine ⟨toldW d r (lg0 r l.at_ l.first) r.many, ⟨?_, ok_found hr h.off h.ring h.place h.num r.many⟩, ?_⟩
  · unfold scanD
    rw [if_neg (by rw [h.off]; decide), if_pos ⟨h.ring, h.place⟩]
  · obtain ⟨x, hx⟩ := h.more hk
    have e : toldW d r (lg0 r l.at_ l.first) r.many = ts ++ x.take (r.many.toNat - ts.length) := by
      rw [told0 hr h.ring h.place, hx, List.take_append, List.take_of_length_le (by omega)]
    rw [e, List.length_append]
    exact ⟨by omega, List.take_left⟩
set_option maxRecDepth 100000 in
set_option maxHeartbeats 4000000 in
theorem few5_spec (d : Dsk) (hk : d.kept.length ≤ 8796093022208) (hw : d.w.length ≤ 8796093022208) : FSpec Tryz.prog 7 [.agg [.sl 1 false (d.kept.map txA), .sl 2 false (d.w.map putA), aB d.off]] (aB (dP (fewP d))) := by
  exact spec_vd Tryz.func7 (
 .new fun b1 => .r 1 <| .u 3 [b1] <|
 .lm 5 d.kept txA <| .r 2 <| .bd 7 ((d.kept.length : Int) ≤ 40) (fun p1 => .u 3 [b1] <|
 .lm 10 d.w putA <| .r 3 <| .bd 13 ((d.w.length : Int) ≤ 60) (fun p2 => .u 1 [b1] <|
 .call (rdRight_spec d hk hw) <|
 .r 2 <| .f (aB (dP (fewP d))) [] (aB (dP (Copyhold.Disk.Right d))) (by exact Sub.of_eq (congrArg aB (by unfold fewP; exact dP_congr ⟨fun h => ⟨⟨by omega, by omega⟩, h⟩, fun h => h.2⟩))))
 <| fun p2 => .r 4 <| .f (aB (dP (fewP d))) [] (aB false) (by exact sF (fun h => by have h1 := h.1.1; have h2 := h.1.2; omega)))
 <| fun p1 => .r 10 <| .f (aB (dP (fewP d))) [] (aB false) (by exact sF (fun h => by have h1 := h.1.1; have h2 := h.1.2; omega)))
end Go.Proofs.YtlcepboedifniaaGreatDoor
