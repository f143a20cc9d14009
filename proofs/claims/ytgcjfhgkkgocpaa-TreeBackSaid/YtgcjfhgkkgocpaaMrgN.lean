/- octet.Num: for every number it returns the short number's bytes, and leaves old memory as it was. octet.Fold, octet.Unfold: as the document says, for every number; memory is as it was. Nodes in memory. node.Right, Size, Same: they answer as the document says; old memory is as it was. octet.lay, octet.Text: texts laid one behind the other; a text's bytes; old memory is as it was. For texts of fewer than 2^46 bytes. node.Text: it answers as the document says; old memory is as it was. Layers' plain mathematics: takers of texts one behind the other; what is laid is taken, no beginning of it is, what is taken was laid. No program. -/
import Derived.Test.YtgcjfhgkkgocpaaRows
import Derived.Test.YtgcjfhgkkgocpaaMrgA
import Derived.Test.YtgcjfhgkkgocpaaMrgM
import Derived.Deep.RegionHeld3
import Derived.Test.YtgcjfhgkkgocpaaShelf
namespace Go.Proofs.Ytgcjfhgkkgocpaa
open Go.RowKit Copyhold
theorem info_u8 : (Try.prog.info? 5).map (fun i => (i.zero, i.size, i.bytes)) = some (some (.int .u8 0), 1, 1) := by kernel_rfl
theorem byte_or128 (k : Int) (h : 0 ≤ k) : bits BinOp.or IntKind.u8 (k % 256) 128 = ((k.toNat % 128 + 128 : Nat) : Int) := by
  rw [u8_or _ _ (by omega) (by omega) (by omega) (by omega)]
  congr 1
  have e : (k % 256).toNat = k.toNat % 256 := by omega
  rw [e, show (128 : Int).toNat = 128 from rfl]
  have h256 : k.toNat % 256 < 256 := Nat.mod_lt _ (by decide)
  have h2 : k.toNat % 128 = (k.toNat % 256) % 128 := by omega
  rw [h2]
  generalize k.toNat % 256 = m at h256
  revert m
  decide +kernel
def NumRel (w : World) (n k : Int) (v : Value) (wr : World) : Prop :=
  ∃ xs : List Int, 0 ≤ k ∧ k ≤ n ∧ (xs.map fun n => UInt8.ofNat n.toNat) ++ numB k.toNat = numB n.toNat ∧ wr.ownsRow w.heap.size 5 1 v xs.length (xs.map (Value.int .u8)) ∧ Below w.heap.size w wr
set_option maxRecDepth 100000 in
set_option maxHeartbeats 400000 in
theorem octet_Num (n : Int) (w : World) (h0 : 0 ≤ n) (h : n ≤ 18446744073709551615) :
    Calls Try.prog 38 #[.int .u64 n] w fun e w' => e = .returned (.string ⟨(numB n.toNat).toArray⟩) ∧ Below w.heap.size w w' := by
  obtain ⟨i0, hi, hz0, hz1, hz2⟩ := info_parts info_u8
  go_enter Try.func38, Try.ntmps38
  go_wp2
  go_loopw [0, 3] (fun m v wr => ∃ (k : Int), m = .int .u64 k ∧ NumRel w n k v wr) (fun m _ _ => (intOf m).toNat)
  case atStart => exact ⟨n, rfl, [], h0, Int.le_refl _, rfl, World.ownsRow_nil _ _ _ _, Below.refl _ _⟩
  case round =>
    obtain ⟨k, rfl, xs, hk0, hk, hx, hown, hb⟩ := hrel
    have hsz := hb.size
    have hl := congrArg List.length hx
    have hn := numB_len10 n.toNat (by omega)
    have hk1 := numB_pos k.toNat
    rw [List.length_append, List.length_map] at hl
    have hxl : xs.length ≤ 9 := by omega
    have HX := Lib.hid hx; clear hx hl hn hk1
    by_cases hlt : k < 128
    · have hfin : (strOfNums (xs ++ [k])) = ⟨(numB n.toNat).toArray⟩ := by
        rw [← HX.out, numB_small (by omega)]; simp [strOfNums]
      have HF := Lib.hid hfin; clear hfin
      go_wp2_with (first
        | (at_builtin; refine wpList_append_own _ rfl _ _ 102 rfl w.heap.size 5 i0 (.int .u8 0) 1 1 Try.underlying102 hi hz0 hz1 hz2 rfl (by decide) _ _ _ rfl (hown.alloc _) ⟨wr.heap.size, 0, none⟩ 1 1 [.int .u8 k] rfl rfl (cell_one_new _ _ _) (fun x hx => by simp at hx; subst hx; rfl) (by unfold maxLen; omega) (by omega) (by simp; omega) ?_; intro v' w3 hown' hgrow3 hnil3; clear hnil3; have hcv := run_convert_own (P := Try.prog) (xs := xs ++ [k]) 102 9 Try.underlying102 Try.underlying5 Try.underlying9 (by simpa using hown'); rw [HF.out] at hcv; have hb3 : Below w.heap.size w w3 := (hb.alloc hsz _).grown hgrow3 (by simp; omega) (fun q hq => (hown.lt q hq).1); clear hown' hgrow3))
      go_ret
      exact ⟨rfl, hb3⟩
    · go_wp2_with (first
        | (at_builtin; refine wpList_append_own _ rfl _ _ 102 rfl w.heap.size 5 i0 (.int .u8 0) 1 1 Try.underlying102 hi hz0 hz1 hz2 rfl (by decide) _ _ _ rfl (hown.alloc _) ⟨wr.heap.size, 0, none⟩ 1 1 [_] rfl rfl (cell_one_new _ _ _) (fun x hx => by simp at hx; subst hx; rfl) (by unfold maxLen; omega) (by omega) (by simp; omega) ?_; intro v' w3 hown' hgrow3 hnil3))
      refine ⟨⟨k / 128, rfl, xs ++ [bits BinOp.or IntKind.u8 (k % 256) 128], by omega, by omega, ?_, by simpa using hown', (hb.alloc hsz _).grown hgrow3 (by simp; omega) (fun q hq => (hown.lt q hq).1)⟩, by simp [intOf]; omega⟩
      rw [← HX.out, numB_big (n := k.toNat) (by omega), byte_or128 k hk0, show (k / 128).toNat = k.toNat / 128 from by omega]
      simp only [List.map_append, List.map_cons, List.map_nil, Int.toNat_natCast, List.append_assoc, List.cons_append, List.nil_append]
end Go.Proofs.Ytgcjfhgkkgocpaa

namespace Go.Proofs.Ytgcjfhgkkgocpaa
open Go.RowKit Copyhold
def foldN (n : Int) : Int := if n < 0 then -2 * n - 1 else 2 * n
def unfoldN (n : Int) : Int := if n % 2 = 1 then -(n / 2) - 1 else n / 2
theorem octet_Fold (n : Int) (w : World) (h1 : -9223372036854775808 ≤ n) (h2 : n ≤ 9223372036854775807) :
    Calls Try.prog 39 #[.int .i64 n] w fun e w' => e = .returned (.int .u64 (foldN n)) ∧ w = w' := by
  by_cases h : n < 0
  · go_enter Try.func39, Try.ntmps39
    go_wp2
    go_ret
    exact ⟨ret_int (by rw [foldN, if_pos h]; omega), rfl⟩
  · have h0 : 0 ≤ n := by omega
    have hf : foldN n = 2 * n := if_neg h
    have HF := Lib.hid hf; clear hf h
    go_enter Try.func39, Try.ntmps39
    go_wp2
    go_ret
    exact ⟨ret_int HF.out.symm, rfl⟩
theorem octet_Unfold (n : Int) (w : World) (h1 : 0 ≤ n) (h2 : n ≤ 18446744073709551615) :
    Calls Try.prog 28 #[.int .u64 n] w fun e w' => e = .returned (.int .i64 (unfoldN n)) ∧ w = w' := by
  by_cases h : n % 2 = 1
  · go_enter Try.func28, Try.ntmps28
    go_wp2
    go_ret
    exact ⟨ret_int (by rw [unfoldN, if_pos h]), rfl⟩
  · have h0 : n % 2 = 0 := by omega
    go_enter Try.func28, Try.ntmps28
    go_wp2
    go_ret
    exact ⟨ret_int (by rw [unfoldN, if_neg (by omega)]), rfl⟩
end Go.Proofs.Ytgcjfhgkkgocpaa

set_option linter.unusedVariables false
namespace Go.Proofs.Ytgcjfhgkkgocpaa
open Go.RowKit Copyhold Copyhold.Name
def NodeV (w : World) (v : Value) (n : Nd) : Prop := ∃ A c, v = .agg #[.int .i64 n.ino, .int .i64 n.kind, .int .i64 n.links, .string ⟨n.text.toArray⟩, .slice A n.l.length c] ∧ Ents w (.slice A n.l.length c) n.l
def OkNd (n : Nd) : Prop := (-9223372036854775808 ≤ n.ino ∧ n.ino ≤ 9223372036854775807) ∧ (-9223372036854775808 ≤ n.kind ∧ n.kind ≤ 9223372036854775807) ∧ (-9223372036854775808 ≤ n.links ∧ n.links ≤ 9223372036854775807) ∧ n.text.length ≤ 140737488351232 ∧ OkEnts n.l ∧ n.l.length ≤ 5864062014634
theorem NodeV.below {w w' : World} {v : Value} {n : Nd} (h : NodeV w v n) (hb : Below w.heap.size w w') : NodeV w' v n := by
  obtain ⟨A, c, rfl, h⟩ := h
  exact ⟨A, c, rfl, h.below hb⟩
theorem len0 (l : List Name.Ent) : (l == []) = ((l.length : Int) == 0) := by
  cases l with
  | nil => rfl
  | cons a r =>
    have : (((a :: r).length : Int) == 0) = false := by rw [beq_eq_false_iff_ne]; simp; omega
    rw [this]
    rfl
set_option maxHeartbeats 2000000 in
theorem node_Right (n : Nd) (v : Value) (w : World) (hv : NodeV w v n) (ho : OkNd n) :
    Calls Try.prog 49 #[v] w fun e w' => e = .returned (.bool (rightN n)) ∧ Below w.heap.size w w' := by
  obtain ⟨A, c, rfl, hE⟩ := hv
  obtain ⟨ino, kind, links, text, l⟩ := n
  obtain ⟨⟨o1, o2⟩, ⟨o3, o4⟩, ⟨o5, o6⟩, o7, o8, o9⟩ := ho
  simp only at o1 o2 o3 o4 o5 o6 o7 o8 o9 hE ⊢
  obtain ⟨W0, hW0⟩ : ∃ W0, W0 = w.alloc (.cells #[.int .i64 ino, .int .i64 kind, .int .i64 links, .string ⟨text.toArray⟩, .slice A l.length c] 27) := ⟨_, rfl⟩
  have hb0 : Below w.heap.size w W0 := by rw [hW0]; exact (Below.refl _ _).alloc (Nat.le_refl _) _
  have HR := Lib.hid (name_Right l A c W0 (hE.below hb0) o8 o9)
  have HW := Lib.hid hW0
  have HB0 := Lib.hid hb0
  clear hE hW0 hb0 o8
  have hrb : ∀ b, rightN ⟨ino, kind, links, text, l⟩ = b → Hid (rightN ⟨ino, kind, links, text, l⟩ = b) := fun b h => Lib.hid h
  by_cases h1 : 1 ≤ ino ∧ 0 ≤ links ∧ links ≤ 64
  · obtain ⟨h1, h2, h3⟩ := h1
    have d1 : decide (ino < 1) = false := by rw [decide_eq_false_iff_not]; omega
    have d2 : decide (links < 0) = false := by rw [decide_eq_false_iff_not]; omega
    have d3 : decide (64 < links) = false := by rw [decide_eq_false_iff_not]; omega
    rcases (show kind = 2 ∨ kind = 1 ∨ kind = 3 ∨ (kind ≠ 2 ∧ kind ≠ 1 ∧ kind ≠ 3) from by omega) with rfl | rfl | rfl | ⟨k2, k1, k3⟩
    · by_cases ht : text = []
      · subst ht
        have H := hrb (rightE l) (by simp [rightN, h1, h2, h3])
        clear hrb
        generalize rightE l = r at *
        go_enter Try.func49, Try.ntmps49
        go_wp2_with fail
        rw [← HW.out]
        refine HR.out.mono ?_
        rintro e w1 ⟨rfl, hb1⟩
        have HB1 := Lib.hid (below_trans HB0.out hb1 HB0.out.size)
        clear hb1
        go_wp2_with fail
        go_ret
        exact ⟨by rw [H.out]; rfl, HB1.out⟩
      · have H := hrb false (by simp [rightN, ht])
        have hq : (text == []) = false := by simpa using ht
        clear hrb ht
        go_enter Try.func49, Try.ntmps49
        go_wp2_with fail
        go_ret
        exact ⟨by rw [H.out]; rfl, (Below.refl _ _).alloc (Nat.le_refl _) _⟩
    · by_cases hx : text.length ≤ 4096
      · have H := hrb ((l.length : Int) == 0) (by rw [← len0]; simp [rightN, h1, h2, h3, hx])
        have hd : decide ((text.length : Int) ≤ 4096) = true := by rw [decide_eq_true_iff]; omega
        clear hrb
        go_enter Try.func49, Try.ntmps49
        go_wp2_with fail
        go_ret
        exact ⟨by rw [H.out]; rfl, (Below.refl _ _).alloc (Nat.le_refl _) _⟩
      · have H := hrb false (by simp [rightN, h1, h2, h3, hx])
        have hd : decide ((text.length : Int) ≤ 4096) = false := by rw [decide_eq_false_iff_not]; omega
        clear hrb
        go_enter Try.func49, Try.ntmps49
        go_wp2_with fail
        go_ret
        exact ⟨by rw [H.out]; rfl, (Below.refl _ _).alloc (Nat.le_refl _) _⟩
    · by_cases hx : text.length ≤ 4096
      · have H := hrb ((l.length : Int) == 0) (by rw [← len0]; simp [rightN, h1, h2, h3, hx])
        have hd : decide ((text.length : Int) ≤ 4096) = true := by rw [decide_eq_true_iff]; omega
        clear hrb
        go_enter Try.func49, Try.ntmps49
        go_wp2_with fail
        go_ret
        exact ⟨by rw [H.out]; rfl, (Below.refl _ _).alloc (Nat.le_refl _) _⟩
      · have H := hrb false (by simp [rightN, h1, h2, h3, hx])
        have hd : decide ((text.length : Int) ≤ 4096) = false := by rw [decide_eq_false_iff_not]; omega
        clear hrb
        go_enter Try.func49, Try.ntmps49
        go_wp2_with fail
        go_ret
        exact ⟨by rw [H.out]; rfl, (Below.refl _ _).alloc (Nat.le_refl _) _⟩
    · have H := hrb false (by simp [rightN, k1, k2, k3])
      have q1 : (kind == 1) = false := by simpa using k1
      have q2 : (kind == 2) = false := by simpa using k2
      have q3 : (kind == 3) = false := by simpa using k3
      clear hrb k1 k2 k3
      go_enter Try.func49, Try.ntmps49
      go_wp2_with fail
      go_ret
      exact ⟨by rw [H.out]; rfl, (Below.refl _ _).alloc (Nat.le_refl _) _⟩
  · have H := hrb false (by
      simp only [rightN]
      rw [Bool.and_eq_false_iff]
      left
      rw [Bool.eq_false_iff]
      intro h
      simp only [Bool.and_eq_true, decide_eq_true_eq] at h
      exact h1 ⟨h.1.1, h.1.2, h.2⟩)
    clear hrb
    rcases (show ino < 1 ∨ 1 ≤ ino ∧ links < 0 ∨ 1 ≤ ino ∧ 0 ≤ links ∧ 64 < links from by omega) with h | ⟨h, h'⟩ | ⟨h, h', h''⟩
    all_goals
      clear h1
      go_enter Try.func49, Try.ntmps49
      go_wp2_with fail
      go_ret
      exact ⟨by rw [H.out]; rfl, (Below.refl _ _).alloc (Nat.le_refl _) _⟩
set_option maxHeartbeats 2000000 in
theorem node_number (z : Int) (w : World) (h1 : -9223372036854775808 ≤ z) (h2 : z ≤ 9223372036854775807) :
    Calls Try.prog 57 #[.int .i64 z] w fun e w' => e = .returned (.string ⟨(numB (foldN z).toNat).toArray⟩) ∧ Below w.heap.size w w' := by
  have hf1 : 0 ≤ foldN z := by unfold foldN; split <;> omega
  have hf2 : foldN z ≤ 18446744073709551615 := by unfold foldN; split <;> omega
  have HF := Lib.hid (octet_Fold z w h1 h2)
  generalize foldN z = f at *
  go_enter Try.func57, Try.ntmps57
  go_wp2_with fail
  refine HF.out.mono ?_
  rintro e w1 ⟨rfl, rfl⟩
  go_wp2_with fail
  refine (octet_Num f w hf1 hf2).mono ?_
  rintro e w1 ⟨rfl, hb1⟩
  go_wp2_with fail
  go_ret
  exact ⟨rfl, hb1⟩
end Go.Proofs.Ytgcjfhgkkgocpaa

namespace Go.Proofs.Ytgcjfhgkkgocpaa
open Go.RowKit Copyhold
theorem octet_lay (bk o c : Nat) (xs : List (List UInt8)) (w : World) (hcells : ∀ (j : Nat) x, xs[j]? = some x → w.cell? ⟨bk, o + j, none⟩ = some (.string ⟨x.toArray⟩)) (hbk : bk < w.heap.size)
    (hN : xs.length ≤ 140737488355328) (hcap : xs.length ≤ c) (hlen : xs.flatten.length ≤ 140737488355328) :
    Calls Try.prog 67 #[.slice (some ⟨bk, o, none⟩) xs.length c] w fun e w' => e = .returned (.string ⟨xs.flatten.toArray⟩) ∧ Below w.heap.size w w' := by
  have hj := Try.strings_Join bk o c (xs.map fun l => ⟨l.toArray⟩) ⟨#[]⟩ w (fun j x hx => by
      rw [List.getElem?_map] at hx
      cases hg : xs[j]? with
      | none => rw [hg] at hx; cases hx
      | some y => rw [hg] at hx; cases hx; exact hcells j y hg) hbk (by simpa using hN) (by simpa using hcap)
  have e : Lib.join ((xs.map fun l => (⟨l.toArray⟩ : ByteArray)).map (·.data.toList)) (⟨#[]⟩ : ByteArray).data.toList = xs.flatten := by
    rw [List.map_map]
    show List.intercalate [] _ = _
    rw [intercalate_nil]
    congr 1
    exact List.map_id xs
  rw [e, List.length_map] at hj
  have HJ := Lib.hid (hj hlen); clear hj e hcells
  go_enter Try.func67, Try.ntmps67
  go_wp2_with (go_at_call 41; refine HJ.out.mono ?_; rintro e w' ⟨rfl, hb⟩)
  go_ret
  exact ⟨rfl, hb⟩
theorem octet_Text (l : List UInt8) (w : World) (h : l.length ≤ 70368744177664) :
    Calls Try.prog 58 #[.string ⟨l.toArray⟩] w fun e w' => e = .returned (.string ⟨(textB l).toArray⟩) ∧ Below w.heap.size w w' := by
  go_enter Try.func58, Try.ntmps58
  go_wp2_with fail
  refine (octet_Num _ _ (by omega) (by omega)).mono ?_
  rintro e w1 ⟨rfl, hb1⟩
  rw [Int.toNat_natCast]
  have hn := numB_len10 l.length (by omega)
  have hsz := hb1.size
  go_wp2_with fail
  refine (octet_lay w1.heap.size 0 2 [numB l.length, l] _ ?_ (by simp) (by simp) (by simp) (by simp; omega)).mono ?_
  · intro j x hx
    match j, hx with
    | 0, hx => cases hx; simp
    | 1, hx => cases hx; simp
  rintro e w2 ⟨rfl, hb2⟩
  go_wp2_with fail
  go_ret
  exact ⟨by simp [textB], (hb1.alloc hsz _).trans (hb2.mono (by simp; omega))⟩
end Go.Proofs.Ytgcjfhgkkgocpaa

set_option linter.unusedVariables false
namespace Go.Proofs.Ytgcjfhgkkgocpaa
open Go.RowKit Copyhold Copyhold.Name
def wholeB (z : Int) : List UInt8 := numB (foldN z).toNat
theorem wholeB_len (z : Int) (h1 : -9223372036854775808 ≤ z) (h2 : z ≤ 9223372036854775807) : (wholeB z).length ≤ 10 := numB_len10 _ (by unfold foldN; split <;> omega)
def headP (n : Nd) : List (List UInt8) := [wholeB n.ino, wholeB n.kind, wholeB n.links, textB n.text, numB n.l.length]
def entsP (l : List Name.Ent) : List (List UInt8) := l.flatMap fun x => [textB x.1, wholeB x.2]
def nodeP (n : Nd) : List (List UInt8) := headP n ++ entsP n.l
def nodeB (n : Nd) : List UInt8 := (nodeP n).flatten
theorem entsP_len (l : List Name.Ent) : (entsP l).length = 2 * l.length := by
  induction l with
  | nil => rfl
  | cons x l ih => rw [entsP, List.flatMap_cons, List.length_append, ← entsP, ih]; simp; omega
theorem entsP_take (l : List Name.Ent) (k : Nat) (h : k < l.length) : entsP (l.take (k + 1)) = entsP (l.take k) ++ [textB l[k].1, wholeB l[k].2] := by
  rw [entsP, List.take_succ_eq_append_getElem h, List.flatMap_append]
  rfl
def Short (l : List Name.Ent) : Prop := ∀ x ∈ l, x.1.length ≤ 1048576
theorem entsP_size (l : List Name.Ent) (hs : Short l) (ho : OkEnts l) : (entsP l).flatten.length ≤ 1048596 * l.length := by
  induction l with
  | nil => simp [entsP]
  | cons x l ih =>
    have h1 := hs x List.mem_cons_self
    have h2 := ho x List.mem_cons_self
    have h3 := ih (fun y hy => hs y (List.mem_cons_of_mem _ hy)) (fun y hy => ho y (List.mem_cons_of_mem _ hy))
    have h4 := textB_len x.1 (by omega)
    have h5 := wholeB_len x.2 h2.2.1 h2.2.2
    rw [entsP, List.flatMap_cons, List.flatten_append, List.length_append, ← entsP]
    simp only [List.flatten_cons, List.flatten_nil, List.append_nil, List.length_append, List.length_cons]
    omega
theorem nodeB_size (n : Nd) (ho : OkNd n) (hs : Short n.l) (ht : n.text.length ≤ 1048576) (hl : n.l.length ≤ 1048576) : (nodeB n).length ≤ 2000000000000 := by
  obtain ⟨⟨o1, o2⟩, ⟨o3, o4⟩, ⟨o5, o6⟩, o7, o8, o9⟩ := ho
  have h1 := wholeB_len _ o1 o2
  have h2 := wholeB_len _ o3 o4
  have h3 := wholeB_len _ o5 o6
  have h4 := textB_len n.text (by omega)
  have h5 := numB_len10 n.l.length (by omega)
  have h6 := entsP_size n.l hs o8
  unfold nodeB nodeP headP
  rw [List.flatten_append, List.length_append]
  simp only [List.flatten_cons, List.flatten_nil, List.append_nil, List.length_append]
  omega
theorem join_row (v : Value) (xs : List (List UInt8)) (w : World) (hr : Row w v (xs.map strV)) (h0 : 0 < xs.length) (hn : xs.length ≤ 100000000) (hlen : xs.flatten.length ≤ 140737488355328) :
    Calls Try.prog 41 #[v, .string ⟨#[]⟩] w fun e w' => e = .returned (.string ⟨xs.flatten.toArray⟩) ∧ Below w.heap.size w w' := by
  obtain ⟨A, c, rfl⟩ := hr.shape
  rw [List.length_map] at hr ⊢
  obtain ⟨bk, o, rfl, hbk, hcap, hcl⟩ := hr.at 0 (x := strV xs[0]) (by rw [List.getElem?_map, List.getElem?_eq_getElem h0]; rfl)
  have hj := Try.strings_Join bk o c (xs.map fun l => ⟨l.toArray⟩) ⟨#[]⟩ w (fun j x hx => by
      rw [List.getElem?_map] at hx
      cases hg : xs[j]? with
      | none => rw [hg] at hx; cases hx
      | some y => rw [hg] at hx; cases hx; exact hcl j (strV y) (by rw [List.getElem?_map, hg]; rfl)) hbk (by rw [List.length_map]; omega) (by simpa using hcap)
  have e : Lib.join ((xs.map fun l => (⟨l.toArray⟩ : ByteArray)).map (·.data.toList)) (⟨#[]⟩ : ByteArray).data.toList = xs.flatten := by
    rw [List.map_map]
    show List.intercalate [] _ = _
    rw [intercalate_nil]
    congr 1
    exact List.map_id xs
  rw [e, List.length_map] at hj
  exact hj hlen
theorem slL (w : World) (cs : Array Value) (t : TypeId) : Sl (w.alloc (.cells cs t)) 1 (.slice (some ⟨w.heap.size, 0, none⟩) cs.size cs.size) cs.size cs.toList :=
  ⟨_, cs.size, rfl, Nat.le_refl _, by simp, fun _ => ⟨w.heap.size, 0, rfl, by simp, fun j y hj => by
    rw [Nat.zero_add, cell_new]
    simpa using hj⟩⟩
theorem app2 (b a : List UInt8) {w : World} (w7 : World) {bx base : Nat} {v : Value} {n : Nat} (xs : List Value) {ss : Nat} (hne : ∀ g, v.ownBlock = some g → g ≠ bx) (hss : ss = bx + 1) (ho : w7.ownsRow base 9 1 v n xs) (hb : Below base w w7) (hn : n + 2 ≤ 100000000) (hbw : base ≤ w.heap.size) (hbx : ss ≤ w7.heap.size) :
    ∃ v' w', (Builtin.append_ #[74, 74] 74 #[v, .slice (some ⟨w7.heap.size, 0, none⟩) 2 2]).run Try.prog (w7.alloc (.cells #[.string ⟨a.toArray⟩, .string ⟨b.toArray⟩] 9)) = .ok v' w' ∧ w'.ownsRow base 9 1 v' (n + 2) (xs ++ [strV a, strV b]) ∧
      Below base w w' ∧ ∀ o u, (w7.alloc (.cells #[.string ⟨a.toArray⟩, .string ⟨b.toArray⟩] 9)).cell? ⟨bx, o, none⟩ = some u → w'.cell? ⟨bx, o, none⟩ = some u := by
  obtain ⟨v', w', hrun, h1, h2, _⟩ := append_sl textElem (w7.alloc (.cells #[.string ⟨a.toArray⟩, .string ⟨b.toArray⟩] 9)) base 74 v n xs (ho.alloc _) _ 2 [.string ⟨a.toArray⟩, .string ⟨b.toArray⟩] (slL w7 #[.string ⟨a.toArray⟩, .string ⟨b.toArray⟩] _) (fun u hu => by simp at hu; rcases hu with rfl | rfl <;> rfl) (by unfold maxLen; omega) (by omega) (by have := hb.size; simp; omega)
  refine ⟨v', w', hrun, h1, (hb.alloc (by have := hb.size; omega) _).grown h2 (by have := hb.size; simp; omega) (fun g hg => (own_block_ge ho g hg).1), fun o u hu => ?_⟩
  exact (World.cell?_of_block (h2.block bx (by simp; omega) (fun e => hne bx e.symm rfl))).trans hu
theorem app3 (b a : List UInt8) (w w7 W2 wa : World) (bx : Nat) {v : Value} {n : Nat} {xs : List Value} (hne : ∀ g, v.ownBlock = some g → g ≠ bx) (hss : W2.heap.size = bx + 1) (ho : W2.ownsRow w.heap.size 9 1 v n xs) (h1 : Below W2.heap.size W2 wa) (h2 : Below wa.heap.size wa w7) (hb : Below w.heap.size w W2) (hn : n + 2 ≤ 100000000) :
    ∃ v' w', (Builtin.append_ #[74, 74] 74 #[v, .slice (some ⟨w7.heap.size, 0, none⟩) 2 2]).run Try.prog (w7.alloc (.cells #[.string ⟨a.toArray⟩, .string ⟨b.toArray⟩] 9)) = .ok v' w' ∧ w'.ownsRow w.heap.size 9 1 v' (n + 2) (xs ++ [strV a, strV b]) ∧
      Below w.heap.size w w' ∧ ∀ o u, (w7.alloc (.cells #[.string ⟨a.toArray⟩, .string ⟨b.toArray⟩] 9)).cell? ⟨bx, o, none⟩ = some u → w'.cell? ⟨bx, o, none⟩ = some u :=
  app2 b a w7 xs hne hss (owns_below (owns_below ho h1) h2) (below_trans (below_trans hb h1 hb.size) h2 (Nat.le_trans hb.size h1.size)) hn (Nat.le_refl _) (Nat.le_trans h1.size h2.size)
set_option maxRecDepth 100000 in
set_option maxHeartbeats 8000000 in
theorem node_Text (n : Nd) (v : Value) (w : World) (hv : NodeV w v n) (ho : OkNd n) (hs : Short n.l) (ht : n.text.length ≤ 1048576) (hl : n.l.length ≤ 1048576) :
    Calls Try.prog 40 #[v] w fun e w' => e = .returned (.string ⟨(nodeB n).toArray⟩) ∧ Below w.heap.size w w' := by
  have hsize := nodeB_size n ho hs ht hl
  obtain ⟨A, c, rfl, hE⟩ := hv
  obtain ⟨ino, kind, links, text, l⟩ := n
  obtain ⟨⟨o1, o2⟩, ⟨o3, o4⟩, ⟨o5, o6⟩, o7, o8, o9⟩ := ho
  simp only at o1 o2 o3 o4 o5 o6 o7 o8 o9 hE hs ht hl ⊢
  obtain ⟨W0, hW0⟩ : ∃ W0, W0 = w.alloc (.cells #[.int .i64 ino, .int .i64 kind, .int .i64 links, .string ⟨text.toArray⟩, .slice A l.length c] 27) := ⟨_, rfl⟩
  have hb0 : Below w.heap.size w W0 := by rw [hW0]; exact (Below.refl _ _).alloc (Nat.le_refl _) _
  have hs0 : W0.heap.size = w.heap.size + 1 := by rw [hW0]; simp
  have c0 : W0.cell? ⟨w.heap.size, 0, none⟩ = some (.int .i64 ino) := by rw [hW0]; exact cell_new _ _ _ 0
  have c1 : W0.cell? ⟨w.heap.size, 1, none⟩ = some (.int .i64 kind) := by rw [hW0]; exact cell_new _ _ _ 1
  have c2 : W0.cell? ⟨w.heap.size, 2, none⟩ = some (.int .i64 links) := by rw [hW0]; exact cell_new _ _ _ 2
  have c3 : W0.cell? ⟨w.heap.size, 3, none⟩ = some (.string ⟨text.toArray⟩) := by rw [hW0]; exact cell_new _ _ _ 3
  have c4 : W0.cell? ⟨w.heap.size, 4, none⟩ = some (.slice A l.length c) := by rw [hW0]; exact cell_new _ _ _ 4
  have HE := Lib.hid hE
  have HW := Lib.hid hW0
  have HO := Lib.hid o8
  have HS := Lib.hid hs
  have HSZ := Lib.hid hsize
  clear hE hW0 o8 hs hsize
  go_enter Try.func40, Try.ntmps40
  go_wp2_with fail
  rw [← HW.out]
  have hwl : IntKind.u64.wrap (l.length : Int) = (l.length : Int) := by rw [wrap_u64']; omega
  have hb00 := Below.refl W0.heap.size W0
  go_region_held3 (fun W => W.cell? ⟨w.heap.size, 0, none⟩ = some (.int .i64 ino) ∧ W.cell? ⟨w.heap.size, 1, none⟩ = some (.int .i64 kind) ∧ W.cell? ⟨w.heap.size, 2, none⟩ = some (.int .i64 links) ∧ W.cell? ⟨w.heap.size, 3, none⟩ = some (.string ⟨text.toArray⟩) ∧ W.cell? ⟨w.heap.size, 4, none⟩ = some (.slice A l.length c) ∧ Below W0.heap.size W0 W)
    (first | (go_keep; done) | (go_split_ands; refine ⟨?_, ?_, ?_, ?_, ?_, ?_⟩; all_goals first | exact cell_keep hb7 (by assumption) | exact below_trans (by assumption) hb7 (Below.size (by assumption)) | exact below_dn hb00 1 | assumption | exact Below.alloc (by assumption) (Below.size (by assumption)) _ | exact cell_alloc _ (by assumption)))
    (first | (go_at_call 57; refine (node_number _ _ (by omega) (by omega)).mono ?_; rintro e w7 ⟨rfl, hb7⟩) | (go_at_call 58; refine (octet_Text _ _ (by omega)).mono ?_; rintro e w7 ⟨rfl, hb7⟩) | (go_at_call 38; refine (octet_Num _ _ (by omega) (by omega)).mono ?_; rintro e w7 ⟨rfl, hb7⟩))
  rename_i hh
  obtain ⟨_, _, _, _, hc4, hbW⟩ := hh
  have hsz7 : w.heap.size ≤ w7.heap.size := by
    have h3 := hbW.size
    simp at h3
    omega
  obtain ⟨cs, hcs⟩ : ∃ cs : Array Value, cs = #[.string ⟨(numB (foldN ino).toNat).toArray⟩, .string ⟨(numB (foldN kind).toNat).toArray⟩, .string ⟨(numB (foldN links).toNat).toArray⟩, .string ⟨(textB text).toArray⟩, .string ⟨(numB l.length).toArray⟩] := ⟨_, rfl⟩
  rw [← hcs] at hc4 hbW ⊢
  have hrow1 : (w7.alloc (.cells cs 9)).ownsRow w.heap.size 9 1 (.slice (some ⟨w7.heap.size, 0, none⟩) 5 5) 5 ((headP ⟨ino, kind, links, text, l⟩ ++ entsP (l.take 0)).map strV) := by
    have := owns_built (e := 9) cs hsz7 (by rw [hcs]; simp [maxLen])
    rw [hcs] at this ⊢
    simpa [headP, entsP, strV, wholeB] using this
  have hb1 : Below w.heap.size w (w7.alloc (.cells cs 9)) := below_trans hb0 hbW hb0.size
  obtain ⟨W1, hW1⟩ : ∃ W1, W1 = w7.alloc (.cells cs 9) := ⟨_, rfl⟩
  rw [← hW1] at hc4 hbW hrow1 hb1 ⊢
  obtain ⟨v1, hv1⟩ : ∃ v1, v1 = Value.slice (some ⟨w7.heap.size, 0, none⟩) 5 5 := ⟨_, rfl⟩
  rw [← hv1] at hrow1 ⊢
  have HROW1 := Lib.hid hrow1
  have HB1 := Lib.hid hb1
  clear hrow1 hb1 hv1 hW1 hcs hbW
  clear c0 c1 c2 c3 c4 hb7 hwl hb00 HW
  go_wp2_with fail
  go_loopw [3, 27] (fun sp si wr => ∃ k : Nat, si = .int .i64 k ∧ k ≤ l.length ∧ wr.ownsRow w.heap.size 9 1 sp (5 + 2 * k) ((headP ⟨ino, kind, links, text, l⟩ ++ entsP (l.take k)).map strV) ∧ Below w.heap.size w wr) (fun _ si _ => l.length - (intOf si).toNat)
  case atStart => exact ⟨0, rfl, Nat.zero_le _, HROW1.out, HB1.out⟩
  case round =>
    obtain ⟨k, rfl, hk, hown, hbk⟩ := hrel
    have HOWN := Lib.hid hown
    have HBK := Lib.hid hbk
    clear hown hbk hc4 HROW1 HB1
    by_cases hlt : k < l.length
    · obtain ⟨b, off, rfl, hbb, hlen, hc1, hc2⟩ := (HE.out.below HBK.out).at k hlt
      have HST := Lib.hid (entsP_take l k hlt)
      have hx1 := HS.out l[k] (List.getElem_mem _)
      have hx2 := HO.out l[k] (List.getElem_mem _)
      obtain ⟨_, hx3, hx4⟩ := hx2
      generalize l[k] = x at *
      obtain ⟨W2, hW2⟩ : ∃ W2, W2 = wr.alloc (.cells #[.string ⟨x.1.toArray⟩, .int .i64 x.2] 93) := ⟨_, rfl⟩
      have q0 : W2.cell? ⟨wr.heap.size, 0, none⟩ = some (.string ⟨x.1.toArray⟩) := by rw [hW2]; exact cell_new _ _ _ 0
      have q1 : W2.cell? ⟨wr.heap.size, 1, none⟩ = some (.int .i64 x.2) := by rw [hW2]; exact cell_new _ _ _ 1
      have hb2 : Below w.heap.size w W2 := by rw [hW2]; exact HBK.out.alloc HBK.out.size _
      have ho2 : W2.ownsRow w.heap.size 9 1 u3 (5 + 2 * k) ((headP ⟨ino, kind, links, text, l⟩ ++ entsP (l.take k)).map strV) := by rw [hW2]; exact HOWN.out.alloc _
      have hne : ∀ g, u3.ownBlock = some g → g ≠ wr.heap.size := fun g hg => by have := (own_block_ge HOWN.out g hg).2; omega
      have HW2 := Lib.hid hW2
      have HO2 := Lib.hid ho2
      have HNE := Lib.hid hne
      have HO2d : Hid (W2.drew.ownsRow w.heap.size 9 1 u3 (5 + 2 * k) ((headP ⟨ino, kind, links, text, l⟩ ++ entsP (l.take k)).map strV)) := Lib.hid ho2
      have hb20 := below_dn hb2 1
      have hs2 : W2.heap.size = wr.heap.size + 1 := by rw [hW2]; simp
      have HS2 := Lib.hid hs2
      clear hW2 ho2 hne hs2
      go_wp2_with fail
      rw [← HW2.out]
      go_region_held3 (fun W => W.cell? ⟨wr.heap.size, 0, none⟩ = some (.string ⟨x.1.toArray⟩) ∧ W.cell? ⟨wr.heap.size, 1, none⟩ = some (.int .i64 x.2) ∧ Below w.heap.size w W)
        (first | (go_keep; done) | (go_split_ands; refine ⟨?_, ?_, ?_⟩; all_goals first | exact cell_keep hb7 (by assumption) | exact below_trans (by assumption) hb7 (Below.size (by assumption)) | exact hb20 | assumption | exact Below.alloc (by assumption) (Below.size (by assumption)) _ | exact cell_alloc _ (by assumption) | exact hfc _ _ (by assumption) | exact hfb))
        (first | (go_at_call 57; refine (node_number _ _ (by omega) (by omega)).mono ?_; rintro e w7 ⟨rfl, hb7⟩) | (go_at_call 58; refine (octet_Text _ _ (by omega)).mono ?_; rintro e w7 ⟨rfl, hb7⟩) | (go_split_ands; obtain ⟨v', w', hrun, hro, hfb, hfc⟩ := app3 (numB (foldN x.2).toNat) (textB x.1) w w7 W2.drew _ wr.heap.size HNE.out HS2.out HO2d.out (by assumption) (by assumption) hb20 (by omega); refine step_append_run rfl _ _ _ rfl _ _ _ _ rfl rfl hrun ?_))
      go_wp2_with fail
      go_roundw
      case rel => exact ⟨k + 1, by go_num, by omega, by rw [HST.out, ← List.append_assoc, List.map_append]; exact hro, hfb⟩
      case measure => simp [intOf]; omega
    · have hfin : (headP ⟨ino, kind, links, text, l⟩ ++ entsP (l.take k)).map strV = (nodeP ⟨ino, kind, links, text, l⟩).map strV := by rw [List.take_of_length_le (by omega)]; rfl
      have hrow := Row.of_owns HOWN.out
      rw [hfin] at hrow
      have hpl : (nodeP ⟨ino, kind, links, text, l⟩).length = 5 + 2 * l.length := by unfold nodeP headP; rw [List.length_append, entsP_len]; rfl
      have HJ := Lib.hid (join_row u3 (nodeP ⟨ino, kind, links, text, l⟩) wr hrow (by omega) (by omega) (by have := HSZ.out; unfold nodeB at this; omega))
      have hfl : (nodeP ⟨ino, kind, links, text, l⟩).flatten = nodeB ⟨ino, kind, links, text, l⟩ := rfl
      rw [hfl] at HJ
      obtain ⟨A3, c3, rfl⟩ := hrow.shape
      obtain ⟨B, hBe⟩ : ∃ B, B = nodeB ⟨ino, kind, links, text, l⟩ := ⟨_, rfl⟩
      rw [← hBe] at HJ
      have HBE := Lib.hid hBe
      rw [List.length_map] at HJ
      clear hfin hrow hpl hfl hBe
      go_wp2_with fail
      refine HJ.out.mono ?_
      rintro e w9 ⟨rfl, hb9⟩
      have HB9 := Lib.hid (below_trans HBK.out hb9 HBK.out.size)
      clear hb9
      go_wp2_with fail
      go_ret
      exact ⟨by rw [← HBE.out]; rfl, HB9.out⟩
end Go.Proofs.Ytgcjfhgkkgocpaa

set_option linter.unusedVariables false
namespace Copyhold
def thenP {α β : Type} (bad : β) (r : α × List UInt8 × Int) (f : α → List UInt8 → β × List UInt8 × Int) : β × List UInt8 × Int :=
  if r.2.2 = 0 then f r.1 r.2.1 else (bad, [], r.2.2)
theorem thenP_ok {α β : Type} {bad : β} {r : α × List UInt8 × Int} {f : α → List UInt8 → β × List UInt8 × Int} (h : r.2.2 = 0) : thenP bad r f = f r.1 r.2.1 := if_pos h
theorem thenP_no {α β : Type} {bad : β} {r : α × List UInt8 × Int} {f : α → List UInt8 → β × List UInt8 × Int} (h : r.2.2 ≠ 0) : thenP bad r f = (bad, [], r.2.2) := if_neg h
theorem thenP_zero {α β : Type} {bad : β} {r : α × List UInt8 × Int} {f : α → List UInt8 → β × List UInt8 × Int} (h : (thenP bad r f).2.2 = 0) : r.2.2 = 0 := by
  unfold thenP at h
  split at h
  · assumption
  · exact h
def Parses {α : Type} (t : List UInt8 → α × List UInt8 × Int) (B : List UInt8) (v : α) : Prop :=
  (∀ more, t (B ++ more) = (v, more, 0)) ∧ ∀ c, c < B.length → (t (B.take c)).2 = ([], 2)
theorem Parses.nil {α : Type} {t : List UInt8 → α × List UInt8 × Int} {v : α} (h : ∀ s, t s = (v, s, 0)) : Parses t [] v :=
  ⟨fun more => h more, fun c hc => absurd hc (by simp)⟩
theorem Parses.andThen {α β : Type} {t : List UInt8 → α × List UInt8 × Int} {B C : List UInt8} {v : α} {u bad : β} {f : α → List UInt8 → β × List UInt8 × Int} (h : Parses t B v) (k : Parses (f v) C u) :
    Parses (fun s => thenP bad (t s) f) (B ++ C) u := by
  constructor
  · intro more
    have := h.1 (C ++ more)
    simp only
    rw [List.append_assoc, this, thenP_ok rfl]
    exact k.1 more
  · intro c hc
    rw [List.length_append] at hc
    simp only
    by_cases h1 : c < B.length
    · rw [List.take_append_of_le_length (by omega)]
      have := h.2 c h1
      rw [thenP_no (by rw [this]; decide), this]
    · rw [List.take_append, List.take_of_length_le (by omega), h.1, thenP_ok rfl]
      exact k.2 _ (by omega)
theorem Parses.same {α : Type} {t t' : List UInt8 → α × List UInt8 × Int} {B B' : List UInt8} {v : α} (h : Parses t B v) (ht : ∀ s, t' s = t s) (hB : B' = B) : Parses t' B' v := by
  subst hB
  exact ⟨fun more => by rw [ht, h.1], fun c hc => by rw [ht, h.2 c hc]⟩
theorem takeNum_parses (n : Nat) (h : n < 18446744073709551616) : Parses takeNum (numB n) n :=
  ⟨fun more => takeNum_numB n more h, fun c hc => by rw [takeNum_cut n c h hc]⟩
theorem takeCount_parses (n : Nat) (most : Int) (h : n < 18446744073709551616) (hm : (n : Int) ≤ most) : Parses (fun s => takeCount s most) (numB n) n :=
  ⟨fun more => by simp only; rw [takeCount_numB _ _ _ h, if_neg (by omega)], fun c hc => by simp only; rw [takeCount_cut n c most h hc]⟩
theorem takeText_parses (l : List UInt8) (most : Int) (h : l.length < 18446744073709551616) (hm : (l.length : Int) ≤ most) : Parses (fun s => takeText s most) (textB l) l :=
  ⟨fun more => by simp only; rw [takeText_textB _ _ _ h, if_neg (by omega)], fun c hc => by simp only; rw [takeText_cut l most c h hm hc]⟩
theorem takeCount_laid (s : List UInt8) (most : Int) (h : (takeCount s most).2.2 = 0) : s = numB (takeCount s most).1 ++ (takeCount s most).2.1 ∧ ((takeCount s most).1 : Int) ≤ most ∧ (takeCount s most) = takeNum s := by
  unfold takeCount at h ⊢
  split at h
  · rename_i h1
    exact absurd h h1
  · rename_i h1
    split at h
    · cases h
    · rename_i h2
      rw [if_neg h1, if_neg h2]
      exact ⟨takeNum_laid s h, by omega, rfl⟩
end Copyhold
