/- Proved: copyholdlaw07.NodeSizes returns true for every node, and leaves it as it was: a right node with a byte more, or a directory with an entry more, is one greater, and its text is longer. No condition beyond the form's own reach. -/
import Derived.Test.YtoinafcjkbdjnaaNodeTake
import Derived.Test.YtoinafcjkbdjnaaNodeSame2
import Derived.Test.YtoinafcjkbdjnaaLaw
import Derived.IntWalk
import Derived.Deep.RegionHeld3
namespace Go.Proofs.Ytoinafcjkbdjnaa.nodeSizes
open Go.ChangeShapes Go.WideShapes Go.ChangeAt Go.RowKit Copyhold Copyhold.Name
open Go.ChangeMaps (open_string shut_string)
set_option linter.unusedVariables false
set_option linter.unusedSimpArgs false

@[local go_sem] theorem cat1 (x : List UInt8) (c : UInt8) : (⟨x.toArray⟩ : ByteArray) ++ ⟨#[c]⟩ = ⟨(x ++ [c]).toArray⟩ := cat x [c]

/-- a longer node has a longer text -/
theorem numB_le : ∀ (n m : Nat), n ≤ m → (numB n).length ≤ (numB m).length := by
  intro n
  induction n using Nat.strongRecOn with
  | _ n ih =>
    intro m h
    by_cases hs : n < 128
    · rw [numB_small hs]
      exact numB_pos m
    · rw [numB_big hs, numB_big (show ¬ m < 128 by omega)]
      simp only [List.length_cons]
      have := ih (n / 128) (by omega) (m / 128) (Nat.div_le_div_right h)
      omega
theorem longer_text (ino kind links : Int) (text : List UInt8) (x : UInt8) (l : List Ent) : (nodeB ⟨ino, kind, links, text, l⟩).length < (nodeB ⟨ino, kind, links, text ++ [x], l⟩).length := by
  have := numB_le text.length (text.length + 1) (by omega)
  unfold nodeB nodeP headP textB
  simp only [List.flatten_append, List.flatten_cons, List.flatten_nil, List.length_append, List.append_nil, List.length_cons, List.length_nil, Nat.zero_add]
  omega
theorem longer_ents (ino kind links : Int) (text : List UInt8) (l : List Ent) (x : Ent) : (nodeB ⟨ino, kind, links, text, l⟩).length < (nodeB ⟨ino, kind, links, text, l ++ [x]⟩).length := by
  have := numB_le l.length (l.length + 1) (by omega)
  have h2 := numB_pos x.1.length
  have e : entsP (l ++ [x]) = entsP l ++ [textB x.1, wholeB x.2] := by simp [entsP]
  unfold nodeB nodeP headP
  rw [e]
  unfold textB
  simp only [List.flatten_append, List.flatten_cons, List.flatten_nil, List.length_append, List.append_nil, List.length_cons, List.length_nil, Nat.zero_add]
  omega
theorem not_same_text (ino kind links : Int) (text : List UInt8) (x : UInt8) (l : List Ent) : sameN ⟨ino, kind, links, text ++ [x], l⟩ ⟨ino, kind, links, text, l⟩ = false := by
  rw [Bool.eq_false_iff]
  intro h
  have := congrArg (fun n => n.text.length) (sameN_iff.1 h)
  simp at this
theorem not_same_ents (ino kind links : Int) (text : List UInt8) (l : List Ent) (x : Ent) : sameN ⟨ino, kind, links, text, l ++ [x]⟩ ⟨ino, kind, links, text, l⟩ = false := by
  rw [Bool.eq_false_iff]
  intro h
  have := congrArg (fun n => n.l.length) (sameN_iff.1 h)
  simp at this

set_option maxRecDepth 100000 in
set_option maxHeartbeats 16000000 in
theorem walk (w : World) (ino : Int) (w1' : (Lit.int .i64 ino).wf = true) (kind : Int) (w2' : (Lit.int .i64 kind).wf = true) (links : Int) (w3' : (Lit.int .i64 links).wf = true) (text : List UInt8) (z : text.length ≤ 140737488351232) (lv : Value) (l : List Ent) (hl : Ents w lv l) (hok : OkEnts l) (hn : l.length ≤ 5864062014634) :
    Calls Try.prog 9 #[.agg #[.int .i64 ino, .int .i64 kind, .int .i64 links, .string ⟨text.toArray⟩, lv]] w fun e w' => e = .returned (.bool true) ∧ Below w.heap.size w w' := by
  have o1 := i64ok_of w1'
  have o2 := i64ok_of w2'
  have o3 := i64ok_of w3'
  obtain ⟨A, c, rfl, -⟩ := hl.shape
  have ho : OkN ⟨ino, kind, links, text, l⟩ := ⟨o1, o2, o3, z, hok, hn⟩
  have HRN := Lib.hid (fun W (h : Below w.heap.size w W) => ref07_Right ⟨ino, kind, links, text, l⟩ _ W ⟨A, c, rfl, hl.below h⟩ ho)
  have HNV := Lib.hid (fun W (h : Below w.heap.size w W) => (⟨A, c, rfl, hl.below h⟩ : NodeV W (.agg #[.int .i64 ino, .int .i64 kind, .int .i64 links, .string ⟨text.toArray⟩, .slice A l.length c]) ⟨ino, kind, links, text, l⟩))
  obtain ⟨W0, hW0⟩ : ∃ W0, W0 = w.alloc (.cells #[.int .i64 ino, .int .i64 kind, .int .i64 links, .string ⟨text.toArray⟩, .slice A l.length c] 24) := ⟨_, rfl⟩
  have hb0 : Below w.heap.size w W0 := by rw [hW0]; exact (Below.refl _ _).alloc (Nat.le_refl _) _
  have t0 : TBox W0 w.heap.size 24 #[.int .i64 ino, .int .i64 kind, .int .i64 links, .string ⟨text.toArray⟩, .slice A l.length c] := by rw [hW0]; exact TBox.new _ _ _
  have HT0 := Lib.hid t0
  have HW := Lib.hid hW0
  have HB0 := Lib.hid hb0
  have HO := Lib.hid ho
  have HL0 := Lib.hid hl
  clear hl ho hW0 hb0 t0 w1' w2' w3'
  by_cases hsm : l.length ≤ 200 ∧ text.length ≤ 4000
  · obtain ⟨s1, s2⟩ := hsm
    have d1 : decide ((200 : Int) < (l.length : Int)) = false := by rw [decide_eq_false_iff_not]; omega
    have d2 : decide ((4000 : Int) < (text.length : Int)) = false := by rw [decide_eq_false_iff_not]; omega
    by_cases hr : rightN ⟨ino, kind, links, text, l⟩ = true
    · obtain ⟨r1, r2, r3⟩ := right_parts hr HO.out
      rw [hr] at HRN
      have HSHORT := Lib.hid (show Short l from fun x hx => by have := (r3 x hx).1; omega)
      clear r1 r2 r3 hr
      have HTX := Lib.hid (fun W (h : Below w.heap.size w W) => node_Text ⟨ino, kind, links, text, l⟩ _ W (HNV.out W h) HO.out HSHORT.out (by simp only; omega) (by simp only; omega))
      have HSZ := Lib.hid (fun W (h : Below w.heap.size w W) => node_Size ⟨ino, kind, links, text, l⟩ _ W (HNV.out W h) HO.out)
      by_cases hk : kind = 2
      · subst hk
        have hsize : sizeN ⟨ino, 2, links, text, l⟩ = (l.length : Int) := if_pos rfl
        rw [hsize] at HSZ
        have ho2 : OkN ⟨ino, 2, links, text, l ++ [([122, 122], 3)]⟩ := ⟨o1, o2, o3, z, fun x hx => (by
          rcases List.mem_append.1 hx with h | h
          · exact hok x h
          · rw [List.mem_singleton.1 h]
            exact ⟨by simp, by decide, by decide⟩), by simp only [List.length_append, List.length_cons, List.length_nil]; omega⟩
        have hsize2 : sizeN ⟨ino, 2, links, text, l ++ [([122, 122], 3)]⟩ = ((l.length + 1 : Nat) : Int) := by
          have : sizeN ⟨ino, 2, links, text, l ++ [([122, 122], 3)]⟩ = ((l ++ [([122, 122], 3)] : List Ent).length : Int) := if_pos rfl
          rw [this, List.length_append]
          rfl
        have hlong := longer_ents ino 2 links text l ([122, 122], 3)
        have hns := not_same_ents ino 2 links text l ([122, 122], 3)
        have hsh2 : Short (l ++ [([122, 122], 3)]) := fun x hx => by
          rcases List.mem_append.1 hx with h | h
          · exact HSHORT.out x h
          · rw [List.mem_singleton.1 h]
            simp
        have hlen2 : (l ++ [([122, 122], 3)] : List Ent).length = l.length + 1 := by rw [List.length_append]; rfl
        have HLEN2 := Lib.hid hlen2
        have hadd : IntKind.i64.wrap ((l.length : Int) + 1) = (l.length : Int) + 1 := IntWalk.i64_in _ (by omega)
        have HADD := Lib.hid hadd
        have HP := Lib.hid (And.intro ho2 (And.intro hsize2 (And.intro hlong (And.intro hns hsh2))))
        clear hadd ho2 hsize2 hlong hns hsh2 hlen2 hsize
        go_enter Try.func9, Try.ntmps9
        go_wp2_with fail
        rw [← HW.out]
        refine (law_shown _).mono ?_
        rintro e w1 ⟨rfl, hb1⟩
        have HT1 := Lib.hid (HT0.out.below hb1)
        have HB1 := Lib.hid (below_trans HB0.out hb1 HB0.out.size)
        clear hb1
        have e0 : w1.cell? ⟨w.heap.size, 0, none⟩ = some (.int .i64 ino) := HT1.out.cell 0
        have e1 : w1.cell? ⟨w.heap.size, 1, none⟩ = some (.int .i64 2) := HT1.out.cell 1
        have e2 : w1.cell? ⟨w.heap.size, 2, none⟩ = some (.int .i64 links) := HT1.out.cell 2
        have e3 : w1.cell? ⟨w.heap.size, 3, none⟩ = some (.string ⟨text.toArray⟩) := HT1.out.cell 3
        have e4 : w1.cell? ⟨w.heap.size, 4, none⟩ = some (.slice A l.length c) := HT1.out.cell 4
        go_wp2_with fail
        refine (HRN.out _ HB1.out).mono ?_
        rintro e w2 ⟨rfl, hb2⟩
        have HT2 := Lib.hid (HT1.out.below hb2)
        have HB2 := Lib.hid (below_trans HB1.out hb2 HB1.out.size)
        clear hb2 e0 e1 e2 e3 e4
        have e0 : w2.cell? ⟨w.heap.size, 0, none⟩ = some (.int .i64 ino) := HT2.out.cell 0
        have e1 : w2.cell? ⟨w.heap.size, 1, none⟩ = some (.int .i64 2) := HT2.out.cell 1
        have e2 : w2.cell? ⟨w.heap.size, 2, none⟩ = some (.int .i64 links) := HT2.out.cell 2
        have e3 : w2.cell? ⟨w.heap.size, 3, none⟩ = some (.string ⟨text.toArray⟩) := HT2.out.cell 3
        have e4 : w2.cell? ⟨w.heap.size, 4, none⟩ = some (.slice A l.length c) := HT2.out.cell 4
        have hs2 := HT2.out.lt
        obtain ⟨Wa, hWa⟩ : ∃ W, W = (w2.alloc (.cells #[.int .i64 ino, .int .i64 2, .int .i64 links, .string ⟨text.toArray⟩, .slice A l.length c] 24)).alloc (.cells #[] 39) := ⟨_, rfl⟩
        have bx : Below w2.heap.size w2 (w2.alloc (.cells #[.int .i64 ino, .int .i64 2, .int .i64 links, .string ⟨text.toArray⟩, .slice A l.length c] 24)) := (Below.refl _ _).alloc (Nat.le_refl _) _
        have ba : Below w2.heap.size w2 Wa := by rw [hWa]; exact bx.alloc (by simp) _
        have hsa : Wa.heap.size = w2.heap.size + 2 := by rw [hWa]; simp
        have ta : TBox Wa w2.heap.size 24 #[.int .i64 ino, .int .i64 2, .int .i64 links, .string ⟨text.toArray⟩, .slice A l.length c] := by
          rw [hWa]
          exact (TBox.new _ _ _).below ((Below.refl _ _).alloc (Nat.le_refl _) _)
        have hown0 : Wa.ownsRow (w2.heap.size + 1) 39 2 (.slice (some ⟨w2.heap.size + 1, 0, none⟩) 0 0) 0 [] := by
          rw [hWa]
          refine ⟨by simp, .inr ⟨w2.heap.size + 1, 0, #[], rfl, Nat.le_refl _, ?_, Nat.le_refl _, by simp [maxLen], by simp, by simp⟩⟩
          have h := heap_alloc_new (w2.alloc (.cells #[.int .i64 ino, .int .i64 2, .int .i64 links, .string ⟨text.toArray⟩, .slice A l.length c] 24)) (.cells #[] 39)
          rw [show (w2.alloc (.cells #[.int .i64 ino, .int .i64 2, .int .i64 links, .string ⟨text.toArray⟩, .slice A l.length c] 24)).heap.size = w2.heap.size + 1 from by simp] at h
          exact h
        obtain ⟨v1, w4, hrun1, ho1, hg1, -⟩ := append_sl entElem7 Wa (w2.heap.size + 1) 22 _ 0 [] hown0 (.slice A l.length c) l.length (l.flatMap entC) (HL0.out.below (below_trans HB2.out ba HB2.out.size)) (entC_one l) (by unfold maxLen; omega) (by omega) (by omega)
        rw [Nat.zero_add, List.nil_append] at ho1
        have hs4 : Wa.heap.size ≤ w4.heap.size := hg1.size
        obtain ⟨v2, w5, hrun2, ho2', hk5, hs5, hb5⟩ := app_ent (w3 := w4) (base := w2.heap.size + 1) (k := l.length) (sv := v1) (acc := l) ([122, 122], 3) ho1 (by omega) (by omega)
        obtain ⟨A5, c5, rfl, -, -⟩ := (Sl.of_owns ho2').shape
        have hk4 : ∀ b, b ≤ w2.heap.size → w4.heap[b]? = Wa.heap[b]? := fun b hb => hg1.block b (by omega) (fun e => by simp [Value.ownBlock] at e; omega)
        have b4 : Below w2.heap.size w2 w4 := ba.grown hg1 (by omega) (fun g hg => by simp [Value.ownBlock] at hg; omega)
        have b5 : Below w2.heap.size w2 w5 := hb5 _ _ b4 (by omega)
        have t5 : TBox w5 w2.heap.size 24 #[.int .i64 ino, .int .i64 2, .int .i64 links, .string ⟨text.toArray⟩, .slice A l.length c] := by
          unfold TBox at ta ⊢
          rw [hk5 _ (by omega), hk4 _ (by omega)]
          exact ta
        have HT5 := Lib.hid (HT2.out.below b5)
        have p4 : w5.cell? ⟨w2.heap.size, 4, none⟩ = some (.slice A l.length c) := t5.cell 4
        have f4 : w5.frozen? ⟨w2.heap.size, 4, none⟩ = false := t5.free 4
        have hents : Sl w5 2 (.slice A5 (l.length + 1) c5) (l.length + 1) ((l ++ [([122, 122], 3)]).flatMap entC) := Sl.of_owns ho2'
        have HEN5 := Lib.hid (And.intro hents (At.of_owns ho2'))
        have HT5X := Lib.hid t5
        have HB5 := Lib.hid (below_trans HB2.out b5 HB2.out.size)
        rw [hWa] at hrun1
        clear hWa bx ba hsa ta hown0 ho1 hg1 hs4 ho2' hk5 hs5 hb5 hk4 b4 b5 t5 hents
        go_wp2_with (first | (at_builtin; refine wpList_append_run rfl _ _ _ rfl _ _ _ _ rfl rfl hrun1 ?_) | (at_builtin; refine wpList_append_run rfl _ _ _ rfl _ _ _ _ rfl rfl hrun2 ?_))
        obtain ⟨W3, hW3⟩ : ∃ W3, W3 = w5.setCell ⟨w2.heap.size, 4, none⟩ (.slice A5 (l.length + 1) c5) := ⟨_, rfl⟩
        rw [← hW3]
        have HX3 := Lib.hid (show TBox W3 w2.heap.size 24 #[.int .i64 ino, .int .i64 2, .int .i64 links, .string ⟨text.toArray⟩, .slice A5 (l.length + 1) c5] from by rw [hW3]; exact HT5X.out.set 4 _)
        have HT3 := Lib.hid (show TBox W3 w.heap.size 24 #[.int .i64 ino, .int .i64 2, .int .i64 links, .string ⟨text.toArray⟩, .slice A l.length c] from by rw [hW3]; exact HT5.out.far _ _ _ (by omega))
        have HE3 := Lib.hid (show Ents W3 (.slice A5 (l.length + 1) c5) (l ++ [([122, 122], 3)]) from by
          unfold Ents
          rw [HLEN2.out, hW3]
          exact Sl.frame HEN5.out.1 HEN5.out.2 (fun b hb _ => by rw [heap_setCell_far _ _ _ _ (by simp at hb ⊢; omega)]) (by simp))
        have HB3 := Lib.hid (show Below w.heap.size w W3 from by rw [hW3]; exact HB5.out.setCell (p := ⟨w2.heap.size, 4, none⟩) (by simp; omega) _)
        obtain ⟨ho2, hsize2, hlong, hns, hsh2⟩ := HP.out
        have HTX2 := Lib.hid (fun W (h : Ents W (.slice A5 (l.length + 1) c5) (l ++ [([122, 122], 3)])) => node_Text ⟨ino, 2, links, text, l ++ [([122, 122], 3)]⟩ (.agg #[.int .i64 ino, .int .i64 2, .int .i64 links, .string ⟨(text).toArray⟩, .slice A5 (l.length + 1) c5]) W ⟨A5, c5, by simp only [HLEN2.out], by simp only [HLEN2.out]; exact h⟩ ho2 hsh2 (by simp only; omega) (by simp only [List.length_append, List.length_cons, List.length_nil]; omega))
        have HSZ2 := Lib.hid (fun W (h : Ents W (.slice A5 (l.length + 1) c5) (l ++ [([122, 122], 3)])) => node_Size ⟨ino, 2, links, text, l ++ [([122, 122], 3)]⟩ (.agg #[.int .i64 ino, .int .i64 2, .int .i64 links, .string ⟨(text).toArray⟩, .slice A5 (l.length + 1) c5]) W ⟨A5, c5, by simp only [HLEN2.out], by simp only [HLEN2.out]; exact h⟩ ho2)
        rw [hsize2] at HSZ2
        have HSM2 := Lib.hid (fun W (h : Ents W (.slice A5 (l.length + 1) c5) (l ++ [([122, 122], 3)])) (h2 : Below w.heap.size w W) => node_Same ⟨ino, 2, links, text, l ++ [([122, 122], 3)]⟩ ⟨ino, 2, links, text, l⟩ (.agg #[.int .i64 ino, .int .i64 2, .int .i64 links, .string ⟨(text).toArray⟩, .slice A5 (l.length + 1) c5]) _ W ⟨A5, c5, by simp only [HLEN2.out], by simp only [HLEN2.out]; exact h⟩ (HNV.out W h2) ho2 HO.out)
        rw [hns] at HSM2
        obtain ⟨B1, hB1⟩ : ∃ B, B = nodeB ⟨ino, 2, links, text, l⟩ := ⟨_, rfl⟩
        obtain ⟨B2, hB2⟩ : ∃ B, B = nodeB ⟨ino, 2, links, text, l ++ [([122, 122], 3)]⟩ := ⟨_, rfl⟩
        rw [← hB1] at HTX hlong
        rw [← hB2] at HTX2 hlong
        clear hB1 hB2 hsize2 hns
        have HS8 := Lib.hid (show (fun W => W.cell? ⟨w.heap.size, 0, none⟩ = some (.int .i64 ino) ∧ W.cell? ⟨w.heap.size, 1, none⟩ = some (.int .i64 2) ∧ W.cell? ⟨w.heap.size, 2, none⟩ = some (.int .i64 links) ∧ W.cell? ⟨w.heap.size, 3, none⟩ = some (.string ⟨text.toArray⟩) ∧ W.cell? ⟨w.heap.size, 4, none⟩ = some (.slice A l.length c) ∧ W.cell? ⟨w2.heap.size, 0, none⟩ = some (.int .i64 ino) ∧ W.cell? ⟨w2.heap.size, 1, none⟩ = some (.int .i64 2) ∧ W.cell? ⟨w2.heap.size, 2, none⟩ = some (.int .i64 links) ∧ W.cell? ⟨w2.heap.size, 3, none⟩ = some (.string ⟨(text).toArray⟩) ∧ W.cell? ⟨w2.heap.size, 4, none⟩ = some (.slice A5 (l.length + 1) c5) ∧ Ents W (.slice A5 (l.length + 1) c5) (l ++ [([122, 122], 3)]) ∧ Below w.heap.size w W) W3 from ⟨HT3.out.cell 0, HT3.out.cell 1, HT3.out.cell 2, HT3.out.cell 3, HT3.out.cell 4, HX3.out.cell 0, HX3.out.cell 1, HX3.out.cell 2, HX3.out.cell 3, HX3.out.cell 4, HE3.out, HB3.out⟩)
        clear hW3 e0 e1 e2 e3 e4 p4 f4 hrun1 hrun2 ho2 hsh2
        have hadd := HADD.out
        have HSA : Hid (∀ (W : World) (ob : Obj), (fun W => W.cell? ⟨w.heap.size, 0, none⟩ = some (.int .i64 ino) ∧ W.cell? ⟨w.heap.size, 1, none⟩ = some (.int .i64 2) ∧ W.cell? ⟨w.heap.size, 2, none⟩ = some (.int .i64 links) ∧ W.cell? ⟨w.heap.size, 3, none⟩ = some (.string ⟨text.toArray⟩) ∧ W.cell? ⟨w.heap.size, 4, none⟩ = some (.slice A l.length c) ∧ W.cell? ⟨w2.heap.size, 0, none⟩ = some (.int .i64 ino) ∧ W.cell? ⟨w2.heap.size, 1, none⟩ = some (.int .i64 2) ∧ W.cell? ⟨w2.heap.size, 2, none⟩ = some (.int .i64 links) ∧ W.cell? ⟨w2.heap.size, 3, none⟩ = some (.string ⟨(text).toArray⟩) ∧ W.cell? ⟨w2.heap.size, 4, none⟩ = some (.slice A5 (l.length + 1) c5) ∧ Ents W (.slice A5 (l.length + 1) c5) (l ++ [([122, 122], 3)]) ∧ Below w.heap.size w W) W → (fun W => W.cell? ⟨w.heap.size, 0, none⟩ = some (.int .i64 ino) ∧ W.cell? ⟨w.heap.size, 1, none⟩ = some (.int .i64 2) ∧ W.cell? ⟨w.heap.size, 2, none⟩ = some (.int .i64 links) ∧ W.cell? ⟨w.heap.size, 3, none⟩ = some (.string ⟨text.toArray⟩) ∧ W.cell? ⟨w.heap.size, 4, none⟩ = some (.slice A l.length c) ∧ W.cell? ⟨w2.heap.size, 0, none⟩ = some (.int .i64 ino) ∧ W.cell? ⟨w2.heap.size, 1, none⟩ = some (.int .i64 2) ∧ W.cell? ⟨w2.heap.size, 2, none⟩ = some (.int .i64 links) ∧ W.cell? ⟨w2.heap.size, 3, none⟩ = some (.string ⟨(text).toArray⟩) ∧ W.cell? ⟨w2.heap.size, 4, none⟩ = some (.slice A5 (l.length + 1) c5) ∧ Ents W (.slice A5 (l.length + 1) c5) (l ++ [([122, 122], 3)]) ∧ Below w.heap.size w W) (W.alloc ob)) := Lib.hid (fun W ob h => ⟨cell_alloc _ h.1, cell_alloc _ h.2.1, cell_alloc _ h.2.2.1, cell_alloc _ h.2.2.2.1, cell_alloc _ h.2.2.2.2.1, cell_alloc _ h.2.2.2.2.2.1, cell_alloc _ h.2.2.2.2.2.2.1, cell_alloc _ h.2.2.2.2.2.2.2.1, cell_alloc _ h.2.2.2.2.2.2.2.2.1, cell_alloc _ h.2.2.2.2.2.2.2.2.2.1, Ents.below h.2.2.2.2.2.2.2.2.2.2.1 ((Below.refl _ _).alloc (Nat.le_refl _) _), Below.alloc h.2.2.2.2.2.2.2.2.2.2.2 (Below.size h.2.2.2.2.2.2.2.2.2.2.2) _⟩)
        have HSB : Hid (∀ (W W2 : World), (fun W => W.cell? ⟨w.heap.size, 0, none⟩ = some (.int .i64 ino) ∧ W.cell? ⟨w.heap.size, 1, none⟩ = some (.int .i64 2) ∧ W.cell? ⟨w.heap.size, 2, none⟩ = some (.int .i64 links) ∧ W.cell? ⟨w.heap.size, 3, none⟩ = some (.string ⟨text.toArray⟩) ∧ W.cell? ⟨w.heap.size, 4, none⟩ = some (.slice A l.length c) ∧ W.cell? ⟨w2.heap.size, 0, none⟩ = some (.int .i64 ino) ∧ W.cell? ⟨w2.heap.size, 1, none⟩ = some (.int .i64 2) ∧ W.cell? ⟨w2.heap.size, 2, none⟩ = some (.int .i64 links) ∧ W.cell? ⟨w2.heap.size, 3, none⟩ = some (.string ⟨(text).toArray⟩) ∧ W.cell? ⟨w2.heap.size, 4, none⟩ = some (.slice A5 (l.length + 1) c5) ∧ Ents W (.slice A5 (l.length + 1) c5) (l ++ [([122, 122], 3)]) ∧ Below w.heap.size w W) W → Below W.heap.size W W2 → (fun W => W.cell? ⟨w.heap.size, 0, none⟩ = some (.int .i64 ino) ∧ W.cell? ⟨w.heap.size, 1, none⟩ = some (.int .i64 2) ∧ W.cell? ⟨w.heap.size, 2, none⟩ = some (.int .i64 links) ∧ W.cell? ⟨w.heap.size, 3, none⟩ = some (.string ⟨text.toArray⟩) ∧ W.cell? ⟨w.heap.size, 4, none⟩ = some (.slice A l.length c) ∧ W.cell? ⟨w2.heap.size, 0, none⟩ = some (.int .i64 ino) ∧ W.cell? ⟨w2.heap.size, 1, none⟩ = some (.int .i64 2) ∧ W.cell? ⟨w2.heap.size, 2, none⟩ = some (.int .i64 links) ∧ W.cell? ⟨w2.heap.size, 3, none⟩ = some (.string ⟨(text).toArray⟩) ∧ W.cell? ⟨w2.heap.size, 4, none⟩ = some (.slice A5 (l.length + 1) c5) ∧ Ents W (.slice A5 (l.length + 1) c5) (l ++ [([122, 122], 3)]) ∧ Below w.heap.size w W) W2) := Lib.hid (fun W W2 h hb => ⟨cell_keep hb h.1, cell_keep hb h.2.1, cell_keep hb h.2.2.1, cell_keep hb h.2.2.2.1, cell_keep hb h.2.2.2.2.1, cell_keep hb h.2.2.2.2.2.1, cell_keep hb h.2.2.2.2.2.2.1, cell_keep hb h.2.2.2.2.2.2.2.1, cell_keep hb h.2.2.2.2.2.2.2.2.1, cell_keep hb h.2.2.2.2.2.2.2.2.2.1, Ents.below h.2.2.2.2.2.2.2.2.2.2.1 hb, below_trans h.2.2.2.2.2.2.2.2.2.2.2 hb (Below.size h.2.2.2.2.2.2.2.2.2.2.2)⟩)
        have HSD : Hid (∀ (W : World), (fun W => W.cell? ⟨w.heap.size, 0, none⟩ = some (.int .i64 ino) ∧ W.cell? ⟨w.heap.size, 1, none⟩ = some (.int .i64 2) ∧ W.cell? ⟨w.heap.size, 2, none⟩ = some (.int .i64 links) ∧ W.cell? ⟨w.heap.size, 3, none⟩ = some (.string ⟨text.toArray⟩) ∧ W.cell? ⟨w.heap.size, 4, none⟩ = some (.slice A l.length c) ∧ W.cell? ⟨w2.heap.size, 0, none⟩ = some (.int .i64 ino) ∧ W.cell? ⟨w2.heap.size, 1, none⟩ = some (.int .i64 2) ∧ W.cell? ⟨w2.heap.size, 2, none⟩ = some (.int .i64 links) ∧ W.cell? ⟨w2.heap.size, 3, none⟩ = some (.string ⟨(text).toArray⟩) ∧ W.cell? ⟨w2.heap.size, 4, none⟩ = some (.slice A5 (l.length + 1) c5) ∧ Ents W (.slice A5 (l.length + 1) c5) (l ++ [([122, 122], 3)]) ∧ Below w.heap.size w W) W → (fun W => W.cell? ⟨w.heap.size, 0, none⟩ = some (.int .i64 ino) ∧ W.cell? ⟨w.heap.size, 1, none⟩ = some (.int .i64 2) ∧ W.cell? ⟨w.heap.size, 2, none⟩ = some (.int .i64 links) ∧ W.cell? ⟨w.heap.size, 3, none⟩ = some (.string ⟨text.toArray⟩) ∧ W.cell? ⟨w.heap.size, 4, none⟩ = some (.slice A l.length c) ∧ W.cell? ⟨w2.heap.size, 0, none⟩ = some (.int .i64 ino) ∧ W.cell? ⟨w2.heap.size, 1, none⟩ = some (.int .i64 2) ∧ W.cell? ⟨w2.heap.size, 2, none⟩ = some (.int .i64 links) ∧ W.cell? ⟨w2.heap.size, 3, none⟩ = some (.string ⟨(text).toArray⟩) ∧ W.cell? ⟨w2.heap.size, 4, none⟩ = some (.slice A5 (l.length + 1) c5) ∧ Ents W (.slice A5 (l.length + 1) c5) (l ++ [([122, 122], 3)]) ∧ Below w.heap.size w W) W.drew) := Lib.hid (fun W h => ⟨h.1, h.2.1, h.2.2.1, h.2.2.2.1, h.2.2.2.2.1, h.2.2.2.2.2.1, h.2.2.2.2.2.2.1, h.2.2.2.2.2.2.2.1, h.2.2.2.2.2.2.2.2.1, h.2.2.2.2.2.2.2.2.2.1, Sl.same h.2.2.2.2.2.2.2.2.2.2.1 rfl, below_dn h.2.2.2.2.2.2.2.2.2.2.2 1⟩)
        refine wp_region_held_drew (S := fun W => W.cell? ⟨w.heap.size, 0, none⟩ = some (.int .i64 ino) ∧ W.cell? ⟨w.heap.size, 1, none⟩ = some (.int .i64 2) ∧ W.cell? ⟨w.heap.size, 2, none⟩ = some (.int .i64 links) ∧ W.cell? ⟨w.heap.size, 3, none⟩ = some (.string ⟨text.toArray⟩) ∧ W.cell? ⟨w.heap.size, 4, none⟩ = some (.slice A l.length c) ∧ W.cell? ⟨w2.heap.size, 0, none⟩ = some (.int .i64 ino) ∧ W.cell? ⟨w2.heap.size, 1, none⟩ = some (.int .i64 2) ∧ W.cell? ⟨w2.heap.size, 2, none⟩ = some (.int .i64 links) ∧ W.cell? ⟨w2.heap.size, 3, none⟩ = some (.string ⟨(text).toArray⟩) ∧ W.cell? ⟨w2.heap.size, 4, none⟩ = some (.slice A5 (l.length + 1) c5) ∧ Ents W (.slice A5 (l.length + 1) c5) (l ++ [([122, 122], 3)]) ∧ Below w.heap.size w W) (by kernel_rfl) (HSD.out _ HS8.out) (fun hHeld => ?_)
        refine wpAnyH_take (i := 0) (v := ?_) rfl (by kernel_rfl) (by kernel_rfl) (by kernel_rfl) (fun _ _ _ h => h) (Or.inl ⟨by rfl, ?_⟩) (by assumption) ?_
        rotate_left
        · intro w hSw
          try dsimp only at hSw
          go_simp
          try with_reducible rfl
        rotate_left
        try simp only [Act.put, List.setIfInBounds_toArray, List.set_cons_zero, List.set_cons_succ, List.getElem_toArray, List.getElem_cons_zero, List.getElem_cons_succ]
        refine wpAnyH_take (i := 1) (v := ?_) rfl (by kernel_rfl) (by kernel_rfl) (by kernel_rfl) (fun _ _ _ h => h) (Or.inl ⟨by rfl, ?_⟩) (by assumption) ?_
        rotate_left
        · intro w hSw
          try dsimp only at hSw
          go_simp
          try with_reducible rfl
        rotate_left
        try simp only [Act.put, List.setIfInBounds_toArray, List.set_cons_zero, List.set_cons_succ, List.getElem_toArray, List.getElem_cons_zero, List.getElem_cons_succ]
        refine wpAnyH_take (i := 2) (v := ?_) rfl (by kernel_rfl) (by kernel_rfl) (by kernel_rfl) (fun _ _ _ h => h) (Or.inl ⟨by rfl, ?_⟩) (by assumption) ?_
        rotate_left
        · intro w hSw
          try dsimp only at hSw
          go_simp
          try with_reducible rfl
        rotate_left
        try simp only [Act.put, List.setIfInBounds_toArray, List.set_cons_zero, List.set_cons_succ, List.getElem_toArray, List.getElem_cons_zero, List.getElem_cons_succ]
        refine wpAnyH_take (i := 4) (v := ?_) rfl (by kernel_rfl) (by kernel_rfl) (by kernel_rfl) (fun _ _ _ h => h) (Or.inl ⟨by rfl, ?_⟩) (by assumption) ?_
        rotate_left
        · intro w hSw
          try dsimp only at hSw
          go_simp
          try with_reducible rfl
        rotate_left
        try simp only [Act.put, List.setIfInBounds_toArray, List.set_cons_zero, List.set_cons_succ, List.getElem_toArray, List.getElem_cons_zero, List.getElem_cons_succ]
        refine wpAnyH_ready (rs := [3]) (by kernel_rfl) (by simp) ?_
        refine (AllReadyH.cons rfl (fun K hK => ?_) AllReadyH.nil)
        rw [if_pos (by rfl)]
        go_wp2_with fail
        refine (HSZ2.out _ (hHeld.2.2.2.2.2.2.2.2.2.2.1)).mono ?_
        rintro e w7 ⟨rfl, hb7⟩
        replace hHeld := HSB.out _ _ hHeld hb7
        clear hb7
        refine hK.out _ _ hHeld (fun _ => ?_)
        clear hK K
        try simp only [Act.put, List.setIfInBounds_toArray, List.set_cons_zero, List.set_cons_succ, List.getElem_toArray, List.getElem_cons_zero, List.getElem_cons_succ]
        refine wpAnyH_ready (rs := [5]) (by kernel_rfl) (by simp) ?_
        refine (AllReadyH.cons rfl (fun K hK => ?_) AllReadyH.nil)
        rw [if_pos (by rfl)]
        go_wp2_with fail
        refine (HSZ.out _ (hHeld.2.2.2.2.2.2.2.2.2.2.2)).mono ?_
        rintro e w7 ⟨rfl, hb7⟩
        replace hHeld := HSB.out _ _ hHeld hb7
        clear hb7
        refine hK.out _ _ hHeld (fun _ => ?_)
        clear hK K
        try simp only [Act.put, List.setIfInBounds_toArray, List.set_cons_zero, List.set_cons_succ, List.getElem_toArray, List.getElem_cons_zero, List.getElem_cons_succ]
        refine wpAnyH_take (i := 6) (v := ?_) rfl (by kernel_rfl) (by kernel_rfl) (by kernel_rfl) (fun _ _ _ h => h) (Or.inl ⟨by rfl, ?_⟩) (by assumption) ?_
        rotate_left
        · intro w hSw
          try dsimp only at hSw
          go_simp
          try with_reducible rfl
        rotate_left
        try simp only [Act.put, List.setIfInBounds_toArray, List.set_cons_zero, List.set_cons_succ, List.getElem_toArray, List.getElem_cons_zero, List.getElem_cons_succ]
        refine wpAnyH_take (i := 7) (v := ?_) rfl (by kernel_rfl) (by kernel_rfl) (by kernel_rfl) (fun _ _ _ h => h) (Or.inl ⟨by rfl, ?_⟩) (by assumption) ?_
        rotate_left
        · intro w hSw
          try dsimp only at hSw
          go_simp
          try with_reducible rfl
        rotate_left
        try simp only [Act.put, List.setIfInBounds_toArray, List.set_cons_zero, List.set_cons_succ, List.getElem_toArray, List.getElem_cons_zero, List.getElem_cons_succ]
        refine wpAnyH_take (i := 8) (v := ?_) rfl (by kernel_rfl) (by kernel_rfl) (by kernel_rfl) (fun _ _ _ h => h) (Or.inl ⟨by rfl, ?_⟩) (by assumption) ?_
        rotate_left
        · intro w hSw
          try dsimp only at hSw
          go_simp
          try with_reducible rfl
        rotate_left
        try simp only [Act.put, List.setIfInBounds_toArray, List.set_cons_zero, List.set_cons_succ, List.getElem_toArray, List.getElem_cons_zero, List.getElem_cons_succ]
        refine wpAnyH_take (i := 9) (v := ?_) rfl (by kernel_rfl) (by kernel_rfl) (by kernel_rfl) (fun _ _ _ h => h) (Or.inl ⟨by rfl, ?_⟩) (by assumption) ?_
        rotate_left
        · intro w hSw
          try dsimp only at hSw
          go_simp
          try with_reducible rfl
        rotate_left
        try simp only [Act.put, List.setIfInBounds_toArray, List.set_cons_zero, List.set_cons_succ, List.getElem_toArray, List.getElem_cons_zero, List.getElem_cons_succ]
        refine wpAnyH_take (i := 10) (v := ?_) rfl (by kernel_rfl) (by kernel_rfl) (by kernel_rfl) (fun _ _ _ h => h) (Or.inl ⟨by rfl, ?_⟩) (by assumption) ?_
        rotate_left
        · intro w hSw
          try dsimp only at hSw
          go_simp
          try with_reducible rfl
        rotate_left
        try simp only [Act.put, List.setIfInBounds_toArray, List.set_cons_zero, List.set_cons_succ, List.getElem_toArray, List.getElem_cons_zero, List.getElem_cons_succ]
        refine wpAnyH_take (i := 13) (v := ?_) rfl (by kernel_rfl) (by kernel_rfl) (by kernel_rfl) (fun _ _ _ h => h) (Or.inl ⟨by rfl, ?_⟩) (by assumption) ?_
        rotate_left
        · intro w hSw
          try dsimp only at hSw
          go_simp
          try with_reducible rfl
        rotate_left
        try simp only [Act.put, List.setIfInBounds_toArray, List.set_cons_zero, List.set_cons_succ, List.getElem_toArray, List.getElem_cons_zero, List.getElem_cons_succ]
        refine wpAnyH_ready (rs := [11]) (by kernel_rfl) (by simp) ?_
        refine (AllReadyH.cons rfl (fun K hK => ?_) AllReadyH.nil)
        rw [if_pos (by rfl)]
        go_wp2_with fail
        refine (HTX2.out _ (hHeld.2.2.2.2.2.2.2.2.2.2.1)).mono ?_
        rintro e w7 ⟨rfl, hb7⟩
        replace hHeld := HSB.out _ _ hHeld hb7
        clear hb7
        refine hK.out _ _ hHeld (fun _ => ?_)
        clear hK K
        try simp only [Act.put, List.setIfInBounds_toArray, List.set_cons_zero, List.set_cons_succ, List.getElem_toArray, List.getElem_cons_zero, List.getElem_cons_succ]
        refine wpAnyH_take (i := 12) (v := ?_) rfl (by kernel_rfl) (by kernel_rfl) (by kernel_rfl) (fun _ _ _ h => h) (Or.inl ⟨by rfl, ?_⟩) (by assumption) ?_
        rotate_left
        · intro w hSw
          try dsimp only at hSw
          go_simp
          try with_reducible rfl
        rotate_left
        try simp only [Act.put, List.setIfInBounds_toArray, List.set_cons_zero, List.set_cons_succ, List.getElem_toArray, List.getElem_cons_zero, List.getElem_cons_succ]
        refine wpAnyH_ready (rs := [14]) (by kernel_rfl) (by simp) ?_
        refine (AllReadyH.cons rfl (fun K hK => ?_) AllReadyH.nil)
        rw [if_pos (by rfl)]
        go_wp2_with fail
        refine (HTX.out _ (hHeld.2.2.2.2.2.2.2.2.2.2.2)).mono ?_
        rintro e w7 ⟨rfl, hb7⟩
        replace hHeld := HSB.out _ _ hHeld hb7
        clear hb7
        refine hK.out _ _ hHeld (fun _ => ?_)
        clear hK K
        try simp only [Act.put, List.setIfInBounds_toArray, List.set_cons_zero, List.set_cons_succ, List.getElem_toArray, List.getElem_cons_zero, List.getElem_cons_succ]
        refine wpAnyH_take (i := 15) (v := ?_) rfl (by kernel_rfl) (by kernel_rfl) (by kernel_rfl) (fun _ _ _ h => h) (Or.inl ⟨by rfl, ?_⟩) (by assumption) ?_
        rotate_left
        · intro w hSw
          try dsimp only at hSw
          go_simp
          try with_reducible rfl
        rotate_left
        try simp only [Act.put, List.setIfInBounds_toArray, List.set_cons_zero, List.set_cons_succ, List.getElem_toArray, List.getElem_cons_zero, List.getElem_cons_succ]
        refine wpAnyH_take (i := 16) (v := ?_) rfl (by kernel_rfl) (by kernel_rfl) (by kernel_rfl) (fun _ _ _ h => h) (Or.inl ⟨by rfl, ?_⟩) (by assumption) ?_
        rotate_left
        · intro w hSw
          try dsimp only at hSw
          go_simp
          try with_reducible rfl
        rotate_left
        try simp only [Act.put, List.setIfInBounds_toArray, List.set_cons_zero, List.set_cons_succ, List.getElem_toArray, List.getElem_cons_zero, List.getElem_cons_succ]
        refine wpAnyH_take (i := 17) (v := ?_) rfl (by kernel_rfl) (by kernel_rfl) (by kernel_rfl) (fun _ _ _ h => h) (Or.inl ⟨by rfl, ?_⟩) (by assumption) ?_
        rotate_left
        · intro w hSw
          try dsimp only at hSw
          go_simp
          try with_reducible rfl
        rotate_left
        try simp only [Act.put, List.setIfInBounds_toArray, List.set_cons_zero, List.set_cons_succ, List.getElem_toArray, List.getElem_cons_zero, List.getElem_cons_succ]
        refine wpAnyH_take (i := 18) (v := ?_) rfl (by kernel_rfl) (by kernel_rfl) (by kernel_rfl) (fun _ _ _ h => h) (Or.inl ⟨by rfl, ?_⟩) (by assumption) ?_
        rotate_left
        · intro w hSw
          try dsimp only at hSw
          go_simp
          try with_reducible rfl
        rotate_left
        try simp only [Act.put, List.setIfInBounds_toArray, List.set_cons_zero, List.set_cons_succ, List.getElem_toArray, List.getElem_cons_zero, List.getElem_cons_succ]
        refine wpAnyH_take (i := 19) (v := ?_) rfl (by kernel_rfl) (by kernel_rfl) (by kernel_rfl) (fun _ _ _ h => h) (Or.inl ⟨by rfl, ?_⟩) (by assumption) ?_
        rotate_left
        · intro w hSw
          try dsimp only at hSw
          go_simp
          try with_reducible rfl
        rotate_left
        try simp only [Act.put, List.setIfInBounds_toArray, List.set_cons_zero, List.set_cons_succ, List.getElem_toArray, List.getElem_cons_zero, List.getElem_cons_succ]
        refine wpAnyH_take (i := 20) (v := ?_) rfl (by kernel_rfl) (by kernel_rfl) (by kernel_rfl) (fun _ _ _ h => h) (Or.inl ⟨by rfl, ?_⟩) (by assumption) ?_
        rotate_left
        · intro w hSw
          try dsimp only at hSw
          go_simp
          try with_reducible rfl
        rotate_left
        try simp only [Act.put, List.setIfInBounds_toArray, List.set_cons_zero, List.set_cons_succ, List.getElem_toArray, List.getElem_cons_zero, List.getElem_cons_succ]
        refine wpAnyH_ready (rs := [21]) (by kernel_rfl) (by simp) ?_
        refine (AllReadyH.cons rfl (fun K hK => ?_) AllReadyH.nil)
        rw [if_pos (by rfl)]
        go_wp2_with fail
        refine (HSM2.out _ (hHeld.2.2.2.2.2.2.2.2.2.2.1) (hHeld.2.2.2.2.2.2.2.2.2.2.2)).mono ?_
        rintro e w7 ⟨rfl, hb7⟩
        replace hHeld := HSB.out _ _ hHeld hb7
        clear hb7
        refine hK.out _ _ hHeld (fun _ => ?_)
        clear hK K
        try simp only [Act.put, List.setIfInBounds_toArray, List.set_cons_zero, List.set_cons_succ, List.getElem_toArray, List.getElem_cons_zero, List.getElem_cons_succ]
        refine wpAnyH_take (i := 22) (v := ?_) rfl (by kernel_rfl) (by kernel_rfl) (by kernel_rfl) (fun _ _ _ h => h) (Or.inl ⟨by rfl, ?_⟩) (by assumption) ?_
        rotate_left
        · intro w hSw
          try dsimp only at hSw
          go_simp
          try with_reducible rfl
        rotate_left
        try simp only [Act.put, List.setIfInBounds_toArray, List.set_cons_zero, List.set_cons_succ, List.getElem_toArray, List.getElem_cons_zero, List.getElem_cons_succ]
        refine wpAnyH_take (i := 23) (v := ?_) rfl (by kernel_rfl) (by kernel_rfl) (by kernel_rfl) (fun _ _ _ h => h) (Or.inl ⟨by rfl, ?_⟩) (by assumption) ?_
        rotate_left
        · intro w hSw
          try dsimp only at hSw
          go_simp
          try with_reducible rfl
        rotate_left
        try simp only [Act.put, List.setIfInBounds_toArray, List.set_cons_zero, List.set_cons_succ, List.getElem_toArray, List.getElem_cons_zero, List.getElem_cons_succ]
        refine wpAnyH_take (i := 24) (v := ?_) rfl (by kernel_rfl) (by kernel_rfl) (by kernel_rfl) (fun _ _ _ h => h) (Or.inl ⟨by rfl, ?_⟩) (by assumption) ?_
        rotate_left
        · intro w hSw
          try dsimp only at hSw
          go_simp
          try with_reducible rfl
        rotate_left
        try simp only [Act.put, List.setIfInBounds_toArray, List.set_cons_zero, List.set_cons_succ, List.getElem_toArray, List.getElem_cons_zero, List.getElem_cons_succ]
        refine wpAnyH_done (by kernel_rfl) ?_ _
        go_wp2_with fail
        go_ret
        exact ⟨by first | rfl | exact ret_bool (by simp), (hHeld.2.2.2.2.2.2.2.2.2.2.2)⟩
      · have hsize : sizeN ⟨ino, kind, links, text, l⟩ = (text.length : Int) := if_neg hk
        rw [hsize] at HSZ
        have hkd : (kind == 2) = false := by simpa using hk
        have ho2 : OkN ⟨ino, kind, links, text ++ [(120 : UInt8)], l⟩ := ⟨o1, o2, o3, by simp only [List.length_append, List.length_cons, List.length_nil]; omega, hok, hn⟩
        have hsize2 : sizeN ⟨ino, kind, links, text ++ [(120 : UInt8)], l⟩ = ((text.length + 1 : Nat) : Int) := by
          have : sizeN ⟨ino, kind, links, text ++ [(120 : UInt8)], l⟩ = ((text ++ [(120 : UInt8)]).length : Int) := if_neg hk
          rw [this, List.length_append]
          rfl
        have hlong := longer_text ino kind links text 120 l
        have hns := not_same_text ino kind links text 120 l
        have hsh2 := HSHORT.out
        have HTX2 := Lib.hid (fun W (h : Ents W (.slice A l.length c) (l)) => node_Text ⟨ino, kind, links, text ++ [(120 : UInt8)], l⟩ (.agg #[.int .i64 ino, .int .i64 kind, .int .i64 links, .string ⟨(text ++ [(120 : UInt8)]).toArray⟩, .slice A l.length c]) W ⟨A, c, rfl, h⟩ ho2 hsh2 (by simp only [List.length_append, List.length_cons, List.length_nil]; omega) (by simp only [List.length_append, List.length_cons, List.length_nil]; omega))
        have HSZ2 := Lib.hid (fun W (h : Ents W (.slice A l.length c) (l)) => node_Size ⟨ino, kind, links, text ++ [(120 : UInt8)], l⟩ (.agg #[.int .i64 ino, .int .i64 kind, .int .i64 links, .string ⟨(text ++ [(120 : UInt8)]).toArray⟩, .slice A l.length c]) W ⟨A, c, rfl, h⟩ ho2)
        rw [hsize2] at HSZ2
        have HSM2 := Lib.hid (fun W (h : Ents W (.slice A l.length c) (l)) (h2 : Below w.heap.size w W) => node_Same ⟨ino, kind, links, text ++ [(120 : UInt8)], l⟩ ⟨ino, kind, links, text, l⟩ (.agg #[.int .i64 ino, .int .i64 kind, .int .i64 links, .string ⟨(text ++ [(120 : UInt8)]).toArray⟩, .slice A l.length c]) _ W ⟨A, c, rfl, h⟩ (HNV.out W h2) ho2 HO.out)
        rw [hns] at HSM2
        obtain ⟨B1, hB1⟩ : ∃ B, B = nodeB ⟨ino, kind, links, text, l⟩ := ⟨_, rfl⟩
        obtain ⟨B2, hB2⟩ : ∃ B, B = nodeB ⟨ino, kind, links, text ++ [(120 : UInt8)], l⟩ := ⟨_, rfl⟩
        rw [← hB1] at HTX hlong
        rw [← hB2] at HTX2 hlong
        clear hB1 hB2 hsize2 hns
        have hadd : IntKind.i64.wrap ((text.length : Int) + 1) = (text.length : Int) + 1 := IntWalk.i64_in _ (by omega)
        have HADD := Lib.hid hadd
        clear hadd ho2 hk hsize
        go_enter Try.func9, Try.ntmps9
        go_wp2_with fail
        rw [← HW.out]
        refine (law_shown _).mono ?_
        rintro e w1 ⟨rfl, hb1⟩
        have HT1 := Lib.hid (HT0.out.below hb1)
        have HB1 := Lib.hid (below_trans HB0.out hb1 HB0.out.size)
        clear hb1
        have e0 : w1.cell? ⟨w.heap.size, 0, none⟩ = some (.int .i64 ino) := HT1.out.cell 0
        have e1 : w1.cell? ⟨w.heap.size, 1, none⟩ = some (.int .i64 kind) := HT1.out.cell 1
        have e2 : w1.cell? ⟨w.heap.size, 2, none⟩ = some (.int .i64 links) := HT1.out.cell 2
        have e3 : w1.cell? ⟨w.heap.size, 3, none⟩ = some (.string ⟨text.toArray⟩) := HT1.out.cell 3
        have e4 : w1.cell? ⟨w.heap.size, 4, none⟩ = some (.slice A l.length c) := HT1.out.cell 4
        go_wp2_with fail
        refine (HRN.out _ HB1.out).mono ?_
        rintro e w2 ⟨rfl, hb2⟩
        have HT2 := Lib.hid (HT1.out.below hb2)
        have HB2 := Lib.hid (below_trans HB1.out hb2 HB1.out.size)
        clear hb2 e0 e1 e2 e3 e4
        have e0 : w2.cell? ⟨w.heap.size, 0, none⟩ = some (.int .i64 ino) := HT2.out.cell 0
        have e1 : w2.cell? ⟨w.heap.size, 1, none⟩ = some (.int .i64 kind) := HT2.out.cell 1
        have e2 : w2.cell? ⟨w.heap.size, 2, none⟩ = some (.int .i64 links) := HT2.out.cell 2
        have e3 : w2.cell? ⟨w.heap.size, 3, none⟩ = some (.string ⟨text.toArray⟩) := HT2.out.cell 3
        have e4 : w2.cell? ⟨w.heap.size, 4, none⟩ = some (.slice A l.length c) := HT2.out.cell 4
        have hs2 := HT2.out.lt
        go_wp2_with fail
        obtain ⟨W3, hW3⟩ : ∃ W3, W3 = w2.alloc (.cells #[.int .i64 ino, .int .i64 kind, .int .i64 links, .string ⟨(text ++ [(120 : UInt8)]).toArray⟩, .slice A l.length c] 24) := ⟨_, rfl⟩
        rw [← hW3]
        have b23 : Below w2.heap.size w2 W3 := by rw [hW3]; exact (Below.refl _ _).alloc (Nat.le_refl _) _
        have HT3 := Lib.hid (HT2.out.below b23)
        have HX3 := Lib.hid (show TBox W3 w2.heap.size 24 #[.int .i64 ino, .int .i64 kind, .int .i64 links, .string ⟨(text ++ [(120 : UInt8)]).toArray⟩, .slice A l.length c] from by rw [hW3]; exact TBox.new _ _ _)
        have HS8 := Lib.hid (show (fun W => W.cell? ⟨w.heap.size, 0, none⟩ = some (.int .i64 ino) ∧ W.cell? ⟨w.heap.size, 1, none⟩ = some (.int .i64 kind) ∧ W.cell? ⟨w.heap.size, 2, none⟩ = some (.int .i64 links) ∧ W.cell? ⟨w.heap.size, 3, none⟩ = some (.string ⟨text.toArray⟩) ∧ W.cell? ⟨w.heap.size, 4, none⟩ = some (.slice A l.length c) ∧ W.cell? ⟨w2.heap.size, 0, none⟩ = some (.int .i64 ino) ∧ W.cell? ⟨w2.heap.size, 1, none⟩ = some (.int .i64 kind) ∧ W.cell? ⟨w2.heap.size, 2, none⟩ = some (.int .i64 links) ∧ W.cell? ⟨w2.heap.size, 3, none⟩ = some (.string ⟨(text ++ [(120 : UInt8)]).toArray⟩) ∧ W.cell? ⟨w2.heap.size, 4, none⟩ = some (.slice A l.length c) ∧ Ents W (.slice A l.length c) (l) ∧ Below w.heap.size w W) W3 from ⟨HT3.out.cell 0, HT3.out.cell 1, HT3.out.cell 2, HT3.out.cell 3, HT3.out.cell 4, HX3.out.cell 0, HX3.out.cell 1, HX3.out.cell 2, HX3.out.cell 3, HX3.out.cell 4, HL0.out.below (below_trans HB2.out b23 HB2.out.size), below_trans HB2.out b23 HB2.out.size⟩)
        clear hW3 b23 e0 e1 e2 e3 e4
        have hadd := HADD.out
        have HSA : Hid (∀ (W : World) (ob : Obj), (fun W => W.cell? ⟨w.heap.size, 0, none⟩ = some (.int .i64 ino) ∧ W.cell? ⟨w.heap.size, 1, none⟩ = some (.int .i64 kind) ∧ W.cell? ⟨w.heap.size, 2, none⟩ = some (.int .i64 links) ∧ W.cell? ⟨w.heap.size, 3, none⟩ = some (.string ⟨text.toArray⟩) ∧ W.cell? ⟨w.heap.size, 4, none⟩ = some (.slice A l.length c) ∧ W.cell? ⟨w2.heap.size, 0, none⟩ = some (.int .i64 ino) ∧ W.cell? ⟨w2.heap.size, 1, none⟩ = some (.int .i64 kind) ∧ W.cell? ⟨w2.heap.size, 2, none⟩ = some (.int .i64 links) ∧ W.cell? ⟨w2.heap.size, 3, none⟩ = some (.string ⟨(text ++ [(120 : UInt8)]).toArray⟩) ∧ W.cell? ⟨w2.heap.size, 4, none⟩ = some (.slice A l.length c) ∧ Ents W (.slice A l.length c) (l) ∧ Below w.heap.size w W) W → (fun W => W.cell? ⟨w.heap.size, 0, none⟩ = some (.int .i64 ino) ∧ W.cell? ⟨w.heap.size, 1, none⟩ = some (.int .i64 kind) ∧ W.cell? ⟨w.heap.size, 2, none⟩ = some (.int .i64 links) ∧ W.cell? ⟨w.heap.size, 3, none⟩ = some (.string ⟨text.toArray⟩) ∧ W.cell? ⟨w.heap.size, 4, none⟩ = some (.slice A l.length c) ∧ W.cell? ⟨w2.heap.size, 0, none⟩ = some (.int .i64 ino) ∧ W.cell? ⟨w2.heap.size, 1, none⟩ = some (.int .i64 kind) ∧ W.cell? ⟨w2.heap.size, 2, none⟩ = some (.int .i64 links) ∧ W.cell? ⟨w2.heap.size, 3, none⟩ = some (.string ⟨(text ++ [(120 : UInt8)]).toArray⟩) ∧ W.cell? ⟨w2.heap.size, 4, none⟩ = some (.slice A l.length c) ∧ Ents W (.slice A l.length c) (l) ∧ Below w.heap.size w W) (W.alloc ob)) := Lib.hid (fun W ob h => ⟨cell_alloc _ h.1, cell_alloc _ h.2.1, cell_alloc _ h.2.2.1, cell_alloc _ h.2.2.2.1, cell_alloc _ h.2.2.2.2.1, cell_alloc _ h.2.2.2.2.2.1, cell_alloc _ h.2.2.2.2.2.2.1, cell_alloc _ h.2.2.2.2.2.2.2.1, cell_alloc _ h.2.2.2.2.2.2.2.2.1, cell_alloc _ h.2.2.2.2.2.2.2.2.2.1, Ents.below h.2.2.2.2.2.2.2.2.2.2.1 ((Below.refl _ _).alloc (Nat.le_refl _) _), Below.alloc h.2.2.2.2.2.2.2.2.2.2.2 (Below.size h.2.2.2.2.2.2.2.2.2.2.2) _⟩)
        have HSB : Hid (∀ (W W2 : World), (fun W => W.cell? ⟨w.heap.size, 0, none⟩ = some (.int .i64 ino) ∧ W.cell? ⟨w.heap.size, 1, none⟩ = some (.int .i64 kind) ∧ W.cell? ⟨w.heap.size, 2, none⟩ = some (.int .i64 links) ∧ W.cell? ⟨w.heap.size, 3, none⟩ = some (.string ⟨text.toArray⟩) ∧ W.cell? ⟨w.heap.size, 4, none⟩ = some (.slice A l.length c) ∧ W.cell? ⟨w2.heap.size, 0, none⟩ = some (.int .i64 ino) ∧ W.cell? ⟨w2.heap.size, 1, none⟩ = some (.int .i64 kind) ∧ W.cell? ⟨w2.heap.size, 2, none⟩ = some (.int .i64 links) ∧ W.cell? ⟨w2.heap.size, 3, none⟩ = some (.string ⟨(text ++ [(120 : UInt8)]).toArray⟩) ∧ W.cell? ⟨w2.heap.size, 4, none⟩ = some (.slice A l.length c) ∧ Ents W (.slice A l.length c) (l) ∧ Below w.heap.size w W) W → Below W.heap.size W W2 → (fun W => W.cell? ⟨w.heap.size, 0, none⟩ = some (.int .i64 ino) ∧ W.cell? ⟨w.heap.size, 1, none⟩ = some (.int .i64 kind) ∧ W.cell? ⟨w.heap.size, 2, none⟩ = some (.int .i64 links) ∧ W.cell? ⟨w.heap.size, 3, none⟩ = some (.string ⟨text.toArray⟩) ∧ W.cell? ⟨w.heap.size, 4, none⟩ = some (.slice A l.length c) ∧ W.cell? ⟨w2.heap.size, 0, none⟩ = some (.int .i64 ino) ∧ W.cell? ⟨w2.heap.size, 1, none⟩ = some (.int .i64 kind) ∧ W.cell? ⟨w2.heap.size, 2, none⟩ = some (.int .i64 links) ∧ W.cell? ⟨w2.heap.size, 3, none⟩ = some (.string ⟨(text ++ [(120 : UInt8)]).toArray⟩) ∧ W.cell? ⟨w2.heap.size, 4, none⟩ = some (.slice A l.length c) ∧ Ents W (.slice A l.length c) (l) ∧ Below w.heap.size w W) W2) := Lib.hid (fun W W2 h hb => ⟨cell_keep hb h.1, cell_keep hb h.2.1, cell_keep hb h.2.2.1, cell_keep hb h.2.2.2.1, cell_keep hb h.2.2.2.2.1, cell_keep hb h.2.2.2.2.2.1, cell_keep hb h.2.2.2.2.2.2.1, cell_keep hb h.2.2.2.2.2.2.2.1, cell_keep hb h.2.2.2.2.2.2.2.2.1, cell_keep hb h.2.2.2.2.2.2.2.2.2.1, Ents.below h.2.2.2.2.2.2.2.2.2.2.1 hb, below_trans h.2.2.2.2.2.2.2.2.2.2.2 hb (Below.size h.2.2.2.2.2.2.2.2.2.2.2)⟩)
        have HSD : Hid (∀ (W : World), (fun W => W.cell? ⟨w.heap.size, 0, none⟩ = some (.int .i64 ino) ∧ W.cell? ⟨w.heap.size, 1, none⟩ = some (.int .i64 kind) ∧ W.cell? ⟨w.heap.size, 2, none⟩ = some (.int .i64 links) ∧ W.cell? ⟨w.heap.size, 3, none⟩ = some (.string ⟨text.toArray⟩) ∧ W.cell? ⟨w.heap.size, 4, none⟩ = some (.slice A l.length c) ∧ W.cell? ⟨w2.heap.size, 0, none⟩ = some (.int .i64 ino) ∧ W.cell? ⟨w2.heap.size, 1, none⟩ = some (.int .i64 kind) ∧ W.cell? ⟨w2.heap.size, 2, none⟩ = some (.int .i64 links) ∧ W.cell? ⟨w2.heap.size, 3, none⟩ = some (.string ⟨(text ++ [(120 : UInt8)]).toArray⟩) ∧ W.cell? ⟨w2.heap.size, 4, none⟩ = some (.slice A l.length c) ∧ Ents W (.slice A l.length c) (l) ∧ Below w.heap.size w W) W → (fun W => W.cell? ⟨w.heap.size, 0, none⟩ = some (.int .i64 ino) ∧ W.cell? ⟨w.heap.size, 1, none⟩ = some (.int .i64 kind) ∧ W.cell? ⟨w.heap.size, 2, none⟩ = some (.int .i64 links) ∧ W.cell? ⟨w.heap.size, 3, none⟩ = some (.string ⟨text.toArray⟩) ∧ W.cell? ⟨w.heap.size, 4, none⟩ = some (.slice A l.length c) ∧ W.cell? ⟨w2.heap.size, 0, none⟩ = some (.int .i64 ino) ∧ W.cell? ⟨w2.heap.size, 1, none⟩ = some (.int .i64 kind) ∧ W.cell? ⟨w2.heap.size, 2, none⟩ = some (.int .i64 links) ∧ W.cell? ⟨w2.heap.size, 3, none⟩ = some (.string ⟨(text ++ [(120 : UInt8)]).toArray⟩) ∧ W.cell? ⟨w2.heap.size, 4, none⟩ = some (.slice A l.length c) ∧ Ents W (.slice A l.length c) (l) ∧ Below w.heap.size w W) W.drew) := Lib.hid (fun W h => ⟨h.1, h.2.1, h.2.2.1, h.2.2.2.1, h.2.2.2.2.1, h.2.2.2.2.2.1, h.2.2.2.2.2.2.1, h.2.2.2.2.2.2.2.1, h.2.2.2.2.2.2.2.2.1, h.2.2.2.2.2.2.2.2.2.1, Sl.same h.2.2.2.2.2.2.2.2.2.2.1 rfl, below_dn h.2.2.2.2.2.2.2.2.2.2.2 1⟩)
        refine wp_region_held_drew (S := fun W => W.cell? ⟨w.heap.size, 0, none⟩ = some (.int .i64 ino) ∧ W.cell? ⟨w.heap.size, 1, none⟩ = some (.int .i64 kind) ∧ W.cell? ⟨w.heap.size, 2, none⟩ = some (.int .i64 links) ∧ W.cell? ⟨w.heap.size, 3, none⟩ = some (.string ⟨text.toArray⟩) ∧ W.cell? ⟨w.heap.size, 4, none⟩ = some (.slice A l.length c) ∧ W.cell? ⟨w2.heap.size, 0, none⟩ = some (.int .i64 ino) ∧ W.cell? ⟨w2.heap.size, 1, none⟩ = some (.int .i64 kind) ∧ W.cell? ⟨w2.heap.size, 2, none⟩ = some (.int .i64 links) ∧ W.cell? ⟨w2.heap.size, 3, none⟩ = some (.string ⟨(text ++ [(120 : UInt8)]).toArray⟩) ∧ W.cell? ⟨w2.heap.size, 4, none⟩ = some (.slice A l.length c) ∧ Ents W (.slice A l.length c) (l) ∧ Below w.heap.size w W) (by kernel_rfl) (HSD.out _ HS8.out) (fun hHeld => ?_)
        refine wpAnyH_take (i := 0) (v := ?_) rfl (by kernel_rfl) (by kernel_rfl) (by kernel_rfl) (fun _ _ _ h => h) (Or.inl ⟨by rfl, ?_⟩) (by assumption) ?_
        rotate_left
        · intro w hSw
          try dsimp only at hSw
          go_simp
          try with_reducible rfl
        rotate_left
        try simp only [Act.put, List.setIfInBounds_toArray, List.set_cons_zero, List.set_cons_succ, List.getElem_toArray, List.getElem_cons_zero, List.getElem_cons_succ]
        refine wpAnyH_take (i := 1) (v := ?_) rfl (by kernel_rfl) (by kernel_rfl) (by kernel_rfl) (fun _ _ _ h => h) (Or.inl ⟨by rfl, ?_⟩) (by assumption) ?_
        rotate_left
        · intro w hSw
          try dsimp only at hSw
          go_simp
          try with_reducible rfl
        rotate_left
        try simp only [Act.put, List.setIfInBounds_toArray, List.set_cons_zero, List.set_cons_succ, List.getElem_toArray, List.getElem_cons_zero, List.getElem_cons_succ]
        refine wpAnyH_take (i := 2) (v := ?_) rfl (by kernel_rfl) (by kernel_rfl) (by kernel_rfl) (fun _ _ _ h => h) (Or.inl ⟨by rfl, ?_⟩) (by assumption) ?_
        rotate_left
        · intro w hSw
          try dsimp only at hSw
          go_simp
          try with_reducible rfl
        rotate_left
        try simp only [Act.put, List.setIfInBounds_toArray, List.set_cons_zero, List.set_cons_succ, List.getElem_toArray, List.getElem_cons_zero, List.getElem_cons_succ]
        refine wpAnyH_take (i := 4) (v := ?_) rfl (by kernel_rfl) (by kernel_rfl) (by kernel_rfl) (fun _ _ _ h => h) (Or.inl ⟨by rfl, ?_⟩) (by assumption) ?_
        rotate_left
        · intro w hSw
          try dsimp only at hSw
          go_simp
          try with_reducible rfl
        rotate_left
        try simp only [Act.put, List.setIfInBounds_toArray, List.set_cons_zero, List.set_cons_succ, List.getElem_toArray, List.getElem_cons_zero, List.getElem_cons_succ]
        refine wpAnyH_ready (rs := [3]) (by kernel_rfl) (by simp) ?_
        refine (AllReadyH.cons rfl (fun K hK => ?_) AllReadyH.nil)
        rw [if_pos (by rfl)]
        go_wp2_with fail
        refine (HSZ2.out _ (hHeld.2.2.2.2.2.2.2.2.2.2.1)).mono ?_
        rintro e w7 ⟨rfl, hb7⟩
        replace hHeld := HSB.out _ _ hHeld hb7
        clear hb7
        refine hK.out _ _ hHeld (fun _ => ?_)
        clear hK K
        try simp only [Act.put, List.setIfInBounds_toArray, List.set_cons_zero, List.set_cons_succ, List.getElem_toArray, List.getElem_cons_zero, List.getElem_cons_succ]
        refine wpAnyH_ready (rs := [5]) (by kernel_rfl) (by simp) ?_
        refine (AllReadyH.cons rfl (fun K hK => ?_) AllReadyH.nil)
        rw [if_pos (by rfl)]
        go_wp2_with fail
        refine (HSZ.out _ (hHeld.2.2.2.2.2.2.2.2.2.2.2)).mono ?_
        rintro e w7 ⟨rfl, hb7⟩
        replace hHeld := HSB.out _ _ hHeld hb7
        clear hb7
        refine hK.out _ _ hHeld (fun _ => ?_)
        clear hK K
        try simp only [Act.put, List.setIfInBounds_toArray, List.set_cons_zero, List.set_cons_succ, List.getElem_toArray, List.getElem_cons_zero, List.getElem_cons_succ]
        refine wpAnyH_take (i := 6) (v := ?_) rfl (by kernel_rfl) (by kernel_rfl) (by kernel_rfl) (fun _ _ _ h => h) (Or.inl ⟨by rfl, ?_⟩) (by assumption) ?_
        rotate_left
        · intro w hSw
          try dsimp only at hSw
          go_simp
          try with_reducible rfl
        rotate_left
        try simp only [Act.put, List.setIfInBounds_toArray, List.set_cons_zero, List.set_cons_succ, List.getElem_toArray, List.getElem_cons_zero, List.getElem_cons_succ]
        refine wpAnyH_take (i := 7) (v := ?_) rfl (by kernel_rfl) (by kernel_rfl) (by kernel_rfl) (fun _ _ _ h => h) (Or.inl ⟨by rfl, ?_⟩) (by assumption) ?_
        rotate_left
        · intro w hSw
          try dsimp only at hSw
          go_simp
          try with_reducible rfl
        rotate_left
        try simp only [Act.put, List.setIfInBounds_toArray, List.set_cons_zero, List.set_cons_succ, List.getElem_toArray, List.getElem_cons_zero, List.getElem_cons_succ]
        refine wpAnyH_take (i := 8) (v := ?_) rfl (by kernel_rfl) (by kernel_rfl) (by kernel_rfl) (fun _ _ _ h => h) (Or.inl ⟨by rfl, ?_⟩) (by assumption) ?_
        rotate_left
        · intro w hSw
          try dsimp only at hSw
          go_simp
          try with_reducible rfl
        rotate_left
        try simp only [Act.put, List.setIfInBounds_toArray, List.set_cons_zero, List.set_cons_succ, List.getElem_toArray, List.getElem_cons_zero, List.getElem_cons_succ]
        refine wpAnyH_take (i := 9) (v := ?_) rfl (by kernel_rfl) (by kernel_rfl) (by kernel_rfl) (fun _ _ _ h => h) (Or.inl ⟨by rfl, ?_⟩) (by assumption) ?_
        rotate_left
        · intro w hSw
          try dsimp only at hSw
          go_simp
          try with_reducible rfl
        rotate_left
        try simp only [Act.put, List.setIfInBounds_toArray, List.set_cons_zero, List.set_cons_succ, List.getElem_toArray, List.getElem_cons_zero, List.getElem_cons_succ]
        refine wpAnyH_take (i := 10) (v := ?_) rfl (by kernel_rfl) (by kernel_rfl) (by kernel_rfl) (fun _ _ _ h => h) (Or.inl ⟨by rfl, ?_⟩) (by assumption) ?_
        rotate_left
        · intro w hSw
          try dsimp only at hSw
          go_simp
          try with_reducible rfl
        rotate_left
        try simp only [Act.put, List.setIfInBounds_toArray, List.set_cons_zero, List.set_cons_succ, List.getElem_toArray, List.getElem_cons_zero, List.getElem_cons_succ]
        refine wpAnyH_take (i := 13) (v := ?_) rfl (by kernel_rfl) (by kernel_rfl) (by kernel_rfl) (fun _ _ _ h => h) (Or.inl ⟨by rfl, ?_⟩) (by assumption) ?_
        rotate_left
        · intro w hSw
          try dsimp only at hSw
          go_simp
          try with_reducible rfl
        rotate_left
        try simp only [Act.put, List.setIfInBounds_toArray, List.set_cons_zero, List.set_cons_succ, List.getElem_toArray, List.getElem_cons_zero, List.getElem_cons_succ]
        refine wpAnyH_ready (rs := [11]) (by kernel_rfl) (by simp) ?_
        refine (AllReadyH.cons rfl (fun K hK => ?_) AllReadyH.nil)
        rw [if_pos (by rfl)]
        go_wp2_with fail
        refine (HTX2.out _ (hHeld.2.2.2.2.2.2.2.2.2.2.1)).mono ?_
        rintro e w7 ⟨rfl, hb7⟩
        replace hHeld := HSB.out _ _ hHeld hb7
        clear hb7
        refine hK.out _ _ hHeld (fun _ => ?_)
        clear hK K
        try simp only [Act.put, List.setIfInBounds_toArray, List.set_cons_zero, List.set_cons_succ, List.getElem_toArray, List.getElem_cons_zero, List.getElem_cons_succ]
        refine wpAnyH_take (i := 12) (v := ?_) rfl (by kernel_rfl) (by kernel_rfl) (by kernel_rfl) (fun _ _ _ h => h) (Or.inl ⟨by rfl, ?_⟩) (by assumption) ?_
        rotate_left
        · intro w hSw
          try dsimp only at hSw
          go_simp
          try with_reducible rfl
        rotate_left
        try simp only [Act.put, List.setIfInBounds_toArray, List.set_cons_zero, List.set_cons_succ, List.getElem_toArray, List.getElem_cons_zero, List.getElem_cons_succ]
        refine wpAnyH_ready (rs := [14]) (by kernel_rfl) (by simp) ?_
        refine (AllReadyH.cons rfl (fun K hK => ?_) AllReadyH.nil)
        rw [if_pos (by rfl)]
        go_wp2_with fail
        refine (HTX.out _ (hHeld.2.2.2.2.2.2.2.2.2.2.2)).mono ?_
        rintro e w7 ⟨rfl, hb7⟩
        replace hHeld := HSB.out _ _ hHeld hb7
        clear hb7
        refine hK.out _ _ hHeld (fun _ => ?_)
        clear hK K
        try simp only [Act.put, List.setIfInBounds_toArray, List.set_cons_zero, List.set_cons_succ, List.getElem_toArray, List.getElem_cons_zero, List.getElem_cons_succ]
        refine wpAnyH_take (i := 15) (v := ?_) rfl (by kernel_rfl) (by kernel_rfl) (by kernel_rfl) (fun _ _ _ h => h) (Or.inl ⟨by rfl, ?_⟩) (by assumption) ?_
        rotate_left
        · intro w hSw
          try dsimp only at hSw
          go_simp
          try with_reducible rfl
        rotate_left
        try simp only [Act.put, List.setIfInBounds_toArray, List.set_cons_zero, List.set_cons_succ, List.getElem_toArray, List.getElem_cons_zero, List.getElem_cons_succ]
        refine wpAnyH_take (i := 16) (v := ?_) rfl (by kernel_rfl) (by kernel_rfl) (by kernel_rfl) (fun _ _ _ h => h) (Or.inl ⟨by rfl, ?_⟩) (by assumption) ?_
        rotate_left
        · intro w hSw
          try dsimp only at hSw
          go_simp
          try with_reducible rfl
        rotate_left
        try simp only [Act.put, List.setIfInBounds_toArray, List.set_cons_zero, List.set_cons_succ, List.getElem_toArray, List.getElem_cons_zero, List.getElem_cons_succ]
        refine wpAnyH_take (i := 17) (v := ?_) rfl (by kernel_rfl) (by kernel_rfl) (by kernel_rfl) (fun _ _ _ h => h) (Or.inl ⟨by rfl, ?_⟩) (by assumption) ?_
        rotate_left
        · intro w hSw
          try dsimp only at hSw
          go_simp
          try with_reducible rfl
        rotate_left
        try simp only [Act.put, List.setIfInBounds_toArray, List.set_cons_zero, List.set_cons_succ, List.getElem_toArray, List.getElem_cons_zero, List.getElem_cons_succ]
        refine wpAnyH_take (i := 18) (v := ?_) rfl (by kernel_rfl) (by kernel_rfl) (by kernel_rfl) (fun _ _ _ h => h) (Or.inl ⟨by rfl, ?_⟩) (by assumption) ?_
        rotate_left
        · intro w hSw
          try dsimp only at hSw
          go_simp
          try with_reducible rfl
        rotate_left
        try simp only [Act.put, List.setIfInBounds_toArray, List.set_cons_zero, List.set_cons_succ, List.getElem_toArray, List.getElem_cons_zero, List.getElem_cons_succ]
        refine wpAnyH_take (i := 19) (v := ?_) rfl (by kernel_rfl) (by kernel_rfl) (by kernel_rfl) (fun _ _ _ h => h) (Or.inl ⟨by rfl, ?_⟩) (by assumption) ?_
        rotate_left
        · intro w hSw
          try dsimp only at hSw
          go_simp
          try with_reducible rfl
        rotate_left
        try simp only [Act.put, List.setIfInBounds_toArray, List.set_cons_zero, List.set_cons_succ, List.getElem_toArray, List.getElem_cons_zero, List.getElem_cons_succ]
        refine wpAnyH_take (i := 20) (v := ?_) rfl (by kernel_rfl) (by kernel_rfl) (by kernel_rfl) (fun _ _ _ h => h) (Or.inl ⟨by rfl, ?_⟩) (by assumption) ?_
        rotate_left
        · intro w hSw
          try dsimp only at hSw
          go_simp
          try with_reducible rfl
        rotate_left
        try simp only [Act.put, List.setIfInBounds_toArray, List.set_cons_zero, List.set_cons_succ, List.getElem_toArray, List.getElem_cons_zero, List.getElem_cons_succ]
        refine wpAnyH_ready (rs := [21]) (by kernel_rfl) (by simp) ?_
        refine (AllReadyH.cons rfl (fun K hK => ?_) AllReadyH.nil)
        rw [if_pos (by rfl)]
        go_wp2_with fail
        refine (HSM2.out _ (hHeld.2.2.2.2.2.2.2.2.2.2.1) (hHeld.2.2.2.2.2.2.2.2.2.2.2)).mono ?_
        rintro e w7 ⟨rfl, hb7⟩
        replace hHeld := HSB.out _ _ hHeld hb7
        clear hb7
        refine hK.out _ _ hHeld (fun _ => ?_)
        clear hK K
        try simp only [Act.put, List.setIfInBounds_toArray, List.set_cons_zero, List.set_cons_succ, List.getElem_toArray, List.getElem_cons_zero, List.getElem_cons_succ]
        refine wpAnyH_take (i := 22) (v := ?_) rfl (by kernel_rfl) (by kernel_rfl) (by kernel_rfl) (fun _ _ _ h => h) (Or.inl ⟨by rfl, ?_⟩) (by assumption) ?_
        rotate_left
        · intro w hSw
          try dsimp only at hSw
          go_simp
          try with_reducible rfl
        rotate_left
        try simp only [Act.put, List.setIfInBounds_toArray, List.set_cons_zero, List.set_cons_succ, List.getElem_toArray, List.getElem_cons_zero, List.getElem_cons_succ]
        refine wpAnyH_take (i := 23) (v := ?_) rfl (by kernel_rfl) (by kernel_rfl) (by kernel_rfl) (fun _ _ _ h => h) (Or.inl ⟨by rfl, ?_⟩) (by assumption) ?_
        rotate_left
        · intro w hSw
          try dsimp only at hSw
          go_simp
          try with_reducible rfl
        rotate_left
        try simp only [Act.put, List.setIfInBounds_toArray, List.set_cons_zero, List.set_cons_succ, List.getElem_toArray, List.getElem_cons_zero, List.getElem_cons_succ]
        refine wpAnyH_take (i := 24) (v := ?_) rfl (by kernel_rfl) (by kernel_rfl) (by kernel_rfl) (fun _ _ _ h => h) (Or.inl ⟨by rfl, ?_⟩) (by assumption) ?_
        rotate_left
        · intro w hSw
          try dsimp only at hSw
          go_simp
          try with_reducible rfl
        rotate_left
        try simp only [Act.put, List.setIfInBounds_toArray, List.set_cons_zero, List.set_cons_succ, List.getElem_toArray, List.getElem_cons_zero, List.getElem_cons_succ]
        refine wpAnyH_done (by kernel_rfl) ?_ _
        go_wp2_with fail
        go_ret
        exact ⟨by first | rfl | exact ret_bool (by simp), (hHeld.2.2.2.2.2.2.2.2.2.2.2)⟩
    · have hr' : rightN ⟨ino, kind, links, text, l⟩ = false := by simpa using hr
      rw [hr'] at HRN
      clear hr hr'
      go_enter Try.func9, Try.ntmps9
      go_wp2_with fail
      rw [← HW.out]
      refine (law_shown _).mono ?_
      rintro e w1 ⟨rfl, hb1⟩
      have HT1 := Lib.hid (HT0.out.below hb1)
      have HB1 := Lib.hid (below_trans HB0.out hb1 HB0.out.size)
      clear hb1
      have e0 : w1.cell? ⟨w.heap.size, 0, none⟩ = some (.int .i64 ino) := HT1.out.cell 0
      have e1 : w1.cell? ⟨w.heap.size, 1, none⟩ = some (.int .i64 kind) := HT1.out.cell 1
      have e2 : w1.cell? ⟨w.heap.size, 2, none⟩ = some (.int .i64 links) := HT1.out.cell 2
      have e3 : w1.cell? ⟨w.heap.size, 3, none⟩ = some (.string ⟨text.toArray⟩) := HT1.out.cell 3
      have e4 : w1.cell? ⟨w.heap.size, 4, none⟩ = some (.slice A l.length c) := HT1.out.cell 4
      go_wp2_with fail
      refine (HRN.out _ HB1.out).mono ?_
      rintro e w2 ⟨rfl, hb2⟩
      have HT2 := Lib.hid (HT1.out.below hb2)
      have HB2 := Lib.hid (below_trans HB1.out hb2 HB1.out.size)
      clear hb2 e0 e1 e2 e3 e4
      have e0 : w2.cell? ⟨w.heap.size, 0, none⟩ = some (.int .i64 ino) := HT2.out.cell 0
      have e1 : w2.cell? ⟨w.heap.size, 1, none⟩ = some (.int .i64 kind) := HT2.out.cell 1
      have e2 : w2.cell? ⟨w.heap.size, 2, none⟩ = some (.int .i64 links) := HT2.out.cell 2
      have e3 : w2.cell? ⟨w.heap.size, 3, none⟩ = some (.string ⟨text.toArray⟩) := HT2.out.cell 3
      have e4 : w2.cell? ⟨w.heap.size, 4, none⟩ = some (.slice A l.length c) := HT2.out.cell 4
      have hs2 := HT2.out.lt
      go_wp2_with fail
      go_ret
      exact ⟨rfl, HB2.out⟩
  · rcases (show 200 < l.length ∨ l.length ≤ 200 ∧ 4000 < text.length from by omega) with h | ⟨h, h'⟩
    · have d1 : decide ((200 : Int) < (l.length : Int)) = true := by rw [decide_eq_true_iff]; omega
      clear hsm
      go_enter Try.func9, Try.ntmps9
      go_wp2_with fail
      rw [← HW.out]
      refine (law_shown _).mono ?_
      rintro e w1 ⟨rfl, hb1⟩
      have HT1 := Lib.hid (HT0.out.below hb1)
      have HB1 := Lib.hid (below_trans HB0.out hb1 HB0.out.size)
      clear hb1
      have e0 : w1.cell? ⟨w.heap.size, 0, none⟩ = some (.int .i64 ino) := HT1.out.cell 0
      have e1 : w1.cell? ⟨w.heap.size, 1, none⟩ = some (.int .i64 kind) := HT1.out.cell 1
      have e2 : w1.cell? ⟨w.heap.size, 2, none⟩ = some (.int .i64 links) := HT1.out.cell 2
      have e3 : w1.cell? ⟨w.heap.size, 3, none⟩ = some (.string ⟨text.toArray⟩) := HT1.out.cell 3
      have e4 : w1.cell? ⟨w.heap.size, 4, none⟩ = some (.slice A l.length c) := HT1.out.cell 4
      go_wp2_with fail
      go_ret
      exact ⟨rfl, HB1.out⟩
    · have d1 : decide ((200 : Int) < (l.length : Int)) = false := by rw [decide_eq_false_iff_not]; omega
      have d2 : decide ((4000 : Int) < (text.length : Int)) = true := by rw [decide_eq_true_iff]; omega
      clear hsm
      go_enter Try.func9, Try.ntmps9
      go_wp2_with fail
      rw [← HW.out]
      refine (law_shown _).mono ?_
      rintro e w1 ⟨rfl, hb1⟩
      have HT1 := Lib.hid (HT0.out.below hb1)
      have HB1 := Lib.hid (below_trans HB0.out hb1 HB0.out.size)
      clear hb1
      have e0 : w1.cell? ⟨w.heap.size, 0, none⟩ = some (.int .i64 ino) := HT1.out.cell 0
      have e1 : w1.cell? ⟨w.heap.size, 1, none⟩ = some (.int .i64 kind) := HT1.out.cell 1
      have e2 : w1.cell? ⟨w.heap.size, 2, none⟩ = some (.int .i64 links) := HT1.out.cell 2
      have e3 : w1.cell? ⟨w.heap.size, 3, none⟩ = some (.string ⟨text.toArray⟩) := HT1.out.cell 3
      have e4 : w1.cell? ⟨w.heap.size, 4, none⟩ = some (.slice A l.length c) := HT1.out.cell 4
      go_wp2_with fail
      go_ret
      exact ⟨rfl, HB1.out⟩
theorem own : ownKnob Try.prog.godebug = none := by kernel_rfl
theorem laidOut : laidOutB Try.prog = true := by kernel_rfl
theorem cellscopyhold_api_Node : Try.prog.cellsOf 24 = 5 := by kernel_rfl
theorem cellsint : Try.prog.cellsOf 3 = 1 := by kernel_rfl
theorem cellsstring : Try.prog.cellsOf 9 = 1 := by kernel_rfl
theorem cells__api_Entry : Try.prog.cellsOf 22 = 1 := by kernel_rfl

set_option maxRecDepth 100000 in
set_option maxHeartbeats 1000000 in
theorem lifted (os : Os) (started : os.Started) (H : Type) (enc : TypeId × Value → H) :
    ReturnsInHanded {} Try.checked os 9 .any (Rows.nodeSizesSpec.pre6 enc Try.prog Try.f9 Rows.nodeSizesRow.domain false) (Rows.nodeSizesSpec.post enc Try.prog Try.f9 false true false false) := by
  refine returnsInHanded_of_change_sized (C := Try.checked) own started (by kernel_rfl) Try.func9
    (ChangeSpec.witness6 (enc := enc) (C := Try.checked) false ⟨#[], #[.agg #[.int .i64 0, .int .i64 0, .int .i64 0, .string ByteArray.empty, .slice none 0 0]], []⟩ 8 (by kernel_rfl) (by kernel_rfl) (by kernel_rfl) (by kernel_rfl)) ?_
  intro W base args ds gs before hval0 hW hcnd hsz0 _
  have hsz : (DataW.weightsEach Try.prog (Try.f9.params.toList ++ []) (ds ++ gs)).all (· ≤ reachBytes) = true := hsz0
  clear hsz0
  have hval : ∀ (j : Nat) t v, Try.f9.params[j]? = some t → args[j]? = some v → Value.okWide Try.prog W .any base t v := hval0
  have hW' := hW
  have hlt := hW.lt
  obtain ⟨p, q, hA0, hV, rfl, hfz, hnd⟩ := hW
  have hA : DataW.TrodAll enc Try.prog W 0 (fun _ => true) true Try.f9.params.toList args.toList ds p := hA0
  rw [Try.params9] at hA hval
  obtain ⟨v0, vs0, d0, ds0, p0, q0, hargs, rfl, rfl, h0, r0⟩ := trodAll_cons hA
  obtain ⟨rfl, rfl, rfl⟩ := trodAll_nil r0
  obtain rfl : args = #[v0] := by cases args; simp_all
  obtain ⟨rfl, rfl⟩ := trodVars_none hV
  obtain ⟨cs0, rfl, hcz0⟩ := okWide_struct Try.underlying24 (hval 0 24 v0 rfl rfl)
  rw [cellscopyhold_api_Node] at hcz0
  obtain ⟨c0_0, c0_1, c0_2, c0_3, c0_4, rfl⟩ := array5_of hcz0
  obtain ⟨fuel0, hf0⟩ := h0
  obtain ⟨xs0, m0, _, hx0, _, hlen0, hfl0⟩ := DataW.trod_struct Try.underlying24 hf0
  obtain ⟨y0_0, y0_1, y0_2, y0_3, y0_4, rfl⟩ := list5 hlen0
  have g0_0 : DataW.trod enc Try.prog W 0 (fun _ => true) true m0 3 [c0_0] = some y0_0 := by have h := hfl0 0 _ rfl; simpa [Value.cells, cellsint] using h
  have g0_1 : DataW.trod enc Try.prog W 0 (fun _ => true) true m0 3 [c0_1] = some y0_1 := by have h := hfl0 1 _ rfl; simpa [Value.cells, cellsint] using h
  have g0_2 : DataW.trod enc Try.prog W 0 (fun _ => true) true m0 3 [c0_2] = some y0_2 := by have h := hfl0 2 _ rfl; simpa [Value.cells, cellsint] using h
  have g0_3 : DataW.trod enc Try.prog W 0 (fun _ => true) true m0 9 [c0_3] = some y0_3 := by have h := hfl0 3 _ rfl; simpa [Value.cells, cellsstring] using h
  have g0_4 : DataW.trod enc Try.prog W 0 (fun _ => true) true m0 22 [c0_4] = some y0_4 := by have h := hfl0 4 _ rfl; simpa [Value.cells, cells__api_Entry] using h
  simp only [Prod.mk.injEq] at hx0
  obtain ⟨rfl, hp0⟩ := hx0
  subst hp0
  obtain ⟨a0_0, ev0_0, ey0_0, w0_0⟩ := DataW.trod_int Try.underlying3 g0_0
  obtain rfl : c0_0 = _ := by simpa using ev0_0
  subst ey0_0
  obtain ⟨a0_1, ev0_1, ey0_1, w0_1⟩ := DataW.trod_int Try.underlying3 g0_1
  obtain rfl : c0_1 = _ := by simpa using ev0_1
  subst ey0_1
  obtain ⟨a0_2, ev0_2, ey0_2, w0_2⟩ := DataW.trod_int Try.underlying3 g0_2
  obtain rfl : c0_2 = _ := by simpa using ev0_2
  subst ey0_2
  obtain ⟨s0_3, ev0_3, ey0_3, w0_3⟩ := DataW.trod_string Try.underlying9 g0_3
  obtain rfl : c0_3 = _ := by simpa using ev0_3
  subst ey0_3
  have z0_3 : s0_3.data.toList.length ≤ 140737488351232 := sized_deep hsz (by rw [Try.params9]; simp [DataW.weightsEach, DataW.weights, Try.underlying24])
  obtain ⟨a0_3, rfl⟩ : ∃ l : List UInt8, s0_3 = ⟨l.toArray⟩ := ⟨s0_3.data.toList, rfl⟩
  have hw0_4 : ∀ n ∈ DataW.weights Try.prog 22 y0_4.1, n ≤ 140737488351232 := fun n hn => sized_deep hsz (by rw [Try.params9]; simp [DataW.weightsEach, DataW.weights, Try.underlying24, hn])
  obtain ⟨u0_4, a0_4, ev0_4, f0_4_0, f0_4_1, f0_4_2⟩ := open_ents g0_4 (fun x hx => hlt x (by simp [hx])) hw0_4
  obtain rfl : c0_4 = _ := by simpa using ev0_4
  refine (walk W a0_0 w0_0 a0_1 w0_1 a0_2 w0_2 a0_3 z0_3 c0_4 a0_4 f0_4_0 f0_4_1 f0_4_2).mono fun e W' ⟨he, hg⟩ => ?_
  subst he
  exact ⟨_, rfl, Copyhold.law_post laidOut (by kernel_rfl) (by kernel_rfl) Try.underlying4 rfl rfl rfl rfl hW' hg⟩

theorem over : Rows.nodeSizesRow.holds Try.pinned (OpenSpec.ofChange Rows.nodeSizesSpec) :=
  OpenClaim.holds_of_wide 9 Try.f9 rfl rfl rfl rfl rfl rfl rfl ⟨rfl, rfl, rfl, rfl, rfl⟩ rfl rfl rfl rfl rfl (by kernel_rfl) Try.func9 (by kernel_rfl)
    (of_decide_eq_true (by kernel_rfl)) (by unfold Func.isWrapper; first | (rw [if_pos (by decide +kernel)]; kernel_rfl) | (rw [if_neg (by decide +kernel)]; exact ⟨rfl, rfl⟩))
    (fun os started H enc _ => lifted os started H enc)

theorem proved : Rows.NodeSizesSaid :=
  over
end Go.Proofs.Ytoinafcjkbdjnaa.nodeSizes
