/- node.Text: it answers as the document says; old memory is as it was. -/
import Derived.Test.YtoinafcjkbdjnaaNodeMem
import Derived.Test.YtoinafcjkbdjnaaOctText
set_option linter.unusedVariables false
namespace Go.Proofs.Ytoinafcjkbdjnaa
open Go.RowKit Copyhold Copyhold.Name

def wholeB (z : Int) : List UInt8 := numB (foldN z).toNat
theorem wholeB_len (z : Int) (h1 : -9223372036854775808 ≤ z) (h2 : z ≤ 9223372036854775807) : (wholeB z).length ≤ 10 := numB_len10 _ (by unfold foldN; split <;> omega)
def headP (n : Nd) : List (List UInt8) := [wholeB n.ino, wholeB n.kind, wholeB n.links, textB n.text, numB n.l.length]
def entsP (l : List Ent) : List (List UInt8) := l.flatMap fun x => [textB x.1, wholeB x.2]
def nodeP (n : Nd) : List (List UInt8) := headP n ++ entsP n.l
/-- a node's text -/
def nodeB (n : Nd) : List UInt8 := (nodeP n).flatten

theorem entsP_len (l : List Ent) : (entsP l).length = 2 * l.length := by
  induction l with
  | nil => rfl
  | cons x l ih => rw [entsP, List.flatMap_cons, List.length_append, ← entsP, ih]; simp; omega
theorem entsP_take (l : List Ent) (k : Nat) (h : k < l.length) : entsP (l.take (k + 1)) = entsP (l.take k) ++ [textB l[k].1, wholeB l[k].2] := by
  rw [entsP, List.take_succ_eq_append_getElem h, List.flatMap_append]
  rfl
/-- how long names may be here -/
def Short (l : List Ent) : Prop := ∀ x ∈ l, x.1.length ≤ 1048576
theorem entsP_size (l : List Ent) (hs : Short l) (ho : OkEnts l) : (entsP l).flatten.length ≤ 1048596 * l.length := by
  induction l with
  | nil => simp [entsP]
  | cons x l ih =>
    have h1 := hs x List.mem_cons_self
    have h2 := ho x List.mem_cons_self
    have h3 := ih (fun y hy => hs y (List.mem_cons_of_mem _ hy)) (fun y hy => ho y (List.mem_cons_of_mem _ hy))
    have h4 := textB_len x.1 (by omega)
    have h5 := wholeB_len x.2 h2.2.1 h2.2.2
    rw [entsP, List.flatMap_cons, List.flatten_append, List.length_append, ← entsP]
    simp only [List.flatten_cons, List.flatten_nil, List.append_nil, List.length_append, List.length_cons]
    omega
theorem nodeB_size (n : Nd) (ho : OkN n) (hs : Short n.l) (ht : n.text.length ≤ 1048576) (hl : n.l.length ≤ 1048576) : (nodeB n).length ≤ 2000000000000 := by
  obtain ⟨⟨o1, o2⟩, ⟨o3, o4⟩, ⟨o5, o6⟩, o7, o8, o9⟩ := ho
  have h1 := wholeB_len _ o1 o2
  have h2 := wholeB_len _ o3 o4
  have h3 := wholeB_len _ o5 o6
  have h4 := textB_len n.text (by omega)
  have h5 := numB_len10 n.l.length (by omega)
  have h6 := entsP_size n.l hs o8
  unfold nodeB nodeP headP
  rw [List.flatten_append, List.length_append]
  simp only [List.flatten_cons, List.flatten_nil, List.append_nil, List.length_append]
  omega

/-- the cells of a node in its box, and what lies below -/
def BoxS (w : World) (B : Nat) (ino kind links : Int) (text : List UInt8) (lv : Value) (W : World) : Prop :=
  W.cell? ⟨B, 0, none⟩ = some (.int .i64 ino) ∧ W.cell? ⟨B, 1, none⟩ = some (.int .i64 kind) ∧ W.cell? ⟨B, 2, none⟩ = some (.int .i64 links) ∧ W.cell? ⟨B, 3, none⟩ = some (.string ⟨text.toArray⟩) ∧ W.cell? ⟨B, 4, none⟩ = some lv ∧ Below w.heap.size w W

theorem join_row (v : Value) (xs : List (List UInt8)) (w : World) (hr : Row w v (xs.map strV)) (h0 : 0 < xs.length) (hn : xs.length ≤ 100000000) (hlen : xs.flatten.length ≤ 140737488355328) :
    Calls Try.prog 34 #[v, .string ⟨#[]⟩] w fun e w' => e = .returned (.string ⟨xs.flatten.toArray⟩) ∧ Below w.heap.size w w' := by
  obtain ⟨A, c, rfl⟩ := hr.shape
  rw [List.length_map] at hr ⊢
  obtain ⟨bk, o, rfl, hbk, hcap, hcl⟩ := hr.at 0 (x := strV xs[0]) (by rw [List.getElem?_map, List.getElem?_eq_getElem h0]; rfl)
  have hj := Try.strings_Join bk o c (xs.map fun l => ⟨l.toArray⟩) ⟨#[]⟩ w (fun j x hx => by
      rw [List.getElem?_map] at hx
      cases hg : xs[j]? with
      | none => rw [hg] at hx; cases hx
      | some y => rw [hg] at hx; cases hx; exact hcl j (strV y) (by rw [List.getElem?_map, hg]; rfl)) hbk (by rw [List.length_map]; omega) (by simpa using hcap)
  have e : Lib.join ((xs.map fun l => (⟨l.toArray⟩ : ByteArray)).map (·.data.toList)) (⟨#[]⟩ : ByteArray).data.toList = xs.flatten := by
    rw [List.map_map]
    show List.intercalate [] _ = _
    rw [intercalate_nil]
    congr 1
    exact List.map_id xs
  rw [e, List.length_map] at hj
  exact hj hlen

theorem slL (w : World) (cs : Array Value) (t : TypeId) : Sl (w.alloc (.cells cs t)) 1 (.slice (some ⟨w.heap.size, 0, none⟩) cs.size cs.size) cs.size cs.toList :=
  ⟨_, cs.size, rfl, Nat.le_refl _, by simp, fun _ => ⟨w.heap.size, 0, rfl, by simp, fun j y hj => by
    rw [Nat.zero_add, cell_new]
    simpa using hj⟩⟩
/-- two texts appended to a row of the call's own -/
theorem app2 (b a : List UInt8) {w : World} (w7 : World) {bx base : Nat} {v : Value} {n : Nat} (xs : List Value) {ss : Nat} (hne : ∀ g, v.ownBlock = some g → g ≠ bx) (hss : ss = bx + 1) (ho : w7.ownsRow base 9 1 v n xs) (hb : Below base w w7) (hn : n + 2 ≤ 100000000) (hbw : base ≤ w.heap.size) (hbx : ss ≤ w7.heap.size) :
    ∃ v' w', (Builtin.append_ #[59, 59] 59 #[v, .slice (some ⟨w7.heap.size, 0, none⟩) 2 2]).run Try.prog (w7.alloc (.cells #[.string ⟨a.toArray⟩, .string ⟨b.toArray⟩] 9)) = .ok v' w' ∧ w'.ownsRow base 9 1 v' (n + 2) (xs ++ [strV a, strV b]) ∧
      Below base w w' ∧ ∀ o u, (w7.alloc (.cells #[.string ⟨a.toArray⟩, .string ⟨b.toArray⟩] 9)).cell? ⟨bx, o, none⟩ = some u → w'.cell? ⟨bx, o, none⟩ = some u := by
  obtain ⟨v', w', hrun, h1, h2, _⟩ := append_sl textElem (w7.alloc (.cells #[.string ⟨a.toArray⟩, .string ⟨b.toArray⟩] 9)) base 59 v n xs (ho.alloc _) _ 2 [.string ⟨a.toArray⟩, .string ⟨b.toArray⟩] (slL w7 #[.string ⟨a.toArray⟩, .string ⟨b.toArray⟩] _) (fun u hu => by simp at hu; rcases hu with rfl | rfl <;> rfl) (by unfold maxLen; omega) (by omega) (by have := hb.size; simp; omega)
  refine ⟨v', w', hrun, h1, (hb.alloc (by have := hb.size; omega) _).grown h2 (by have := hb.size; simp; omega) (fun g hg => (own_block_ge ho g hg).1), fun o u hu => ?_⟩
  exact (World.cell?_of_block (h2.block bx (by simp; omega) (fun e => hne bx e.symm rfl))).trans hu

/-- the same, behind two calls -/
theorem app3 (b a : List UInt8) (w w7 W2 wa : World) (bx : Nat) {v : Value} {n : Nat} {xs : List Value} (hne : ∀ g, v.ownBlock = some g → g ≠ bx) (hss : W2.heap.size = bx + 1) (ho : W2.ownsRow w.heap.size 9 1 v n xs) (h1 : Below W2.heap.size W2 wa) (h2 : Below wa.heap.size wa w7) (hb : Below w.heap.size w W2) (hn : n + 2 ≤ 100000000) :
    ∃ v' w', (Builtin.append_ #[59, 59] 59 #[v, .slice (some ⟨w7.heap.size, 0, none⟩) 2 2]).run Try.prog (w7.alloc (.cells #[.string ⟨a.toArray⟩, .string ⟨b.toArray⟩] 9)) = .ok v' w' ∧ w'.ownsRow w.heap.size 9 1 v' (n + 2) (xs ++ [strV a, strV b]) ∧
      Below w.heap.size w w' ∧ ∀ o u, (w7.alloc (.cells #[.string ⟨a.toArray⟩, .string ⟨b.toArray⟩] 9)).cell? ⟨bx, o, none⟩ = some u → w'.cell? ⟨bx, o, none⟩ = some u :=
  app2 b a w7 xs hne hss (owns_below (owns_below ho h1) h2) (below_trans (below_trans hb h1 hb.size) h2 (Nat.le_trans hb.size h1.size)) hn (Nat.le_refl _) (Nat.le_trans h1.size h2.size)

set_option maxRecDepth 100000 in
set_option maxHeartbeats 8000000 in
theorem node_Text (n : Nd) (v : Value) (w : World) (hv : NodeV w v n) (ho : OkN n) (hs : Short n.l) (ht : n.text.length ≤ 1048576) (hl : n.l.length ≤ 1048576) :
    Calls Try.prog 18 #[v] w fun e w' => e = .returned (.string ⟨(nodeB n).toArray⟩) ∧ Below w.heap.size w w' := by
  have hsize := nodeB_size n ho hs ht hl
  obtain ⟨A, c, rfl, hE⟩ := hv
  obtain ⟨ino, kind, links, text, l⟩ := n
  obtain ⟨⟨o1, o2⟩, ⟨o3, o4⟩, ⟨o5, o6⟩, o7, o8, o9⟩ := ho
  simp only at o1 o2 o3 o4 o5 o6 o7 o8 o9 hE hs ht hl ⊢
  obtain ⟨W0, hW0⟩ : ∃ W0, W0 = w.alloc (.cells #[.int .i64 ino, .int .i64 kind, .int .i64 links, .string ⟨text.toArray⟩, .slice A l.length c] 24) := ⟨_, rfl⟩
  have hb0 : Below w.heap.size w W0 := by rw [hW0]; exact (Below.refl _ _).alloc (Nat.le_refl _) _
  have hs0 : W0.heap.size = w.heap.size + 1 := by rw [hW0]; simp
  have c0 : W0.cell? ⟨w.heap.size, 0, none⟩ = some (.int .i64 ino) := by rw [hW0]; exact cell_new _ _ _ 0
  have c1 : W0.cell? ⟨w.heap.size, 1, none⟩ = some (.int .i64 kind) := by rw [hW0]; exact cell_new _ _ _ 1
  have c2 : W0.cell? ⟨w.heap.size, 2, none⟩ = some (.int .i64 links) := by rw [hW0]; exact cell_new _ _ _ 2
  have c3 : W0.cell? ⟨w.heap.size, 3, none⟩ = some (.string ⟨text.toArray⟩) := by rw [hW0]; exact cell_new _ _ _ 3
  have c4 : W0.cell? ⟨w.heap.size, 4, none⟩ = some (.slice A l.length c) := by rw [hW0]; exact cell_new _ _ _ 4
  have HE := Lib.hid hE
  have HW := Lib.hid hW0
  have HO := Lib.hid o8
  have HS := Lib.hid hs
  have HSZ := Lib.hid hsize
  clear hE hW0 o8 hs hsize
  go_enter Try.func18, Try.ntmps18
  go_wp2_with fail
  rw [← HW.out]
  have hwl : IntKind.u64.wrap (l.length : Int) = (l.length : Int) := by rw [wrap_u64']; omega
  have hb00 := Below.refl W0.heap.size W0
  go_region_held3 (fun W => W.cell? ⟨w.heap.size, 0, none⟩ = some (.int .i64 ino) ∧ W.cell? ⟨w.heap.size, 1, none⟩ = some (.int .i64 kind) ∧ W.cell? ⟨w.heap.size, 2, none⟩ = some (.int .i64 links) ∧ W.cell? ⟨w.heap.size, 3, none⟩ = some (.string ⟨text.toArray⟩) ∧ W.cell? ⟨w.heap.size, 4, none⟩ = some (.slice A l.length c) ∧ Below W0.heap.size W0 W)
    (first | (go_keep; done) | (go_split_ands; refine ⟨?_, ?_, ?_, ?_, ?_, ?_⟩; all_goals first | exact cell_keep hb7 (by assumption) | exact below_trans (by assumption) hb7 (Below.size (by assumption)) | exact below_dn hb00 1 | assumption | exact Below.alloc (by assumption) (Below.size (by assumption)) _ | exact cell_alloc _ (by assumption)))
    (first | (go_at_call 31; refine (node_number _ _ (by omega) (by omega)).mono ?_; rintro e w7 ⟨rfl, hb7⟩) | (go_at_call 32; refine (octet_Text _ _ (by omega)).mono ?_; rintro e w7 ⟨rfl, hb7⟩) | (go_at_call 33; refine (octet_Num _ _ (by omega) (by omega)).mono ?_; rintro e w7 ⟨rfl, hb7⟩))
  rename_i hh
  obtain ⟨_, _, _, _, hc4, hbW⟩ := hh
  have hsz7 : w.heap.size ≤ w7.heap.size := by
    have h3 := hbW.size
    simp at h3
    omega
  obtain ⟨cs, hcs⟩ : ∃ cs : Array Value, cs = #[.string ⟨(numB (foldN ino).toNat).toArray⟩, .string ⟨(numB (foldN kind).toNat).toArray⟩, .string ⟨(numB (foldN links).toNat).toArray⟩, .string ⟨(textB text).toArray⟩, .string ⟨(numB l.length).toArray⟩] := ⟨_, rfl⟩
  rw [← hcs] at hc4 hbW ⊢
  have hrow1 : (w7.alloc (.cells cs 9)).ownsRow w.heap.size 9 1 (.slice (some ⟨w7.heap.size, 0, none⟩) 5 5) 5 ((headP ⟨ino, kind, links, text, l⟩ ++ entsP (l.take 0)).map strV) := by
    have := owns_built (e := 9) cs hsz7 (by rw [hcs]; simp [maxLen])
    rw [hcs] at this ⊢
    simpa [headP, entsP, strV, wholeB] using this
  have hb1 : Below w.heap.size w (w7.alloc (.cells cs 9)) := below_trans hb0 hbW hb0.size
  obtain ⟨W1, hW1⟩ : ∃ W1, W1 = w7.alloc (.cells cs 9) := ⟨_, rfl⟩
  rw [← hW1] at hc4 hbW hrow1 hb1 ⊢
  obtain ⟨v1, hv1⟩ : ∃ v1, v1 = Value.slice (some ⟨w7.heap.size, 0, none⟩) 5 5 := ⟨_, rfl⟩
  rw [← hv1] at hrow1 ⊢
  have HROW1 := Lib.hid hrow1
  have HB1 := Lib.hid hb1
  clear hrow1 hb1 hv1 hW1 hcs hbW
  clear c0 c1 c2 c3 c4 hb7 hwl hb00 HW
  go_wp2_with fail
  go_loopw [3, 27] (fun sp si wr => ∃ k : Nat, si = .int .i64 k ∧ k ≤ l.length ∧ wr.ownsRow w.heap.size 9 1 sp (5 + 2 * k) ((headP ⟨ino, kind, links, text, l⟩ ++ entsP (l.take k)).map strV) ∧ Below w.heap.size w wr) (fun _ si _ => l.length - (intOf si).toNat)
  case atStart => exact ⟨0, rfl, Nat.zero_le _, HROW1.out, HB1.out⟩
  case round =>
    obtain ⟨k, rfl, hk, hown, hbk⟩ := hrel
    have HOWN := Lib.hid hown
    have HBK := Lib.hid hbk
    clear hown hbk hc4 HROW1 HB1
    by_cases hlt : k < l.length
    · obtain ⟨b, off, rfl, hbb, hlen, hc1, hc2⟩ := (HE.out.below HBK.out).at k hlt
      have HST := Lib.hid (entsP_take l k hlt)
      have hx1 := HS.out l[k] (List.getElem_mem _)
      have hx2 := HO.out l[k] (List.getElem_mem _)
      obtain ⟨_, hx3, hx4⟩ := hx2
      generalize l[k] = x at *
      obtain ⟨W2, hW2⟩ : ∃ W2, W2 = wr.alloc (.cells #[.string ⟨x.1.toArray⟩, .int .i64 x.2] 39) := ⟨_, rfl⟩
      have q0 : W2.cell? ⟨wr.heap.size, 0, none⟩ = some (.string ⟨x.1.toArray⟩) := by rw [hW2]; exact cell_new _ _ _ 0
      have q1 : W2.cell? ⟨wr.heap.size, 1, none⟩ = some (.int .i64 x.2) := by rw [hW2]; exact cell_new _ _ _ 1
      have hb2 : Below w.heap.size w W2 := by rw [hW2]; exact HBK.out.alloc HBK.out.size _
      have ho2 : W2.ownsRow w.heap.size 9 1 u3 (5 + 2 * k) ((headP ⟨ino, kind, links, text, l⟩ ++ entsP (l.take k)).map strV) := by rw [hW2]; exact HOWN.out.alloc _
      have hne : ∀ g, u3.ownBlock = some g → g ≠ wr.heap.size := fun g hg => by have := (own_block_ge HOWN.out g hg).2; omega
      have HW2 := Lib.hid hW2
      have HO2 := Lib.hid ho2
      have HNE := Lib.hid hne
      have HO2d : Hid (W2.drew.ownsRow w.heap.size 9 1 u3 (5 + 2 * k) ((headP ⟨ino, kind, links, text, l⟩ ++ entsP (l.take k)).map strV)) := Lib.hid ho2
      have hb20 := below_dn hb2 1
      have hs2 : W2.heap.size = wr.heap.size + 1 := by rw [hW2]; simp
      have HS2 := Lib.hid hs2
      clear hW2 ho2 hne hs2
      go_wp2_with fail
      rw [← HW2.out]
      go_region_held3 (fun W => W.cell? ⟨wr.heap.size, 0, none⟩ = some (.string ⟨x.1.toArray⟩) ∧ W.cell? ⟨wr.heap.size, 1, none⟩ = some (.int .i64 x.2) ∧ Below w.heap.size w W)
        (first | (go_keep; done) | (go_split_ands; refine ⟨?_, ?_, ?_⟩; all_goals first | exact cell_keep hb7 (by assumption) | exact below_trans (by assumption) hb7 (Below.size (by assumption)) | exact hb20 | assumption | exact Below.alloc (by assumption) (Below.size (by assumption)) _ | exact cell_alloc _ (by assumption) | exact hfc _ _ (by assumption) | exact hfb))
        (first | (go_at_call 31; refine (node_number _ _ (by omega) (by omega)).mono ?_; rintro e w7 ⟨rfl, hb7⟩) | (go_at_call 32; refine (octet_Text _ _ (by omega)).mono ?_; rintro e w7 ⟨rfl, hb7⟩) | (go_split_ands; obtain ⟨v', w', hrun, hro, hfb, hfc⟩ := app3 (numB (foldN x.2).toNat) (textB x.1) w w7 W2.drew _ wr.heap.size HNE.out HS2.out HO2d.out (by assumption) (by assumption) hb20 (by omega); refine step_append_run rfl _ _ _ rfl _ _ _ _ rfl rfl hrun ?_))
      go_wp2_with fail
      go_roundw
      case rel => exact ⟨k + 1, by go_num, by omega, by rw [HST.out, ← List.append_assoc, List.map_append]; exact hro, hfb⟩
      case measure => simp [intOf]; omega
    · have hfin : (headP ⟨ino, kind, links, text, l⟩ ++ entsP (l.take k)).map strV = (nodeP ⟨ino, kind, links, text, l⟩).map strV := by rw [List.take_of_length_le (by omega)]; rfl
      have hrow := Row.of_owns HOWN.out
      rw [hfin] at hrow
      have hpl : (nodeP ⟨ino, kind, links, text, l⟩).length = 5 + 2 * l.length := by unfold nodeP headP; rw [List.length_append, entsP_len]; rfl
      have HJ := Lib.hid (join_row u3 (nodeP ⟨ino, kind, links, text, l⟩) wr hrow (by omega) (by omega) (by have := HSZ.out; unfold nodeB at this; omega))
      have hfl : (nodeP ⟨ino, kind, links, text, l⟩).flatten = nodeB ⟨ino, kind, links, text, l⟩ := rfl
      rw [hfl] at HJ
      obtain ⟨A3, c3, rfl⟩ := hrow.shape
      obtain ⟨B, hBe⟩ : ∃ B, B = nodeB ⟨ino, kind, links, text, l⟩ := ⟨_, rfl⟩
      rw [← hBe] at HJ
      have HBE := Lib.hid hBe
      rw [List.length_map] at HJ
      clear hfin hrow hpl hfl hBe
      go_wp2_with fail
      refine HJ.out.mono ?_
      rintro e w9 ⟨rfl, hb9⟩
      have HB9 := Lib.hid (below_trans HBK.out hb9 HBK.out.size)
      clear hb9
      go_wp2_with fail
      go_ret
      exact ⟨by rw [← HBE.out]; rfl, HB9.out⟩
end Go.Proofs.Ytoinafcjkbdjnaa
