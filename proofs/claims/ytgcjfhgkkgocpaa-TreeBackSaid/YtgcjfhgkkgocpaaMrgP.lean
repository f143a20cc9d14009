/- node.Take: it answers as the document says, for every text; old memory is as it was. copyholdref01.Num, Text, Fold, Unfold: the document's own answers: a short number's and a text's bytes; folded numbers; old memory is as it was. -/
import Derived.Test.YtgcjfhgkkgocpaaNodeTak28
import Derived.Test.YtgcjfhgkkgocpaaMrgM
import Derived.Test.YtgcjfhgkkgocpaaMrgN
import Derived.Deep.RegionWith
set_option linter.unusedVariables false
set_option linter.unusedSimpArgs false
namespace Go.Proofs.Ytgcjfhgkkgocpaa
open Go.RowKit Copyhold Copyhold.Name
theorem entElem7 : Elem Try.prog 25 93 (.agg #[.string ByteArray.empty, .int .i64 0]) 2 24 := ⟨Try.underlying25, by kernel_rfl, by kernel_rfl, by decide⟩
def TakeIs2 (w : World) (r : Nd × List UInt8 × Int) (e : Ending) (w' : World) : Prop := ∃ v, e = .returned (.tuple #[v, .string ⟨r.2.1.toArray⟩, .int .i64 r.2.2]) ∧ NodeV w' v r.1 ∧ Below w.heap.size w w' ∧ ∀ a b c d A n k, v = .agg #[a, b, c, d, .slice A n k] → At (w.heap.size ≤ ·) (.slice A n k)
def ndC (n : Nd) (sv : Value) : Array Value := #[.int .i64 n.ino, .int .i64 n.kind, .int .i64 n.links, .string ⟨n.text.toArray⟩, sv]
def boxC (s : List UInt8) (e ino kind links : Int) (text : List UInt8) (sv : Value) : Array Value := #[.string ⟨s.toArray⟩, .int .i64 e, .int .i64 ino, .int .i64 kind, .int .i64 links, .string ⟨text.toArray⟩, sv]
def set5 (V : World) (g : Nat) (x0 x1 x2 x3 x4 : Value) : World := ((((V.setCell ⟨g, 0, none⟩ x0).setCell ⟨g, 1, none⟩ x1).setCell ⟨g, 2, none⟩ x2).setCell ⟨g, 3, none⟩ x3).setCell ⟨g, 4, none⟩ x4
theorem drew_heap (X : World) : X.drew.heap = X.heap := rfl
theorem set5_far (V : World) (g b : Nat) (x0 x1 x2 x3 x4 : Value) (h : b ≠ g) : ((set5 V g x0 x1 x2 x3 x4).drew).heap[b]? = V.heap[b]? := by
  rw [drew_heap]
  unfold set5
  rw [heap_setCell_far _ _ _ _ h, heap_setCell_far _ _ _ _ h, heap_setCell_far _ _ _ _ h, heap_setCell_far _ _ _ _ h, heap_setCell_far _ _ _ _ h]
theorem set5_size (V : World) (g : Nat) (x0 x1 x2 x3 x4 : Value) : V.heap.size ≤ (set5 V g x0 x1 x2 x3 x4).drew.heap.size := by
  rw [drew_heap]
  unfold set5
  simp
theorem set5_below {B : Nat} {a V : World} (h : Below B a V) (x0 x1 x2 x3 x4 : Value) : Below B a ((set5 V B x0 x1 x2 x3 x4).drew) :=
  below_dn (((((h.setCell (p := ⟨B, 0, none⟩) (Nat.le_refl _) _).setCell (p := ⟨B, 1, none⟩) (Nat.le_refl _) _).setCell (p := ⟨B, 2, none⟩) (Nat.le_refl _) _).setCell (p := ⟨B, 3, none⟩) (Nat.le_refl _) _).setCell (p := ⟨B, 4, none⟩) (Nat.le_refl _) _) 1
def TkEnd (w : World) (l : List UInt8) (s : List UInt8) (e : Int) (n : Nd) (sv : Value) (w' : World) : Prop :=
  TBox w' w.heap.size 27 (ndC nd0 (.slice none 0 0)) ∧ TBox w' (w.heap.size + 1) 88 (boxC s e n.ino n.kind n.links n.text sv) ∧ (e = 0 → Ents w' sv n.l ∧ At (w.heap.size < ·) sv) ∧ Below w.heap.size w w' ∧ takeNode l = (if e = 0 then (n, s, 0) else (nd0, [], e))
def TkJump (w : World) (l : List UInt8) (a : Act) (w' : World) : Prop :=
  ∃ (s : List UInt8) (e : Int) (n : Nd) (sv u1 u6 u7 u8 u9 u10 u11 u12 u13 u14 u15 u16 u17 u18 u19 u20 u21 u22 u23 u24 u25 u26 u27 u28 u29 u30 u31 u32 u33 u34 u35 u36 u37 u38 u39 u40 u41 u42 u43 u44 u45 u46 u47 u48 u49 u50 u51 u52 u53 u54 u55 u56 u57 u58 u59 u60 u61 u62 u63 : Value), TkEnd w l s e n sv w' ∧ a = { tmps := #[.string ⟨l.toArray⟩, u1, .pointer (some ⟨w.heap.size, 0, none⟩), .string ⟨#[]⟩, .int .i64 0, .pointer (some ⟨w.heap.size + 1, 0, none⟩), u6, u7, u8, u9, u10, u11, u12, u13, u14, u15, u16, u17, u18, u19, u20, u21, u22, u23, u24, u25, u26, u27, u28, u29, u30, u31, u32, u33, u34, u35, u36, u37, u38, u39, u40, u41, u42, u43, u44, u45, u46, u47, u48, u49, u50, u51, u52, u53, u54, u55, u56, u57, u58, u59, u60, u61, u62, u63], defers := [] }
theorem ents_snoc (acc : List Name.Ent) (x : Name.Ent) : (acc ++ [x]).flatMap entC = acc.flatMap entC ++ [strV x.1, .int .i64 x.2] := by simp [entC]
structure TkLoop (w : World) (l : List UInt8) (ino kind links : Int) (text : List UInt8) (m : Nat) (s0 : List UInt8) (k : Nat) (acc : List Name.Ent) (s : List UInt8) (sv : Value) (wr : World) : Prop where
  le : k ≤ m
  len : acc.length = k
  r : TBox wr w.heap.size 27 (ndC nd0 (.slice none 0 0))
  t : TBox wr (w.heap.size + 1) 88 (boxC s 0 ino kind links text sv)
  own : wr.ownsRow (w.heap.size + 2) 93 2 sv k (acc.flatMap entC)
  go : takeEs (m - k) acc s = takeEs m [] s0
  b : Below w.heap.size w wr
  sl : s.length ≤ l.length
  ok : ∀ x ∈ acc, EntT x
theorem app_ent {w3 : World} {base k : Nat} {sv : Value} {acc : List Name.Ent} (x : Name.Ent) (ho : w3.ownsRow base 93 2 sv k (acc.flatMap entC)) (hk : k ≤ 300) (hbase : base ≤ w3.heap.size) :
    ∃ v' w4, (Builtin.append_ #[25, 25] 25 #[sv, .slice (some ⟨w3.heap.size, 0, none⟩) 1 1]).run Try.prog (w3.alloc (.cells #[.string ⟨x.1.toArray⟩, .int .i64 x.2] 93)) = .ok v' w4 ∧ w4.ownsRow base 93 2 v' (k + 1) ((acc ++ [x]).flatMap entC) ∧
      (∀ b, b < base → w4.heap[b]? = w3.heap[b]?) ∧ w3.heap.size ≤ w4.heap.size ∧ (∀ (B : Nat) (a : World), Below B a w3 → B ≤ base → Below B a w4) := by
  have hsl : Sl (w3.alloc (.cells #[.string ⟨x.1.toArray⟩, .int .i64 x.2] 93)) 2 (.slice (some ⟨w3.heap.size, 0, none⟩) 1 1) 1 [.string ⟨x.1.toArray⟩, .int .i64 x.2] :=
    ⟨_, 1, rfl, Nat.le_refl _, by simp, fun _ => ⟨w3.heap.size, 0, rfl, by simp, fun j y hj => by
      rw [Nat.zero_add, cell_new]
      simpa using hj⟩⟩
  obtain ⟨v', w4, hrun, h1, h2, _⟩ := append_sl entElem7 _ base 25 sv k _ (ho.alloc _) _ 1 _ hsl (fun u hu => by simp at hu; rcases hu with rfl | rfl <;> rfl) (by unfold maxLen; omega) (by omega) (by simp; omega)
  refine ⟨v', w4, hrun, by rw [ents_snoc]; exact h1, fun b hb => ?_, ?_, fun B a hb hB => ?_⟩
  · rw [h2.block b (by simp; omega) (fun e => by have := (own_block_ge ho b e.symm).1; omega)]
    exact heap_alloc_old _ _ (by omega)
  · have := h2.size
    simp at this
    omega
  · exact (hb.alloc (Nat.le_trans hB hbase) _).grown h2 (by simp; omega) (fun g hg => Nat.le_trans hB (own_block_ge ho g hg).1)
set_option maxRecDepth 100000 in
set_option maxHeartbeats 16000000 in
theorem node_Take2 (l : List UInt8) (w : World) (hl : l.length ≤ 140737488351232) :
    Calls Try.prog 29 #[.string ⟨l.toArray⟩] w (TakeIs2 w (takeNode l)) := by
  have hhead := takeNode_head l
  have hHd : headOf l = ⟨numSt l 0, numSt (numSt l 0).2.1 (numSt l 0).2.2, numSt (numSt (numSt l 0).2.1 (numSt l 0).2.2).2.1 (numSt (numSt l 0).2.1 (numSt l 0).2.2).2.2, _, _⟩ := rfl
  rw [hHd] at hhead
  have l1 := numSt_len l 0
  have C1 := fun W cs (h : TBox W (w.heap.size + 1) 88 cs) h0 h1 => taking_numberS l 0 (w.heap.size + 1) 88 cs W h h0 h1 (by omega)
  generalize numSt l 0 = x1 at *
  obtain ⟨ino, s1, e1⟩ := x1
  simp only at hhead l1 C1
  have l2 := numSt_len s1 e1
  have C2 := fun W cs (h : TBox W (w.heap.size + 1) 88 cs) h0 h1 => taking_numberS s1 e1 (w.heap.size + 1) 88 cs W h h0 h1 (by omega)
  generalize numSt s1 e1 = x2 at *
  obtain ⟨kind, s2, e2⟩ := x2
  simp only at hhead l2 C2
  have l3 := numSt_len s2 e2
  have C3 := fun W cs (h : TBox W (w.heap.size + 1) 88 cs) h0 h1 => taking_numberS s2 e2 (w.heap.size + 1) 88 cs W h h0 h1 (by omega)
  generalize numSt s2 e2 = x3 at *
  obtain ⟨links, s3, e3⟩ := x3
  simp only at hhead l3 C3
  have l4 := textSt_len s3 e3 4096
  have C4 := fun W cs (h : TBox W (w.heap.size + 1) 88 cs) h0 h1 => taking_textS s3 e3 4096 (w.heap.size + 1) 88 cs W h h0 h1 (by omega) (by decide) (by decide)
  generalize textSt s3 e3 4096 = x4 at *
  obtain ⟨text, s4, e4⟩ := x4
  simp only at hhead l4 C4
  have l5 := countSt_len s4 e4 256
  have C5 := fun W cs (h : TBox W (w.heap.size + 1) 88 cs) h0 h1 => taking_countS s4 e4 256 (w.heap.size + 1) 88 cs W h h0 h1 (by omega) (by decide) (by decide)
  generalize countSt s4 e4 256 = x5 at *
  obtain ⟨mi, s5, e5⟩ := x5
  simp only at hhead l5 C5
  obtain ⟨hN, hbad, hm0, hm1, -, -⟩ := hhead
  obtain ⟨m, rfl⟩ := Int.eq_ofNat_of_zero_le hm0
  simp only [Int.ofNat_eq_natCast, Int.toNat_natCast] at hN hbad hm1 C5
  have HN := Lib.hid hN
  have HBAD := Lib.hid hbad
  have HL := Lib.hid (And.intro l1.1 (And.intro l2.1 (And.intro l3.1 (And.intro l4 l5))))
  have HLB := Lib.hid (And.intro l1.2 (And.intro l2.2 l3.2))
  have HC1 := Lib.hid C1
  have HC2 := Lib.hid C2
  have HC3 := Lib.hid C3
  have HC4 := Lib.hid C4
  have HC5 := Lib.hid C5
  clear hN hbad hm0 l1 l2 l3 l4 l5 C1 C2 C3 C4 C5 hHd
  obtain ⟨W0, hW0⟩ : ∃ W0, W0 = (w.alloc (.cells #[.int .i64 0, .int .i64 0, .int .i64 0, .string ⟨#[]⟩, .slice none 0 0] 27)).alloc (.cells #[.string ⟨l.toArray⟩, .int .i64 0, .int .i64 0, .int .i64 0, .int .i64 0, .string ⟨#[]⟩, .slice none 0 0] 88) := ⟨_, rfl⟩
  have hb0 : Below w.heap.size w W0 := by rw [hW0]; exact ((Below.refl _ _).alloc (Nat.le_refl _) _).alloc (by simp) _
  have r0 : TBox W0 w.heap.size 27 (ndC nd0 (.slice none 0 0)) := by rw [hW0]; exact (TBox.new _ _ _).below ((Below.refl _ _).alloc (Nat.le_refl _) _)
  have t0 : TBox W0 (w.heap.size + 1) 88 (boxC l 0 0 0 0 [] (.slice none 0 0)) := by
    rw [hW0]
    have h := TBox.new (w.alloc (.cells #[.int .i64 0, .int .i64 0, .int .i64 0, .string ⟨#[]⟩, .slice none 0 0] 27)) 88 #[.string ⟨l.toArray⟩, .int .i64 0, .int .i64 0, .int .i64 0, .int .i64 0, .string ⟨#[]⟩, .slice none 0 0]
    rw [show (w.alloc (.cells #[.int .i64 0, .int .i64 0, .int .i64 0, .string ⟨#[]⟩, .slice none 0 0] 27)).heap.size = w.heap.size + 1 from by simp] at h
    exact h
  have HW0 := Lib.hid hW0
  have HX0 := Lib.hid (And.intro hb0 (And.intro r0 t0))
  clear hW0 hb0 r0 t0
  go_enter Try.func29, Try.ntmps29
  go_wp2_with fail
  refine wp_scope_jumps 0 (TkJump w l) (fun _ _ => 0) rfl ?_ ?_
  · go_wp2_with fail
    rw [← HW0.out]
    refine (HC1.out W0 _ HX0.out.2.2 rfl rfl).mono ?_
    rintro e w1 ⟨rfl, hr⟩
    have t1 : TBox w1 (w.heap.size + 1) 88 (boxC s1 e1 0 0 0 [] (.slice none 0 0)) := hr.1 _ _ HX0.out.2.2
    have r1 := hr.far HX0.out.2.1 (by omega)
    have b1 := hr.2.2.2 w.heap.size w HX0.out.1 (by omega) HX0.out.1.size
    have p : w1.cell? ⟨w.heap.size + 1, 2, none⟩ = some (.int .i64 0) := t1.cell 2
    have f : w1.frozen? ⟨w.heap.size + 1, 2, none⟩ = false := t1.free 2
    obtain ⟨W1, hW1⟩ : ∃ W, W = w1.setCell ⟨w.heap.size + 1, 2, none⟩ (.int .i64 ino) := ⟨_, rfl⟩
    have HX1 := Lib.hid (show Below w.heap.size w W1 ∧ TBox W1 w.heap.size 27 (ndC nd0 (.slice none 0 0)) ∧ TBox W1 (w.heap.size + 1) 88 (boxC s1 e1 ino 0 0 [] (.slice none 0 0)) from by
      rw [hW1]
      exact ⟨b1.setCell (p := ⟨w.heap.size + 1, 2, none⟩) (by simp) _, r1.far _ _ _ (by omega), t1.set 2 _⟩)
    have HW1 := Lib.hid hW1
    clear hr t1 r1 b1 hW1
    go_wp2_with fail
    clear p f
    rw [← HW1.out]
    refine (HC2.out W1 _ HX1.out.2.2 rfl rfl).mono ?_
    rintro e w1 ⟨rfl, hr⟩
    have t1 : TBox w1 (w.heap.size + 1) 88 (boxC s2 e2 ino 0 0 [] (.slice none 0 0)) := hr.1 _ _ HX1.out.2.2
    have r1 := hr.far HX1.out.2.1 (by omega)
    have b1 := hr.2.2.2 w.heap.size w HX1.out.1 (by omega) HX1.out.1.size
    have p : w1.cell? ⟨w.heap.size + 1, 3, none⟩ = some (.int .i64 0) := t1.cell 3
    have f : w1.frozen? ⟨w.heap.size + 1, 3, none⟩ = false := t1.free 3
    obtain ⟨W2, hW2⟩ : ∃ W, W = w1.setCell ⟨w.heap.size + 1, 3, none⟩ (.int .i64 kind) := ⟨_, rfl⟩
    have HX2 := Lib.hid (show Below w.heap.size w W2 ∧ TBox W2 w.heap.size 27 (ndC nd0 (.slice none 0 0)) ∧ TBox W2 (w.heap.size + 1) 88 (boxC s2 e2 ino kind 0 [] (.slice none 0 0)) from by
      rw [hW2]
      exact ⟨b1.setCell (p := ⟨w.heap.size + 1, 3, none⟩) (by simp) _, r1.far _ _ _ (by omega), t1.set 3 _⟩)
    have HW2 := Lib.hid hW2
    clear hr t1 r1 b1 hW2
    go_wp2_with fail
    clear p f
    rw [← HW2.out]
    refine (HC3.out W2 _ HX2.out.2.2 rfl rfl).mono ?_
    rintro e w1 ⟨rfl, hr⟩
    have t1 : TBox w1 (w.heap.size + 1) 88 (boxC s3 e3 ino kind 0 [] (.slice none 0 0)) := hr.1 _ _ HX2.out.2.2
    have r1 := hr.far HX2.out.2.1 (by omega)
    have b1 := hr.2.2.2 w.heap.size w HX2.out.1 (by omega) HX2.out.1.size
    have p : w1.cell? ⟨w.heap.size + 1, 4, none⟩ = some (.int .i64 0) := t1.cell 4
    have f : w1.frozen? ⟨w.heap.size + 1, 4, none⟩ = false := t1.free 4
    obtain ⟨W3, hW3⟩ : ∃ W, W = w1.setCell ⟨w.heap.size + 1, 4, none⟩ (.int .i64 links) := ⟨_, rfl⟩
    have HX3 := Lib.hid (show Below w.heap.size w W3 ∧ TBox W3 w.heap.size 27 (ndC nd0 (.slice none 0 0)) ∧ TBox W3 (w.heap.size + 1) 88 (boxC s3 e3 ino kind links [] (.slice none 0 0)) from by
      rw [hW3]
      exact ⟨b1.setCell (p := ⟨w.heap.size + 1, 4, none⟩) (by simp) _, r1.far _ _ _ (by omega), t1.set 4 _⟩)
    have HW3 := Lib.hid hW3
    clear hr t1 r1 b1 hW3
    go_wp2_with fail
    clear p f
    rw [← HW3.out]
    refine (HC4.out W3 _ HX3.out.2.2 rfl rfl).mono ?_
    rintro e w1 ⟨rfl, hr⟩
    have t1 : TBox w1 (w.heap.size + 1) 88 (boxC s4 e4 ino kind links [] (.slice none 0 0)) := hr.1 _ _ HX3.out.2.2
    have r1 := hr.far HX3.out.2.1 (by omega)
    have b1 := hr.2.2.2 w.heap.size w HX3.out.1 (by omega) HX3.out.1.size
    have p : w1.cell? ⟨w.heap.size + 1, 5, none⟩ = some (.string ⟨#[]⟩) := t1.cell 5
    have f : w1.frozen? ⟨w.heap.size + 1, 5, none⟩ = false := t1.free 5
    obtain ⟨W4, hW4⟩ : ∃ W, W = w1.setCell ⟨w.heap.size + 1, 5, none⟩ (.string ⟨text.toArray⟩) := ⟨_, rfl⟩
    have HX4 := Lib.hid (show Below w.heap.size w W4 ∧ TBox W4 w.heap.size 27 (ndC nd0 (.slice none 0 0)) ∧ TBox W4 (w.heap.size + 1) 88 (boxC s4 e4 ino kind links text (.slice none 0 0)) from by
      rw [hW4]
      exact ⟨b1.setCell (p := ⟨w.heap.size + 1, 5, none⟩) (by simp) _, r1.far _ _ _ (by omega), t1.set 5 _⟩)
    have HW4 := Lib.hid hW4
    clear hr t1 r1 b1 hW4
    go_wp2_with fail
    clear p f
    rw [← HW4.out]
    refine (HC5.out W4 _ HX4.out.2.2 rfl rfl).mono ?_
    rintro e w5 ⟨rfl, hr⟩
    have HX5 := Lib.hid (show Below w.heap.size w w5 ∧ TBox w5 w.heap.size 27 (ndC nd0 (.slice none 0 0)) ∧ TBox w5 (w.heap.size + 1) 88 (boxC s5 e5 ino kind links text (.slice none 0 0)) from
      ⟨hr.2.2.2 w.heap.size w HX4.out.1 (by omega) HX4.out.1.size, hr.far HX4.out.2.1 (by omega), hr.1 _ _ HX4.out.2.2⟩)
    have hs5 : w.heap.size + 1 < w5.heap.size := HX5.out.2.2.lt
    clear hr HC1 HC2 HC3 HC4 HC5 HW0 HW1 HW2 HW3 HW4 HX0 HX1 HX2 HX3 HX4
    by_cases he5 : e5 = 0
    · subst he5
      have HN2 := Lib.hid (show takeNode l = thenP nd0 (takeEs m [] s5) (fun l s' => endN ⟨ino, kind, links, text, l⟩ s') from by rw [HN.out, if_pos rfl])
      clear HN HBAD
      go_wp2_with fail
      go_loopw [23] (fun si wr => ∃ (k : Nat) (acc : List Name.Ent) (s : List UInt8) (sv : Value), si = .int .u64 k ∧ TkLoop w l ino kind links text m s5 k acc s sv wr) (fun si _ => m - (intOf si).toNat)
      case atStart => exact ⟨0, [], s5, .slice none 0 0, rfl, Nat.zero_le _, rfl, HX5.out.2.1, HX5.out.2.2, World.ownsRow_nil _ _ _ _, rfl, HX5.out.1, by have := HL.out; omega, fun x hx => (by cases hx)⟩
      case round =>
        obtain ⟨k, acc, s, sv, rfl, hrel⟩ := hrel
        have HR := Lib.hid hrel
        have hkm := hrel.le
        have hwr : w.heap.size + 1 < wr.heap.size := hrel.t.lt
        clear hrel
        by_cases hlt : k < m
        · have HEN := Lib.hid (taking_entry s (w.heap.size + 1) 88 _ wr HR.out.t rfl rfl (by have := HR.out.sl; omega))
          have hst := takeEs_step (m - k - 1) acc s
          rw [show m - k - 1 + 1 = m - k from by omega, HR.out.go] at hst
          have hok := entSt_ok s
          generalize entSt s = x at *
          obtain ⟨⟨nm, z⟩, s', e'⟩ := x
          simp only at HEN hst hok
          have HST := Lib.hid hst
          have HOK := Lib.hid hok
          clear hst hok
          go_wp2_with fail
          refine HEN.out.mono ?_
          rintro e w1 ⟨rfl, hr⟩
          have t1 : TBox w1 (w.heap.size + 1) 88 (boxC s' e' ino kind links text sv) := hr.1 _ _ HR.out.t
          have r1 := hr.far HR.out.r (by omega)
          have b1 := hr.2.2.2 w.heap.size w HR.out.b (by omega) HR.out.b.size
          have o1 := hr.owns HR.out.own (by omega)
          have hs1 : w.heap.size + 1 < w1.heap.size := t1.lt
          have p1 : w1.cell? ⟨w.heap.size + 1, 1, none⟩ = some (.int .i64 e') := t1.cell 1
          have p6 : w1.cell? ⟨w.heap.size + 1, 6, none⟩ = some sv := t1.cell 6
          have f6 : w1.frozen? ⟨w.heap.size + 1, 6, none⟩ = false := t1.free 6
          have HY := Lib.hid (And.intro t1 (And.intro r1 (And.intro b1 o1)))
          clear hr t1 r1 b1 o1
          by_cases he : e' = 0
          · subst he
            have hst := HST.out
            rw [if_pos rfl] at hst
            have HST2 := Lib.hid hst
            obtain ⟨W2, hW2⟩ : ∃ W2, W2 = w1.alloc (.cells #[.string ⟨nm.toArray⟩, .int .i64 z] 93) := ⟨_, rfl⟩
            have hs2 : W2.heap.size = w1.heap.size + 1 := by rw [hW2]; simp
            have bw : Below w1.heap.size w1 W2 := by rw [hW2]; exact (Below.refl _ _).alloc (Nat.le_refl _) _
            obtain ⟨v', w4, hrun, ho4, hk4, hs4, hb4⟩ := app_ent (w3 := W2) (base := w.heap.size + 2) (k := k) (acc := acc) (nm, z) (by rw [hW2]; exact HY.out.2.2.2.alloc _) (by omega) (by omega)
            obtain ⟨A4, c4, rfl, -, -⟩ := (Sl.of_owns ho4).shape
            have t4 : TBox w4 (w.heap.size + 1) 88 (boxC s' 0 ino kind links text sv) := by
              have := HY.out.1.below bw
              unfold TBox at this ⊢
              rw [hk4 _ (by omega)]
              exact this
            have r4 : TBox w4 w.heap.size 27 (ndC nd0 (.slice none 0 0)) := by
              have := HY.out.2.1.below bw
              unfold TBox at this ⊢
              rw [hk4 _ (by omega)]
              exact this
            have b4 : Below w.heap.size w w4 := hb4 _ _ (below_trans HY.out.2.2.1 bw HY.out.2.2.1.size) (by omega)
            have p6w : w4.cell? ⟨w.heap.size + 1, 6, none⟩ = some sv := t4.cell 6
            have f6w : w4.frozen? ⟨w.heap.size + 1, 6, none⟩ = false := t4.free 6
            have HZ := Lib.hid (And.intro t4 (And.intro r4 (And.intro b4 ho4)))
            simp only [hs2] at hrun
            rw [hW2] at hrun
            clear hst t4 r4 b4 ho4 hk4 hb4 bw hs2 hW2
            go_wp2_with (at_builtin; refine wpList_append_run rfl _ _ _ rfl _ _ _ _ rfl rfl hrun ?_)
            go_roundw
            case rel =>
              refine ⟨k + 1, acc ++ [(nm, z)], s', _, by go_num, by omega, by rw [List.length_append, HR.out.len]; rfl, HZ.out.2.1.far _ _ _ (by omega), HZ.out.1.set 6 _, owns_setCell HZ.out.2.2.2 _ _ (by simp), ?_, HZ.out.2.2.1.setCell (p := ⟨w.heap.size + 1, 6, none⟩) (by simp) _, by have := HOK.out.1; have := HR.out.sl; omega, fun x hx => ?_⟩
              · rw [HST2.out]
                rfl
              · rcases List.mem_append.1 hx with hx | hx
                · exact HR.out.ok x hx
                · rw [List.mem_singleton.1 hx]
                  first | exact HOK.out.2 rfl | exact HOK.out.2 trivial
            case measure => simp [intOf]; omega
          · have hne : (e' == 0) = false := by simpa using he
            have hne2 : (e' != 0) = true := by simpa using he
            have hst := HST.out
            rw [if_neg he] at hst
            have hend : TkEnd w l s' e' ⟨ino, kind, links, text, []⟩ sv (w1.alloc (.cells #[.string ⟨nm.toArray⟩, .int .i64 z] 93)) := by
              have bw : Below w1.heap.size w1 (w1.alloc (.cells #[.string ⟨nm.toArray⟩, .int .i64 z] 93)) := (Below.refl _ _).alloc (Nat.le_refl _) _
              refine ⟨HY.out.2.1.below bw, HY.out.1.below bw, fun h => absurd h he, below_trans HY.out.2.2.1 bw HY.out.2.2.1.size, ?_⟩
              rw [if_neg he, HN2.out, hst, thenP_no he]
            have HE := Lib.hid hend
            clear hend hst he
            go_wp2_with fail
            go_step3
            exact ⟨rfl, s', e', ⟨ino, kind, links, text, []⟩, sv, _, _, _, _, _, _, _, _, _, _, _, _, _, _, _, _, _, _, _, _, _, _, _, _, _, _, _, _, _, _, _, _, _, _, _, _, _, _, _, _, _, _, _, _, _, _, _, _, _, _, _, _, _, _, _, _, _, _, _, HE.out, rfl⟩
        · obtain rfl : k = m := by omega
          have hgo := HR.out.go
          rw [Nat.sub_self, takeEs] at hgo
          have hN3 := HN2.out
          rw [← hgo, thenP_ok rfl] at hN3
          simp only at hN3
          have hE : Ents wr sv acc := by
            have := Sl.of_owns HR.out.own
            rw [← HR.out.len] at this
            exact this
          obtain ⟨A, c, rfl, -⟩ := hE.shape
          have ho : OkNd ⟨ino, kind, links, text, acc⟩ := ⟨HLB.out.1, HLB.out.2.1, HLB.out.2.2, by have := HL.out; simp only; omega, fun x hx => ⟨by have := (HR.out.ok x hx).1; omega, (HR.out.ok x hx).2⟩, by have := HR.out.len; simp only; omega⟩
          have HRI := Lib.hid (node_Right ⟨ino, kind, links, text, acc⟩ _ wr ⟨A, c, rfl, hE⟩ ho)
          have t := HR.out.t
          have p1 : wr.cell? ⟨w.heap.size + 1, 1, none⟩ = some (.int .i64 0) := t.cell 1
          have p2 : wr.cell? ⟨w.heap.size + 1, 2, none⟩ = some (.int .i64 ino) := t.cell 2
          have p3 : wr.cell? ⟨w.heap.size + 1, 3, none⟩ = some (.int .i64 kind) := t.cell 3
          have p4 : wr.cell? ⟨w.heap.size + 1, 4, none⟩ = some (.int .i64 links) := t.cell 4
          have p5 : wr.cell? ⟨w.heap.size + 1, 5, none⟩ = some (.string ⟨text.toArray⟩) := t.cell 5
          have p6 : wr.cell? ⟨w.heap.size + 1, 6, none⟩ = some (.slice A acc.length c) := t.cell 6
          have HE := Lib.hid hE
          have HAT := Lib.hid (At.mono (At.of_owns HR.out.own) (D' := (w.heap.size < ·)) (fun b hb => by omega))
          have HN3 := Lib.hid hN3
          clear t hE ho hgo hN3
          unfold endN at HN3
          generalize rightN ⟨ino, kind, links, text, acc⟩ = r at *
          go_wp2_with fail
          refine HRI.out.mono ?_
          rintro e w1 ⟨rfl, hb1⟩
          have t1 := HR.out.t.below hb1
          have r1 := HR.out.r.below hb1
          have b1 := below_trans HR.out.b hb1 HR.out.b.size
          have k1 : w1.cell? ⟨w.heap.size + 1, 1, none⟩ = some (.int .i64 0) := t1.cell 1
          have f1 : w1.frozen? ⟨w.heap.size + 1, 1, none⟩ = false := t1.free 1
          have HZ := Lib.hid (And.intro t1 (And.intro r1 (And.intro b1 (HE.out.below hb1))))
          clear t1 r1 b1 hb1 p1 p2 p3 p4 p5 p6
          cases r
          · go_wp2_with fail
            go_step3
            obtain ⟨V, hV⟩ : ∃ V, V = w1.setCell ⟨w.heap.size + 1, 1, none⟩ (.int .i64 3) := ⟨_, rfl⟩
            have HF := Lib.hid (show TkEnd w l s 3 ⟨ino, kind, links, text, acc⟩ (.slice A acc.length c) V from by
              rw [hV]
              exact ⟨HZ.out.2.1.far _ _ _ (by omega), HZ.out.1.set 1 _, fun h => absurd h (by decide), HZ.out.2.2.1.setCell (p := ⟨w.heap.size + 1, 1, none⟩) (by simp) _, by rw [HN3.out]; rfl⟩)
            rw [← hV]
            clear hV k1 f1
            have g0 : V.cell? ⟨w.heap.size, 0, none⟩ = some (.int .i64 0) := HF.out.1.cell 0
            have g1 : V.cell? ⟨w.heap.size, 1, none⟩ = some (.int .i64 0) := HF.out.1.cell 1
            have g2 : V.cell? ⟨w.heap.size, 2, none⟩ = some (.int .i64 0) := HF.out.1.cell 2
            have g3 : V.cell? ⟨w.heap.size, 3, none⟩ = some (.string ⟨#[]⟩) := HF.out.1.cell 3
            have g4 : V.cell? ⟨w.heap.size, 4, none⟩ = some (.slice none 0 0) := HF.out.1.cell 4
            have f0 := HF.out.1.free 0
            have f1 := HF.out.1.free 1
            have f2 := HF.out.1.free 2
            have f3 := HF.out.1.free 3
            have f4 := HF.out.1.free 4
            have q0 : V.cell? ⟨w.heap.size + 1, 0, none⟩ = some (.string ⟨s.toArray⟩) := HF.out.2.1.cell 0
            have q1 : V.cell? ⟨w.heap.size + 1, 1, none⟩ = some (.int .i64 3) := HF.out.2.1.cell 1
            have q2 : V.cell? ⟨w.heap.size + 1, 2, none⟩ = some (.int .i64 ino) := HF.out.2.1.cell 2
            have q3 : V.cell? ⟨w.heap.size + 1, 3, none⟩ = some (.int .i64 kind) := HF.out.2.1.cell 3
            have q4 : V.cell? ⟨w.heap.size + 1, 4, none⟩ = some (.int .i64 links) := HF.out.2.1.cell 4
            have q5 : V.cell? ⟨w.heap.size + 1, 5, none⟩ = some (.string ⟨text.toArray⟩) := HF.out.2.1.cell 5
            have q6 : V.cell? ⟨w.heap.size + 1, 6, none⟩ = some (.slice A acc.length c) := HF.out.2.1.cell 6
            have hT : takeNode l = (nd0, [], 3) := by have := HF.out.2.2.2.2; rwa [if_neg (by decide)] at this
            have HTT := Lib.hid hT
            clear hT
            go_wp2_with fail
            go_region_held3 (fun U => U.cell? ⟨w.heap.size + 1, 1, none⟩ = some (.int .i64 3)) (go_keep) (fail)
            all_goals
              go_wp2_with fail
              simp only [Exit.jump]
              refine bodyPost_ret (v := .tuple #[.agg #[.int .i64 0, .int .i64 0, .int .i64 0, .string ⟨#[]⟩, .slice none 0 0], .string ⟨#[]⟩, .int .i64 3]) (by simp [results, Try.results29, go_sem, g0, g1, g2, g3, g4]) rfl ⟨_, by rw [HTT.out] <;> rfl, ⟨none, 0, by rw [HTT.out] <;> rfl, by rw [HTT.out]; exact Ents.nil _⟩, set5_below HF.out.2.2.2.1 _ _ _ _ _, ?_⟩
              exact fun _ _ _ _ _ _ _ h => (by cases h; trivial)
          · go_wp2_with fail
            go_step3
            have HF := Lib.hid (show TkEnd w l s 0 ⟨ino, kind, links, text, acc⟩ (.slice A acc.length c) w1 from ⟨HZ.out.2.1, HZ.out.1, fun _ => ⟨HZ.out.2.2.2, HAT.out⟩, HZ.out.2.2.1, by rw [HN3.out]; rfl⟩)
            clear k1 f1
            have g0 : w1.cell? ⟨w.heap.size, 0, none⟩ = some (.int .i64 0) := HF.out.1.cell 0
            have g1 : w1.cell? ⟨w.heap.size, 1, none⟩ = some (.int .i64 0) := HF.out.1.cell 1
            have g2 : w1.cell? ⟨w.heap.size, 2, none⟩ = some (.int .i64 0) := HF.out.1.cell 2
            have g3 : w1.cell? ⟨w.heap.size, 3, none⟩ = some (.string ⟨#[]⟩) := HF.out.1.cell 3
            have g4 : w1.cell? ⟨w.heap.size, 4, none⟩ = some (.slice none 0 0) := HF.out.1.cell 4
            have f0 := HF.out.1.free 0
            have f1 := HF.out.1.free 1
            have f2 := HF.out.1.free 2
            have f3 := HF.out.1.free 3
            have f4 := HF.out.1.free 4
            have q0 : w1.cell? ⟨w.heap.size + 1, 0, none⟩ = some (.string ⟨s.toArray⟩) := HF.out.2.1.cell 0
            have q1 : w1.cell? ⟨w.heap.size + 1, 1, none⟩ = some (.int .i64 0) := HF.out.2.1.cell 1
            have q2 : w1.cell? ⟨w.heap.size + 1, 2, none⟩ = some (.int .i64 ino) := HF.out.2.1.cell 2
            have q3 : w1.cell? ⟨w.heap.size + 1, 3, none⟩ = some (.int .i64 kind) := HF.out.2.1.cell 3
            have q4 : w1.cell? ⟨w.heap.size + 1, 4, none⟩ = some (.int .i64 links) := HF.out.2.1.cell 4
            have q5 : w1.cell? ⟨w.heap.size + 1, 5, none⟩ = some (.string ⟨text.toArray⟩) := HF.out.2.1.cell 5
            have q6 : w1.cell? ⟨w.heap.size + 1, 6, none⟩ = some (.slice A acc.length c) := HF.out.2.1.cell 6
            have hT : takeNode l = (⟨ino, kind, links, text, acc⟩, s, 0) := by have := HF.out.2.2.2.2; rwa [if_pos rfl] at this
            have HTT := Lib.hid hT
            clear hT
            go_wp2_with fail
            go_region_held3 (fun U => U.cell? ⟨w.heap.size + 1, 0, none⟩ = some (.string ⟨s.toArray⟩) ∧ U.cell? ⟨w.heap.size + 1, 2, none⟩ = some (.int .i64 ino) ∧ U.cell? ⟨w.heap.size + 1, 3, none⟩ = some (.int .i64 kind) ∧ U.cell? ⟨w.heap.size + 1, 4, none⟩ = some (.int .i64 links) ∧ U.cell? ⟨w.heap.size + 1, 5, none⟩ = some (.string ⟨text.toArray⟩) ∧ U.cell? ⟨w.heap.size + 1, 6, none⟩ = some (.slice A acc.length c)) (go_keep) (fail)
            all_goals
              go_wp2_with fail
              simp only [Exit.jump]
              refine bodyPost_ret (v := .tuple #[.agg #[.int .i64 ino, .int .i64 kind, .int .i64 links, .string ⟨text.toArray⟩, .slice A acc.length c], .string ⟨s.toArray⟩, .int .i64 0]) (by simp [results, Try.results29, go_sem, g0, g1, g2, g3, g4]) rfl ⟨_, by rw [HTT.out] <;> rfl, ⟨A, c, by rw [HTT.out] <;> rfl, by rw [HTT.out]; exact Sl.frame (HF.out.2.2.1 rfl).1 (HF.out.2.2.1 rfl).2 (fun b hb hs => set5_far _ _ _ _ _ _ _ _ (Nat.ne_of_gt hb)) (set5_size _ _ _ _ _ _ _)⟩, set5_below HF.out.2.2.2.1 _ _ _ _ _, ?_⟩
              exact fun _ _ _ _ _ _ _ h => (by cases h; exact At.mono (HF.out.2.2.1 rfl).2 (fun b hb => Nat.le_of_lt hb))
    · obtain rfl : m = 0 := by have := HBAD.out he5; omega
      have hne : (e5 == 0) = false := by simpa using he5
      have hN2 := HN.out
      rw [if_neg he5] at hN2
      have HE := Lib.hid (show TkEnd w l s5 e5 ⟨ino, kind, links, text, []⟩ (.slice none 0 0) w5 from ⟨HX5.out.2.1, HX5.out.2.2, fun h => absurd h he5, HX5.out.1, by rw [if_neg he5]; exact hN2⟩)
      have p1 : w5.cell? ⟨w.heap.size + 1, 1, none⟩ = some (.int .i64 e5) := HX5.out.2.2.cell 1
      have HNE := Lib.hid he5
      clear hN2 he5 HN HBAD
      go_wp2_with fail
      go_loopw [23] (fun si wr => si = .int .u64 0 ∧ w5 = wr) (fun _ _ => 0)
      case atStart => exact ⟨rfl, rfl⟩
      case round =>
        obtain ⟨rfl, rfl⟩ := hrel
        go_wp2_with fail
        go_step3
        clear p1
        have g0 : w5.cell? ⟨w.heap.size, 0, none⟩ = some (.int .i64 0) := HE.out.1.cell 0
        have g1 : w5.cell? ⟨w.heap.size, 1, none⟩ = some (.int .i64 0) := HE.out.1.cell 1
        have g2 : w5.cell? ⟨w.heap.size, 2, none⟩ = some (.int .i64 0) := HE.out.1.cell 2
        have g3 : w5.cell? ⟨w.heap.size, 3, none⟩ = some (.string ⟨#[]⟩) := HE.out.1.cell 3
        have g4 : w5.cell? ⟨w.heap.size, 4, none⟩ = some (.slice none 0 0) := HE.out.1.cell 4
        have f0 := HE.out.1.free 0
        have f1 := HE.out.1.free 1
        have f2 := HE.out.1.free 2
        have f3 := HE.out.1.free 3
        have f4 := HE.out.1.free 4
        have q0 : w5.cell? ⟨w.heap.size + 1, 0, none⟩ = some (.string ⟨s5.toArray⟩) := HE.out.2.1.cell 0
        have q1 : w5.cell? ⟨w.heap.size + 1, 1, none⟩ = some (.int .i64 e5) := HE.out.2.1.cell 1
        have q2 : w5.cell? ⟨w.heap.size + 1, 2, none⟩ = some (.int .i64 ino) := HE.out.2.1.cell 2
        have q3 : w5.cell? ⟨w.heap.size + 1, 3, none⟩ = some (.int .i64 kind) := HE.out.2.1.cell 3
        have q4 : w5.cell? ⟨w.heap.size + 1, 4, none⟩ = some (.int .i64 links) := HE.out.2.1.cell 4
        have q5 : w5.cell? ⟨w.heap.size + 1, 5, none⟩ = some (.string ⟨text.toArray⟩) := HE.out.2.1.cell 5
        have q6 : w5.cell? ⟨w.heap.size + 1, 6, none⟩ = some (.slice none 0 0) := HE.out.2.1.cell 6
        have hT : takeNode l = (nd0, [], e5) := by have := HE.out.2.2.2.2; rwa [if_neg (HNE.out)] at this
        have HTT := Lib.hid hT
        clear hT
        go_wp2_with fail
        go_region_held3 (fun U => U.cell? ⟨w.heap.size + 1, 1, none⟩ = some (.int .i64 e5)) (go_keep) (fail)
        all_goals
          go_wp2_with fail
          simp only [Exit.jump]
          refine bodyPost_ret (v := .tuple #[.agg #[.int .i64 0, .int .i64 0, .int .i64 0, .string ⟨#[]⟩, .slice none 0 0], .string ⟨#[]⟩, .int .i64 e5]) (by simp [results, Try.results29, go_sem, g0, g1, g2, g3, g4]) rfl ⟨_, by rw [HTT.out] <;> rfl, ⟨none, 0, by rw [HTT.out] <;> rfl, by rw [HTT.out]; exact Ents.nil _⟩, set5_below HE.out.2.2.2.1 _ _ _ _ _, ?_⟩
          exact fun _ _ _ _ _ _ _ h => (by cases h; trivial)
  · rintro a' V ⟨s, e, ⟨ino, kind, links, text, acc⟩, sv, u1, u6, u7, u8, u9, u10, u11, u12, u13, u14, u15, u16, u17, u18, u19, u20, u21, u22, u23, u24, u25, u26, u27, u28, u29, u30, u31, u32, u33, u34, u35, u36, u37, u38, u39, u40, u41, u42, u43, u44, u45, u46, u47, u48, u49, u50, u51, u52, u53, u54, u55, u56, u57, u58, u59, u60, u61, u62, u63, hend, rfl⟩
    have HF := Lib.hid hend
    clear hend
    by_cases he : e = 0
    · subst he
      obtain ⟨A9, c9, h9, -⟩ := (HF.out.2.2.1 rfl).1.shape
      subst h9
      have g0 : V.cell? ⟨w.heap.size, 0, none⟩ = some (.int .i64 0) := HF.out.1.cell 0
      have g1 : V.cell? ⟨w.heap.size, 1, none⟩ = some (.int .i64 0) := HF.out.1.cell 1
      have g2 : V.cell? ⟨w.heap.size, 2, none⟩ = some (.int .i64 0) := HF.out.1.cell 2
      have g3 : V.cell? ⟨w.heap.size, 3, none⟩ = some (.string ⟨#[]⟩) := HF.out.1.cell 3
      have g4 : V.cell? ⟨w.heap.size, 4, none⟩ = some (.slice none 0 0) := HF.out.1.cell 4
      have f0 := HF.out.1.free 0
      have f1 := HF.out.1.free 1
      have f2 := HF.out.1.free 2
      have f3 := HF.out.1.free 3
      have f4 := HF.out.1.free 4
      have q0 : V.cell? ⟨w.heap.size + 1, 0, none⟩ = some (.string ⟨s.toArray⟩) := HF.out.2.1.cell 0
      have q1 : V.cell? ⟨w.heap.size + 1, 1, none⟩ = some (.int .i64 0) := HF.out.2.1.cell 1
      have q2 : V.cell? ⟨w.heap.size + 1, 2, none⟩ = some (.int .i64 ino) := HF.out.2.1.cell 2
      have q3 : V.cell? ⟨w.heap.size + 1, 3, none⟩ = some (.int .i64 kind) := HF.out.2.1.cell 3
      have q4 : V.cell? ⟨w.heap.size + 1, 4, none⟩ = some (.int .i64 links) := HF.out.2.1.cell 4
      have q5 : V.cell? ⟨w.heap.size + 1, 5, none⟩ = some (.string ⟨text.toArray⟩) := HF.out.2.1.cell 5
      have q6 : V.cell? ⟨w.heap.size + 1, 6, none⟩ = some (.slice A9 acc.length c9) := HF.out.2.1.cell 6
      have hT : takeNode l = (⟨ino, kind, links, text, acc⟩, s, 0) := by have := HF.out.2.2.2.2; rwa [if_pos rfl] at this
      have HTT := Lib.hid hT
      clear hT
      go_wp2_with fail
      go_region_held3 (fun U => U.cell? ⟨w.heap.size + 1, 0, none⟩ = some (.string ⟨s.toArray⟩) ∧ U.cell? ⟨w.heap.size + 1, 2, none⟩ = some (.int .i64 ino) ∧ U.cell? ⟨w.heap.size + 1, 3, none⟩ = some (.int .i64 kind) ∧ U.cell? ⟨w.heap.size + 1, 4, none⟩ = some (.int .i64 links) ∧ U.cell? ⟨w.heap.size + 1, 5, none⟩ = some (.string ⟨text.toArray⟩) ∧ U.cell? ⟨w.heap.size + 1, 6, none⟩ = some (.slice A9 acc.length c9)) (go_keep) (fail)
      all_goals
        go_wp2_with fail
        simp only [Exit.jump]
        refine bodyPost_ret (v := .tuple #[.agg #[.int .i64 ino, .int .i64 kind, .int .i64 links, .string ⟨text.toArray⟩, .slice A9 acc.length c9], .string ⟨s.toArray⟩, .int .i64 0]) (by simp [results, Try.results29, go_sem, g0, g1, g2, g3, g4]) rfl ⟨_, by rw [HTT.out] <;> rfl, ⟨A9, c9, by rw [HTT.out] <;> rfl, by rw [HTT.out]; exact Sl.frame (HF.out.2.2.1 rfl).1 (HF.out.2.2.1 rfl).2 (fun b hb hs => set5_far _ _ _ _ _ _ _ _ (Nat.ne_of_gt hb)) (set5_size _ _ _ _ _ _ _)⟩, set5_below HF.out.2.2.2.1 _ _ _ _ _, ?_⟩
        exact fun _ _ _ _ _ _ _ h => (by cases h; exact At.mono (HF.out.2.2.1 rfl).2 (fun b hb => Nat.le_of_lt hb))
    · have hne : (e == 0) = false := by simpa using he
      have HNE := Lib.hid he
      clear he
      have g0 : V.cell? ⟨w.heap.size, 0, none⟩ = some (.int .i64 0) := HF.out.1.cell 0
      have g1 : V.cell? ⟨w.heap.size, 1, none⟩ = some (.int .i64 0) := HF.out.1.cell 1
      have g2 : V.cell? ⟨w.heap.size, 2, none⟩ = some (.int .i64 0) := HF.out.1.cell 2
      have g3 : V.cell? ⟨w.heap.size, 3, none⟩ = some (.string ⟨#[]⟩) := HF.out.1.cell 3
      have g4 : V.cell? ⟨w.heap.size, 4, none⟩ = some (.slice none 0 0) := HF.out.1.cell 4
      have f0 := HF.out.1.free 0
      have f1 := HF.out.1.free 1
      have f2 := HF.out.1.free 2
      have f3 := HF.out.1.free 3
      have f4 := HF.out.1.free 4
      have q0 : V.cell? ⟨w.heap.size + 1, 0, none⟩ = some (.string ⟨s.toArray⟩) := HF.out.2.1.cell 0
      have q1 : V.cell? ⟨w.heap.size + 1, 1, none⟩ = some (.int .i64 e) := HF.out.2.1.cell 1
      have q2 : V.cell? ⟨w.heap.size + 1, 2, none⟩ = some (.int .i64 ino) := HF.out.2.1.cell 2
      have q3 : V.cell? ⟨w.heap.size + 1, 3, none⟩ = some (.int .i64 kind) := HF.out.2.1.cell 3
      have q4 : V.cell? ⟨w.heap.size + 1, 4, none⟩ = some (.int .i64 links) := HF.out.2.1.cell 4
      have q5 : V.cell? ⟨w.heap.size + 1, 5, none⟩ = some (.string ⟨text.toArray⟩) := HF.out.2.1.cell 5
      have q6 : V.cell? ⟨w.heap.size + 1, 6, none⟩ = some (sv) := HF.out.2.1.cell 6
      have hT : takeNode l = (nd0, [], e) := by have := HF.out.2.2.2.2; rwa [if_neg (HNE.out)] at this
      have HTT := Lib.hid hT
      clear hT
      go_wp2_with fail
      go_region_held3 (fun U => U.cell? ⟨w.heap.size + 1, 1, none⟩ = some (.int .i64 e)) (go_keep) (fail)
      all_goals
        go_wp2_with fail
        simp only [Exit.jump]
        refine bodyPost_ret (v := .tuple #[.agg #[.int .i64 0, .int .i64 0, .int .i64 0, .string ⟨#[]⟩, .slice none 0 0], .string ⟨#[]⟩, .int .i64 e]) (by simp [results, Try.results29, go_sem, g0, g1, g2, g3, g4]) rfl ⟨_, by rw [HTT.out] <;> rfl, ⟨none, 0, by rw [HTT.out] <;> rfl, by rw [HTT.out]; exact Ents.nil _⟩, set5_below HF.out.2.2.2.1 _ _ _ _ _, ?_⟩
        exact fun _ _ _ _ _ _ _ h => (by cases h; trivial)
end Go.Proofs.Ytgcjfhgkkgocpaa

namespace Go.Proofs.Ytgcjfhgkkgocpaa
open Go.RowKit Copyhold
theorem conv_after {w w' : World} {x : Int} {B : Nat} (hb : Below B ((w.alloc (.cells #[.int .u8 x] 5)).drew) w') (hB : w.heap.size < B) :
    (convert 102 9 (.slice (some ⟨w.heap.size, 0, none⟩) 1 1)).run Try.prog w' = .ok (.string ⟨[UInt8.ofNat x.toNat].toArray⟩) w' := by
  refine run_convert_own (xs := [x]) (base := 0) (n := 1) (e := 5) _ _ Try.underlying102 Try.underlying5 Try.underlying9 ⟨by simp, .inr ⟨w.heap.size, 1, #[.int .u8 x], rfl, Nat.zero_le _, ?_, Nat.le_refl _, by simp [maxLen], by simp, by simp⟩⟩
  rw [hb.block _ hB]
  exact heap_alloc_new w _
set_option maxRecDepth 100000 in
set_option maxHeartbeats 4000000 in
theorem ref_Num_aux (k : Nat) : ∀ (n : Int) (w : World), n < k → 0 ≤ n → n ≤ 18446744073709551615 →
    Calls Try.prog 51 #[.int .u64 n] w fun e w' => e = .returned (.string ⟨(numB n.toNat).toArray⟩) ∧ Below w.heap.size w w' := by
  induction k with
  | zero => intro n w h1 h2; omega
  | succ k ih =>
    intro n w hk h0 h1
    have IH := Lib.hid ih; clear ih
    by_cases hs : n < 128
    · have hcv : (convert 102 9 (.slice (some ⟨w.heap.size, 0, none⟩) 1 1)).run Try.prog (w.alloc (.cells #[.int .u8 n] 5)) = .ok (.string ⟨(numB n.toNat).toArray⟩) (w.alloc (.cells #[.int .u8 n] 5)) := by
        rw [numB_small (by omega)]
        exact run_convert_own (xs := [n]) _ _ Try.underlying102 Try.underlying5 Try.underlying9 (owns_built (base := 0) #[.int .u8 n] (Nat.zero_le _) (by simp [maxLen]))
      go_enter Try.func51, Try.ntmps51
      go_wp2_with fail
      go_ret
      exact ⟨rfl, (Below.refl _ _).alloc (Nat.le_refl _) _⟩
    · go_enter Try.func51, Try.ntmps51
      go_wp2_with fail
      have hcv1 : ∀ (x : Int) (W : World), (convert 102 9 (.slice (some ⟨W.heap.size, 0, none⟩) 1 1)).run Try.prog (W.alloc (.cells #[.int .u8 x] 5)).drew = .ok (.string ⟨[UInt8.ofNat x.toNat].toArray⟩) (W.alloc (.cells #[.int .u8 x] 5)).drew :=
        fun x W => run_convert_own (xs := [x]) _ _ Try.underlying102 Try.underlying5 Try.underlying9 (owns_built (w := W) (base := 0) #[.int .u8 x] (Nat.zero_le _) (by simp [maxLen])).drew
      have hcv2 : ∀ (x : Int) (W : World), (convert 102 9 (.slice (some ⟨W.heap.size, 0, none⟩) 1 1)).run Try.prog (W.alloc (.cells #[.int .u8 x] 5)) = .ok (.string ⟨[UInt8.ofNat x.toNat].toArray⟩) (W.alloc (.cells #[.int .u8 x] 5)) :=
        fun x W => run_convert_own (xs := [x]) _ _ Try.underlying102 Try.underlying5 Try.underlying9 (owns_built (w := W) (base := 0) #[.int .u8 x] (Nat.zero_le _) (by simp [maxLen]))
      have e1 : IntKind.u64.wrap (n.tdiv 128) = n / 128 := by
        rw [Int.tdiv_eq_ediv_of_nonneg h0]
        simp only [IntKind.wrap, IntKind.bits, IntKind.signed]
        have : n / 128 % 18446744073709551616 = n / 128 := by omega
        simpa using this
      have e2 : IntKind.u8.wrap (IntKind.u64.wrap (n.tmod 128 + 128)) = n % 128 + 128 := by
        rw [Int.tmod_eq_emod_of_nonneg h0]
        simp only [IntKind.wrap, IntKind.bits, IntKind.signed]
        have : (n % 128 + 128) % 18446744073709551616 % 256 = n % 128 + 128 := by omega
        simpa using this
      have hle := numB_len10 (n / 128).toNat (by omega)
      have hfin : UInt8.ofNat (n % 128 + 128).toNat :: numB (n / 128).toNat = numB n.toNat := by
        rw [numB_big (n := n.toNat) (by omega), show (n % 128 + 128).toNat = n.toNat % 128 + 128 from by omega, show (n / 128).toNat = n.toNat / 128 from by omega]
      have HF := Lib.hid hfin
      clear hfin
      go_region_with (go_at_call 51; refine (IH.out (n / 128) _ (by omega) (by omega) (by omega)).mono ?_; rintro e w' ⟨rfl, hb⟩; (try (have hcv3 := conv_after hb (by simp))))
      all_goals
        go_wp2_with fail
        go_ret
        refine ⟨by rw [← HF.out]; rfl, ?_⟩
        first
          | exact ((Below.refl w.heap.size w).alloc (Nat.le_refl _) _).drew.trans (hb.mono (by simp))
          | exact ((Below.refl w.heap.size w).drew.trans hb).alloc hb.size _
theorem ref_Num (n : Int) (w : World) (h0 : 0 ≤ n) (h1 : n ≤ 18446744073709551615) :
    Calls Try.prog 51 #[.int .u64 n] w fun e w' => e = .returned (.string ⟨(numB n.toNat).toArray⟩) ∧ Below w.heap.size w w' :=
  ref_Num_aux (n.toNat + 1) n w (by omega) h0 h1
theorem ref_Unfold (n : Int) (w : World) (h1 : 0 ≤ n) (h2 : n ≤ 18446744073709551615) :
    Calls Try.prog 50 #[.int .u64 n] w fun e w' => e = .returned (.int .i64 (unfoldN n)) ∧ w = w' := by
  by_cases h : n % 2 = 1
  · go_enter Try.func50, Try.ntmps50
    go_wp2
    go_ret
    exact ⟨ret_int (by rw [unfoldN, if_pos h]), rfl⟩
  · have h0 : n % 2 = 0 := by omega
    go_enter Try.func50, Try.ntmps50
    go_wp2
    go_ret
    exact ⟨ret_int (by rw [unfoldN, if_neg (by omega)]), rfl⟩
end Go.Proofs.Ytgcjfhgkkgocpaa
