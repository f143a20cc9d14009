/- data.filled, data.Write, data.Cut: they answer as the document says; old memory is as it was. Texts and names as data: data.Read, Write, Cut; name.Names; node.Size. The deeds of calls. -/
import Derived.Test.YtkhnialfkndiiaaGreatMrgW
import Derived.Test.YtkhnialfkndiiaaGreatMrgU
set_option maxRecDepth 100000
namespace Go.Proofs.YtkhnialfkndiiaaGreat
open Go.RowKit Copyhold
attribute [local go_sem] piece
def fillD (l : List UInt8) (n : Nat) : List UInt8 := l.take n ++ List.replicate (n - l.length) 0
theorem fillD_length (l : List UInt8) (n : Nat) : (fillD l n).length = n := by
  simp [fillD]
  omega
def BytesAt (w : World) (g : Nat) (l : List UInt8) : Prop := w.heap[g]? = some (.cells (Lib.byteCells l).toArray 5 (0, 0))
theorem run_make_bytes (w : World) (n : Nat) (hn : n ≤ 140737488355328) : (Instr.makeSlice 144 (.int .i64 (n : Int)) (.int .i64 (n : Int))).run Tryz.prog w = .ok (.slice (some ⟨w.heap.size, 0, none⟩) n n) (w.alloc (.cells (Lib.byteCells (List.replicate n 0)).toArray 5)) := by
  have h := run_make (P := Tryz.prog) w 144 5 _ (.int .u8 0) rfl rfl rfl .i64 .i64 (n : Int) (n : Int) (by omega) (by omega) (by show (1 : Int) * _ ≤ _; omega) (by omega)
  rw [madeBytes, show (Tryz.prog.types[5]'(by decide)).size = 1 from rfl, Nat.mul_one, Int.toNat_natCast] at h
  exact h
set_option maxHeartbeats 1000000 in
theorem data_filled (l : List UInt8) (n : Nat) (w : World) (_hl : l.length ≤ 140737488355328) (hn : n ≤ 140737488355328) :
    Calls Tryz.prog 136 #[.string ⟨l.toArray⟩, .int .i64 n] w fun e w' => e = .returned (.slice (some ⟨w.heap.size, 0, none⟩) n n) ∧ BytesAt w' w.heap.size (fillD l n) ∧ Below w.heap.size w w' := by
  have hmk := run_make_bytes w n hn
  have hb := (Below.refl w.heap.size w).alloc (Nat.le_refl _) (.cells (Lib.byteCells (List.replicate n 0)).toArray 5)
  have hg := heap_alloc_new w (.cells (Lib.byteCells (List.replicate n 0)).toArray 5)
  obtain ⟨W, hW⟩ : ∃ W, W = w.alloc (.cells (Lib.byteCells (List.replicate n 0)).toArray 5) := ⟨_, rfl⟩
  rw [← hW] at hmk hb hg
  have hcp := run_copy_text (P := Tryz.prog) W 144 9 3 5 w.heap.size 0 n n l (List.replicate n 0) 5 rfl rfl hg (by simp)
  have hf : (List.replicate n (0 : UInt8)).take 0 ++ l.take n ++ (List.replicate n 0).drop (0 + l.length) = fillD l n := by simp [fillD]
  rw [hf] at hcp
  have HB := Lib.hid hb
  have HG := Lib.hid hg
  clear hb hg hf hW
  go_enter Tryz.func136, Tryz.ntmps136
  go_wp2_with fail
  go_ret
  exact ⟨rfl, setRow_heap _ _ _ _ _ _ HG.out, below_setRow HB.out (Nat.le_refl _) _⟩
def cutD (l : List UInt8) (n : Int) : List UInt8 × Int := if refusedD 0 n = 0 then (fillD l n.toNat, 0) else (l, refusedD 0 n)
theorem run_bytes_back {w : World} {g : Nat} {l : List UInt8} (h : BytesAt w g l) : (convert 144 9 (.slice (some ⟨g, 0, none⟩) l.length l.length)).run Tryz.prog w = .ok (.string ⟨l.toArray⟩) w :=
  run_convert_bytes_back w _ _ 5 _ _ l rfl rfl rfl fun j hj => by
    have hadd : (⟨g, 0, none⟩ : Addr).add j = ⟨g, j, none⟩ := by unfold Addr.add; split <;> simp_all
    rw [hadd]
    simp only [World.cell?, show w.heap[g]? = some (.cells (Lib.byteCells l).toArray 5 (0, 0)) from h]
    simp [Lib.byteCells, hj]
set_option maxHeartbeats 1000000 in
theorem data_Cut (l : List UInt8) (n : Int) (w : World) (hl : l.length ≤ 140737488355328) (h1 : -9223372036854775808 ≤ n) (h2 : n ≤ 9223372036854775807) :
    Calls Tryz.prog 112 #[.string ⟨l.toArray⟩, .int .i64 n] w fun e w' => e = .returned (.tuple #[.string ⟨(cutD l n).1.toArray⟩, .int .i64 (cutD l n).2]) ∧ Below w.heap.size w w' := by
  by_cases h : refusedD 0 n = 0
  · have hn : 0 ≤ n ∧ n ≤ 4096 := by
      unfold refusedD at h
      split at h
      · split at h <;> omega
      · cases h
    have hc : cutD l n = (fillD l n.toNat, 0) := if_pos h
    obtain ⟨n, rfl⟩ := Int.eq_ofNat_of_zero_le hn.1
    rw [Int.toNat_natCast] at hc
    have HR := Lib.hid h
    have HC := Lib.hid hc
    clear h hc h1
    go_enter Tryz.func112, Tryz.ntmps112
    go_wp2_with fail
    refine (data_refused 0 n _ (by decide) (by decide) (by omega) (by omega)).mono ?_
    rintro e w1 ⟨rfl, rfl⟩
    rw [HR.out]
    go_wp2_with fail
    refine (data_filled l n _ hl (by omega)).mono ?_
    rintro e w1 ⟨rfl, hb1, hb⟩
    have hk := run_bytes_back hb1
    rw [fillD_length] at hk
    go_wp2_with fail
    go_ret2
    exact ⟨by rw [HC.out]; rfl, hb⟩
  · have hc : cutD l n = (l, refusedD 0 n) := if_neg h
    obtain ⟨z, hz⟩ : ∃ z, z = refusedD 0 n := ⟨_, rfl⟩
    rw [← hz] at h hc
    have HZ := Lib.hid hz
    have HC := Lib.hid hc
    have hq : (z == 0) = false := by simpa using h
    clear hc hz h
    go_enter Tryz.func112, Tryz.ntmps112
    go_wp2_with fail
    refine (data_refused 0 n _ (by decide) (by decide) h1 h2).mono ?_
    rintro e w1 ⟨rfl, rfl⟩
    rw [← HZ.out]
    go_wp2_with fail
    go_ret2
    exact ⟨by rw [HC.out]; rfl, Below.refl _ _⟩
def putD (l : List UInt8) (a : Nat) (t : List UInt8) : List UInt8 :=
  (fillD l (max l.length (a + t.length))).take a ++ t ++ (fillD l (max l.length (a + t.length))).drop (a + t.length)
def writeD (l : List UInt8) (a : Int) (t : List UInt8) : List UInt8 × Int :=
  if refusedD a t.length = 0 then (if t = [] then l else putD l a.toNat t, 0) else (l, refusedD a t.length)
theorem refusedD_zero {a b : Int} (h : refusedD a b = 0) : 0 ≤ a ∧ 0 ≤ b ∧ a + b ≤ 4096 := by
  unfold refusedD at h
  split at h
  · split at h <;> omega
  · cases h
theorem putD_length (l : List UInt8) (a : Nat) (t : List UInt8) : (putD l a t).length = max l.length (a + t.length) := by
  unfold putD
  simp [fillD_length]
  omega
set_option maxHeartbeats 1000000 in
theorem data_Write (l : List UInt8) (a : Int) (t : List UInt8) (w : World) (hl : l.length ≤ 140737488355328) (ht : t.length ≤ 140737488355328) (h1 : -9223372036854775808 ≤ a) (h2 : a ≤ 9223372036854775807) :
    Calls Tryz.prog 111 #[.string ⟨l.toArray⟩, .int .i64 a, .string ⟨t.toArray⟩] w fun e w' => e = .returned (.tuple #[.string ⟨(writeD l a t).1.toArray⟩, .int .i64 (writeD l a t).2]) ∧ Below w.heap.size w w' := by
  by_cases h : refusedD a t.length = 0
  · have hn := refusedD_zero h
    obtain ⟨a, rfl⟩ := Int.eq_ofNat_of_zero_le hn.1
    rcases Classical.em (t = []) with rfl | h0
    · have hc : writeD l a [] = (l, 0) := by unfold writeD; rw [if_pos h, if_pos rfl]
      have HR := Lib.hid h
      have HC := Lib.hid hc
      clear h hc h1 hn
      go_enter Tryz.func111, Tryz.ntmps111
      go_wp2_with fail
      refine (data_refused a 0 _ (by omega) (by omega) (by decide) (by decide)).mono ?_
      rintro e w1 ⟨rfl, rfl⟩
      rw [show refusedD a 0 = 0 from HR.out]
      go_wp2_with fail
      go_ret2
      exact ⟨by rw [HC.out]; rfl, Below.refl _ _⟩
    · have hc : writeD l a t = (putD l a t, 0) := by unfold writeD; rw [if_pos h, if_neg h0, Int.toNat_natCast]
      have hm : ∃ m : Nat, m = max l.length (a + t.length) := ⟨_, rfl⟩
      obtain ⟨m, hm⟩ := hm
      have hp : putD l a t = (fillD l m).take a ++ t.take (m - a) ++ (fillD l m).drop (a + t.length) := by
        unfold putD
        rw [hm, List.take_of_length_le (l := t) (by omega)]
      have hs : (⟨t.toArray⟩ : ByteArray) ≠ ⟨#[]⟩ := fun e => h0 (by simpa using congrArg (fun x : ByteArray => x.data.toList) e)
      have HR := Lib.hid h
      have HC := Lib.hid hc
      have HP := Lib.hid hp
      have HM := Lib.hid hm
      have hpl := putD_length l a t
      rw [← hm] at hpl
      have HL := Lib.hid hpl
      have hmm : (max (l.length : Int) ((a : Int) + t.length)) = m := by omega
      have htp : 0 < t.length := List.length_pos_iff.2 h0
      have ham : a < m := by omega
      have hie : t.isEmpty = false := by simpa using h0
      have hmb : m ≤ 140737488355328 := by omega
      clear h hc h1 hp hm hpl
      go_enter Tryz.func111, Tryz.ntmps111
      go_wp2_with fail
      refine (data_refused a t.length _ (by omega) (by omega) (by omega) (by omega)).mono ?_
      rintro e w1 ⟨rfl, rfl⟩
      rw [HR.out]
      go_wp2_with fail
      · have hmq : (a : Int) + t.length = m := by have := HM.out; omega
        rw [hmq]
        refine (data_filled l m _ hl hmb).mono ?_
        rintro e w1 ⟨rfl, hb1, hb⟩
        have hcp := run_copy_text (P := Tryz.prog) w1 144 9 3 5 w.heap.size a (m - a) (m - a) t (fillD l m) 5 rfl rfl hb1 (by rw [fillD_length]; omega)
        rw [← HP.out] at hcp
        have hb2 : BytesAt (w1.setRow w.heap.size (Lib.byteCells (putD l a t)).toArray) w.heap.size (putD l a t) := setRow_heap _ _ _ _ _ _ hb1
        have hb3 := below_setRow hb (Nat.le_refl _) (Lib.byteCells (putD l a t)).toArray
        obtain ⟨W, hW⟩ : ∃ W, W = w1.setRow w.heap.size (Lib.byteCells (putD l a t)).toArray := ⟨_, rfl⟩
        rw [← hW] at hcp hb2 hb3
        have hk := run_bytes_back hb2
        rw [HL.out] at hk
        clear hW
        go_wp2_with fail
        go_ret2
        exact ⟨by rw [HC.out]; rfl, hb3⟩
      · have hmq : (l.length : Int) = m := by have := HM.out; omega
        rw [hmq]
        refine (data_filled l m _ hl hmb).mono ?_
        rintro e w1 ⟨rfl, hb1, hb⟩
        have hcp := run_copy_text (P := Tryz.prog) w1 144 9 3 5 w.heap.size a (m - a) (m - a) t (fillD l m) 5 rfl rfl hb1 (by rw [fillD_length]; omega)
        rw [← HP.out] at hcp
        have hb2 : BytesAt (w1.setRow w.heap.size (Lib.byteCells (putD l a t)).toArray) w.heap.size (putD l a t) := setRow_heap _ _ _ _ _ _ hb1
        have hb3 := below_setRow hb (Nat.le_refl _) (Lib.byteCells (putD l a t)).toArray
        obtain ⟨W, hW⟩ : ∃ W, W = w1.setRow w.heap.size (Lib.byteCells (putD l a t)).toArray := ⟨_, rfl⟩
        rw [← hW] at hcp hb2 hb3
        have hk := run_bytes_back hb2
        rw [HL.out] at hk
        clear hW
        go_wp2_with fail
        go_ret2
        exact ⟨by rw [HC.out]; rfl, hb3⟩
  · have hc : writeD l a t = (l, refusedD a t.length) := if_neg h
    obtain ⟨z, hz⟩ : ∃ z, z = refusedD a t.length := ⟨_, rfl⟩
    rw [← hz] at h hc
    have HZ := Lib.hid hz
    have HC := Lib.hid hc
    have hq : (z == 0) = false := by simpa using h
    clear hc hz h
    go_enter Tryz.func111, Tryz.ntmps111
    go_wp2_with fail
    refine (data_refused a t.length _ h1 h2 (by omega) (by omega)).mono ?_
    rintro e w1 ⟨rfl, rfl⟩
    rw [← HZ.out]
    go_wp2_with fail
    go_ret2
    exact ⟨by rw [HC.out]; rfl, Below.refl _ _⟩
end Go.Proofs.YtkhnialfkndiiaaGreat

set_option linter.unusedVariables false
set_option linter.unusedSimpArgs false
namespace Go.Proofs.YtkhnialfkndiiaaGreat
open Go Go.RowKit Copyhold
theorem ra3 {D : Nat → Prop} {w : World} {x y z : AV} {vs : Array Value} (h : RaAll D w [x, y, z] vs) : ∃ u v t, vs = #[u, v, t] ∧ Ra D w x u ∧ Ra D w y v ∧ Ra D w z t := by
  obtain ⟨h1, h2⟩ := h
  match vs, h1 with
  | ⟨[u, v, t]⟩, _ => exact ⟨u, v, t, rfl, h2 0 x u rfl rfl, h2 1 y v rfl rfl, h2 2 z t rfl rfl⟩
theorem dread_spec (s : Txt) (a b : Int) (hs : s.length ≤ 1000000) (ha : I64 a) (hb : I64 b) : FSpec Tryz.prog 110 [aS s, aI a, aI b] (.tup [aS (readD s a b).1, aI (readD s a b).2]) := fspec_plain (tup2_ra _ _) fun D w vs h => by
  obtain ⟨u, v, t, rfl, hu, hv, ht⟩ := ra3 h
  cases hu; cases hv; cases ht
  exact (data_Read s a b w (by omega) ha.1 ha.2 hb.1 hb.2).mono fun e w' ⟨g1, g2⟩ => ⟨g1, g2 ▸ Below.refl _ _⟩
theorem dwrite_spec (s : Txt) (a : Int) (t : Txt) (hs : s.length ≤ 1000000) (ha : I64 a) (ht : t.length ≤ 1000000) : FSpec Tryz.prog 111 [aS s, aI a, aS t] (.tup [aS (writeD s a t).1, aI (writeD s a t).2]) := fspec_plain (tup2_ra _ _) fun D w vs h => by
  obtain ⟨u, v, x, rfl, hu, hv, hx⟩ := ra3 h
  cases hu; cases hv; cases hx
  exact data_Write s a t w (by omega) (by omega) ha.1 ha.2
theorem dcut_spec (s : Txt) (n : Int) (hs : s.length ≤ 1000000) (hn : I64 n) : FSpec Tryz.prog 112 [aS s, aI n] (.tup [aS (cutD s n).1, aI (cutD s n).2]) := fspec_plain (tup2_ra _ _) fun D w vs h => by
  obtain ⟨u, v, rfl, hu, hv⟩ := RaAll.two h
  cases hu; cases hv
  exact data_Cut s n w (by omega) hn.1 hn.2
theorem dnames_spec (l : List Ent) (hl : l.length ≤ 1000000) : FSpec Tryz.prog 89 [.sl 2 false (l.map entA)] (.sl 1 false ((l.map Ent.name).map txA)) := by
  intro D w vs hD hv
  obtain ⟨u, rfl, hu⟩ := RaAll.one hv
  obtain ⟨A, c, rfl, he⟩ := ents_of_ra hu
  refine (callsIn_wide.1 (Names_in 3 (Nat.le_refl _) A c (lI l) (by rw [lI_len]; exact hl) w he)).mono ?_
  rintro e w' ⟨v, rfl, hown, hb⟩
  have hrow := Row.of_owns hown
  have e1 : (lI l).map (fun x => strV x.1) = (l.map Ent.name).map strV := by simp [lI]
  rw [e1] at hrow
  refine ⟨v, fun b => D b ∨ (w.heap.size ≤ b ∧ b < w'.heap.size), rfl, hb, fun b h => .inl h, fun b h => ?_, texts_ra hrow (at_both (At.of_owns hown) hrow.lies fun b h1 h2 => .inr ⟨h1, h2⟩)⟩
  rcases h with h | ⟨h1, h2⟩
  · exact ⟨Nat.lt_of_lt_of_le (hD b h) hb.size, .inl h⟩
  · exact ⟨h2, .inr h1⟩
def sizeN (n : Nod) : Int := if n.kind = 2 then (n.l.length : Int) else (n.text.length : Int)
structure Cal where
  kind : Int
  ino : Int
  to : Int
  at_ : Int
  many : Int
  name : Txt
  name2 : Txt
  text : Txt
structure Rep where
  e : Int
  a : Int
  b : Int
  n : Int
  text : Txt
  names : List Txt
  deriving DecidableEq
def calA (c : Cal) : List AV := [aI c.kind, aI c.ino, aI c.to, aI c.at_, aI c.many, aS c.name, aS c.name2, aS c.text]
def repA (r : Rep) : List AV := [aI r.e, aI r.a, aI r.b, aI r.n, aS r.text, .sl 1 false (r.names.map txA)]
def errR (e : Int) : Rep := ⟨e, 0, 0, 0, [], []⟩
structure OkCal (c : Cal) : Prop where
  kind : I64 c.kind
  ino : I64 c.ino
  to : I64 c.to
  at_ : I64 c.at_
  many : I64 c.many
  name : c.name.length ≤ 1000000
  name2 : c.name2.length ≤ 1000000
  text : c.text.length ≤ 1000000
set_option maxRecDepth 100000 in
set_option maxHeartbeats 4000000 in
theorem size_spec (n : Nod) : FSpec Tryz.prog 109 [.agg [aI n.ino, aI n.kind, aI n.links, aS n.text, .sl 2 false (n.l.map entA)]] (aI (sizeN n)) := by
  exact spec_vc (F := Tryz.f109) 400 (
 .new fun b1 => .r 1 <| .run 3 [b1 = b1] ⟨rfl, trivial⟩ <|
 .br 5 (n.kind == 2) (fun q1 => have p1 := beqT q1; .run 3 [b1 = b1] ⟨rfl, trivial⟩ <|
 .val 8 (show (aI ((n.l.map entA).length : Int) : AV) = aI (n.l.length : Int) from by rw [List.length_map]) <| .r 1 <| .fin (x := aI (n.l.length : Int)) (r := aI (sizeN n)) [] trivial (by exact Sub.of_eq (congrArg aI (by unfold sizeN; simp_all))))
 <| fun q1 => have p1 := beqF q1; .run 4 [b1 = b1] ⟨rfl, trivial⟩ <|
 .fin (x := aI ((n.text).length : Int)) (r := aI (sizeN n)) [] trivial (by exact Sub.of_eq (congrArg aI (by unfold sizeN; simp_all)))) Tryz.func109 rfl (by kernel_rfl) (by kernel_rfl)
end Go.Proofs.YtkhnialfkndiiaaGreat

set_option linter.unusedVariables false
set_option linter.unusedSimpArgs false
namespace Go.Proofs.YtkhnialfkndiiaaGreat
open Go Go.RowKit Copyhold
def ofE (f : Fsy) (i k : Int) : Int := if findB f i = true then (if (findN f i).kind = k then 0 else 14) else 6
def ofN (f : Fsy) (i k : Int) : Nod := if ofE f i k = 0 then findN f i else nod0
def withT (n : Nod) (t : Txt) : Nod := ⟨n.ino, n.kind, n.links, t, n.l⟩
noncomputable def lookD (f : Fsy) (c : Cal) : Fsy × Rep := (f, ⟨lookE f c.ino c.name, (lookN f c.ino c.name).ino, 0, 0, [], []⟩)
def statD (f : Fsy) (c : Cal) : Fsy × Rep := if findB f c.ino = true then (f, ⟨0, (findN f c.ino).kind, (findN f c.ino).links, sizeN (findN f c.ino), [], []⟩) else (f, errR 6)
def readO (f : Fsy) (c : Cal) : Fsy × Rep := if ofE f c.ino 1 = 0 then (f, ⟨(readD (findN f c.ino).text c.at_ c.many).2, 0, 0, 0, (readD (findN f c.ino).text c.at_ c.many).1, []⟩) else (f, errR (ofE f c.ino 1))
def writeO (f : Fsy) (c : Cal) : Fsy × Rep := if ofE f c.ino 1 = 0 then (putF f (withT (findN f c.ino) (writeD (findN f c.ino).text c.at_ c.text).1), ⟨(writeD (findN f c.ino).text c.at_ c.text).2, (c.text.length : Int), 0, 0, [], []⟩) else (f, errR (ofE f c.ino 1))
def cutO (f : Fsy) (c : Cal) : Fsy × Rep := if ofE f c.ino 1 = 0 then (putF f (withT (findN f c.ino) (cutD (findN f c.ino).text c.many).1), errR (cutD (findN f c.ino).text c.many).2) else (f, errR (ofE f c.ino 1))
noncomputable def addO (f : Fsy) (c : Cal) (n : Nod) : Fsy × Rep := (if addErr f c.ino c.name n = 0 then addF f c.ino c.name (addN f n) else f, ⟨addErr f c.ino c.name n, f.next, 0, 0, [], []⟩)
noncomputable def symO (f : Fsy) (c : Cal) : Fsy × Rep := if (c.text.length : Int) > 4096 then (f, errR 5) else addO f c ⟨0, 3, 0, c.text, []⟩
noncomputable def takeO (f : Fsy) (c : Cal) (dir : Bool) (odd : Int) : Fsy × Rep :=
  if lookE f c.ino c.name = 0 then (if (((lookN f c.ino c.name).kind == 2) != dir) = true then (f, errR odd) else (takeF f c.ino c.name, errR (takeErr f c.ino c.name))) else (f, errR (lookE f c.ino c.name))
noncomputable def linkO (f : Fsy) (c : Cal) : Fsy × Rep := (giveF f c.ino c.name c.to, errR (giveErr f c.ino c.name c.to))
noncomputable def renO (f : Fsy) (c : Cal) : Fsy × Rep := (movF f c.ino c.name c.to c.name2, errR (movErr f c.ino c.name c.to c.name2))
def rlnkO (f : Fsy) (c : Cal) : Fsy × Rep := (f, ⟨ofE f c.ino 3, 0, 0, 0, (ofN f c.ino 3).text, []⟩)
def rdirO (f : Fsy) (c : Cal) : Fsy × Rep := (f, ⟨dirE f c.ino, 0, 0, 0, [], (dirN f c.ino).l.map Ent.name⟩)
def txtS (l : List Nod) : Nat := (l.map fun n => n.text.length).sum
def sfsO (f : Fsy) : Fsy × Rep := (f, ⟨0, (f.l.length : Int), (txtS f.l : Int), 0, [], []⟩)
theorem ofE_6 {f : Fsy} {i k : Int} (h : findB f i = false) : ofE f i k = 6 ∧ ofN f i k = nod0 := by
  have e : ofE f i k = 6 := by unfold ofE; rw [h]; rfl
  exact ⟨e, by unfold ofN; rw [e]; rfl⟩
theorem ofE_14 {f : Fsy} {i k : Int} (h : findB f i = true) (h2 : ¬ (findN f i).kind = k) : ofE f i k = 14 ∧ ofN f i k = nod0 := by
  have e : ofE f i k = 14 := by unfold ofE; rw [if_pos h, if_neg h2]
  exact ⟨e, by unfold ofN; rw [e]; rfl⟩
theorem ofE_0 {f : Fsy} {i k : Int} (h : findB f i = true) (h2 : (findN f i).kind = k) : ofE f i k = 0 ∧ ofN f i k = findN f i := by
  have e : ofE f i k = 0 := by unfold ofE; rw [if_pos h, if_pos h2]
  exact ⟨e, by unfold ofN; rw [e]; rfl⟩
theorem of_yes {f : Fsy} {i k : Int} (h : ofE f i k = 0) : ofN f i k = findN f i := if_pos h
theorem rep_sub (e a b n : Int) (t : Txt) : Sub (.agg [aI e, aI a, aI b, aI n, aS t, aN]) (.agg (repA ⟨e, a, b, n, t, []⟩)) := Sub.aggs ⟨Sub.refl _, Sub.refl _, Sub.refl _, Sub.refl _, Sub.refl _, Sub.nil _ _, trivial⟩
theorem txt_len {f : Fsy} (hp : rowsP f) (i : Int) : (findN f i).text.length ≤ 4096 := by
  by_cases h : findB f i = true
  · rcases ((rowsP_iff.1 hp).2.2.1 _ (find_mem h)).1.2.2.2 with ⟨_, h1, _⟩ | ⟨_, h1, _⟩
    · rw [h1]; decide
    · exact h1
  · rw [(at_no (at_none (by simpa using h))).2]; decide
theorem txt_lenN {f : Fsy} (hp : rowsP f) {n : Nod} (hn : n ∈ f.l) : n.text.length ≤ 4096 := by
  rcases ((rowsP_iff.1 hp).2.2.1 _ hn).1.2.2.2 with ⟨_, h1, _⟩ | ⟨_, h1, _⟩
  · rw [h1]; decide
  · exact h1
set_option maxRecDepth 100000 in
set_option maxHeartbeats 4000000 in
theorem of_spec (f : Fsy) (i k : Int) (hp : rowsP f) : FSpec Tryz.prog 87 [.agg [.sl 5 false (f.l.map nodA), aI f.next], aI i, aI k] (.tup [.agg (nodA (ofN f i k)), aI (ofE f i k)]) := by
  have hl := hp.1
  have hr := rows_rise hp
  exact spec_vc (F := Tryz.f87) 400 (
 .new fun b1 => .new fun b2 => .r 1 <| .run 2 [b1 = b1] ⟨rfl, trivial⟩ <|
 .call (tfind_spec f i (by omega) hr) <|
 .r 3 <| .new fun b3 => .run 2 [b3 = b3] ⟨rfl, trivial⟩ <|
 .r 2 <| .br 17 (!(findB f i)) (fun q1 => have q1 := notT q1; have p1 := booF q1; .run 3 [b2 = b2] ⟨rfl, trivial⟩ <|
 .fin (x := .tup [.agg [aI 0, aI 0, aI 0, aS ([]), aN], aI 6]) (r := .tup [.agg (nodA (ofN f i k)), aI (ofE f i k)]) [b2 = b2] ⟨rfl, trivial⟩ (by
    obtain ⟨e1, e2⟩ := ofE_6 (k := k) q1
    exact Sub.tups ⟨nod0_sub e2, Sub.of_eq (congrArg aI e1.symm), trivial⟩))
 <| fun q1 => have q1 := notF q1; have p1 := booT q1; .run 4 [b3 = b3] ⟨rfl, trivial⟩ <|
 .br 22 (((findN f i).kind) != k) (fun q2 => have p2 := bneT q2; .run 3 [b2 = b2] ⟨rfl, trivial⟩ <|
 .fin (x := .tup [.agg [aI 0, aI 0, aI 0, aS ([]), aN], aI 14]) (r := .tup [.agg (nodA (ofN f i k)), aI (ofE f i k)]) [b2 = b2] ⟨rfl, trivial⟩ (by
    obtain ⟨e1, e2⟩ := ofE_14 q1 (bneT q2)
    exact Sub.tups ⟨nod0_sub e2, Sub.of_eq (congrArg aI e1.symm), trivial⟩))
 <| fun q2 => have p2 := bneF q2; .run 3 [b3 = b3, b2 = b2] ⟨rfl, rfl, trivial⟩ <|
 .fin (x := .tup [.agg [aI ((findN f i).ino), aI ((findN f i).kind), aI ((findN f i).links), aS ((findN f i).text), .sl 2 false ((findN f i).l.map entA)], aI 0]) (r := .tup [.agg (nodA (ofN f i k)), aI (ofE f i k)]) [b2 = b2] ⟨rfl, trivial⟩ (by
    obtain ⟨e1, e2⟩ := ofE_0 q1 (bneF q2)
    rw [e1, e2]
    exact Sub.refl _)) Tryz.func87 rfl (by kernel_rfl) (by kernel_rfl)
set_option maxRecDepth 100000 in
set_option maxHeartbeats 4000000 in
theorem dlook_spec (f : Fsy) (c : Cal) (okf : OkF f) (okc : OkCal c) (hp : rowsP f) : FSpec Tryz.prog 70 [.agg [.sl 5 false (f.l.map nodA), aI f.next], .agg [aI c.kind, aI c.ino, aI c.to, aI c.at_, aI c.many, aS c.name, aS c.name2, aS c.text]] (.tup [.agg (fsyA (lookD f c).1), .agg (repA (lookD f c).2)]) := by
  have hl := hp.1
  have hr := rows_rise hp
  have hcn := okc.name
  have hcn2 := okc.name2
  have hct := okc.text
  exact spec_vc (F := Tryz.f70) 400 (
 .new fun b1 => .new fun b2 => .new fun b3 => .new fun b4 => .run 5 [b1 = b1, b2 = b2, b2 = b2] ⟨rfl, rfl, rfl, trivial⟩ <|
 .call (look_spec f c.ino c.name hp hcn) <|
 .r 3 <| .new fun b5 => .run 2 [b5 = b5] ⟨rfl, trivial⟩ <|
 let J1 : Jn (Unit) := ⟨fun j1 => ⟨[(4, .ptr 4 b3 0), (5, .ptr 5 b4 0)], [(4, .box b3 24 [.sl 5 false (f.l.map nodA), aI f.next]), (5, .box b4 30 [aI (lookE f c.ino c.name), aI ((lookN f c.ino c.name).ino), aI 0, aI 0, aS ([]), aN])]⟩, fun _ => True⟩
 .cut J1 (.pick [0, 1, 2] <| .run 3 [b1 = b1] ⟨rfl, trivial⟩ <|
 .fork <| .alt (.run 1 [b5 = b5] ⟨rfl, trivial⟩ <|
 .pick [4, 5, 6] <| .run 3 [b3 = b3, b4 = b4] ⟨rfl, rfl, trivial⟩ <|
 .join J1 () trivial ⟨[(4, .ptr 4 b3 0), (5, .ptr 5 b4 0)], [(4, .box b3 24 [.sl 5 false (f.l.map nodA), aI f.next]), (5, .box b4 30 [aI (lookE f c.ino c.name), aI ((lookN f c.ino c.name).ino), aI 0, aI 0, aS ([]), aN])]⟩ ⟨Sub.refl _, Sub.refl _, trivial⟩ ⟨⟨_, rfl, SubB.refl _⟩, ⟨_, rfl, SubB.refl _⟩, trivial⟩)
 <| .run 1 [b3 = b3] ⟨rfl, trivial⟩ <|
 .pick [3, 4, 6] <| .run 3 [b5 = b5, b4 = b4] ⟨rfl, rfl, trivial⟩ <|
 .join J1 () trivial ⟨[(4, .ptr 4 b3 0), (5, .ptr 5 b4 0)], [(4, .box b3 24 [.sl 5 false (f.l.map nodA), aI f.next]), (5, .box b4 30 [aI (lookE f c.ino c.name), aI ((lookN f c.ino c.name).ino), aI 0, aI 0, aS ([]), aN])]⟩ ⟨Sub.refl _, Sub.refl _, trivial⟩ ⟨⟨_, rfl, SubB.refl _⟩, ⟨_, rfl, SubB.refl _⟩, trivial⟩)
 <| fun _ _ => .fin (x := .tup [.agg [.sl 5 false (f.l.map nodA), aI f.next], .agg [aI (lookE f c.ino c.name), aI ((lookN f c.ino c.name).ino), aI 0, aI 0, aS ([]), aN]]) (r := .tup [.agg (fsyA (lookD f c).1), .agg (repA (lookD f c).2)]) [b3 = b3, b4 = b4] ⟨rfl, rfl, trivial⟩ (by exact Sub.tups ⟨Sub.refl _, (rep_sub _ _ _ _ _), trivial⟩)) Tryz.func70 rfl (by kernel_rfl) (by kernel_rfl)
set_option maxRecDepth 100000 in
set_option maxHeartbeats 4000000 in
theorem dstat_spec (f : Fsy) (c : Cal) (okf : OkF f) (okc : OkCal c) (hp : rowsP f) : FSpec Tryz.prog 71 [.agg [.sl 5 false (f.l.map nodA), aI f.next], .agg [aI c.kind, aI c.ino, aI c.to, aI c.at_, aI c.many, aS c.name, aS c.name2, aS c.text]] (.tup [.agg (fsyA (statD f c).1), .agg (repA (statD f c).2)]) := by
  have hl := hp.1
  have hr := rows_rise hp
  have hcn := okc.name
  have hcn2 := okc.name2
  have hct := okc.text
  exact spec_vc (F := Tryz.f71) 400 (
 .new fun b1 => .new fun b2 => .new fun b3 => .new fun b4 => .run 3 [b1 = b1, b2 = b2] ⟨rfl, rfl, trivial⟩ <|
 .call (tfind_spec f c.ino (by omega) hr) <|
 .r 3 <| .new fun b5 => .run 2 [b5 = b5] ⟨rfl, trivial⟩ <|
 .r 2 <| .br 16 (!(findB f c.ino)) (fun q1 => have q1 := notT q1; have p1 := booF q1; .run 4 [b1 = b1, b3 = b3, b4 = b4] ⟨rfl, rfl, rfl, trivial⟩ <|
 .fin (x := .tup [.agg [.sl 5 false (f.l.map nodA), aI f.next], .agg [aI 6, aI 0, aI 0, aI 0, aS ([]), aN]]) (r := .tup [.agg (fsyA (statD f c).1), .agg (repA (statD f c).2)]) [b3 = b3, b4 = b4] ⟨rfl, rfl, trivial⟩ (by
    have e : statD f c = _ := if_neg (by rw [q1]; decide)
    rw [e]
    exact Sub.tups ⟨Sub.refl _, (rep_sub _ _ _ _ _), trivial⟩))
 <| fun q1 => have q1 := notF q1; have p1 := booT q1; let J1 : Jn (Unit) := ⟨fun j1 => ⟨[(4, .ptr 4 b3 0), (5, .ptr 5 b4 0)], [(4, .box b3 24 [.sl 5 false (f.l.map nodA), aI f.next]), (5, .box b4 30 [aI 0, aI ((findN f c.ino).kind), aI ((findN f c.ino).links), aI (sizeN (findN f c.ino)), aS ([]), aN])]⟩, fun _ => True⟩
 .cut J1 (.pick [0, 1, 3, 5] <| .run 4 [b1 = b1, b5 = b5] ⟨rfl, rfl, trivial⟩ <|
 .fork <| .alt (.run 1 [b5 = b5] ⟨rfl, trivial⟩ <|
 .fork <| .alt (.run 1 [b5 = b5] ⟨rfl, trivial⟩ <|
 .pick [6, 7, 8, 9] <| .call (size_spec (findN f c.ino)) <|
 .run 3 [b3 = b3, b4 = b4] ⟨rfl, rfl, trivial⟩ <|
 .join J1 () trivial ⟨[(4, .ptr 4 b3 0), (5, .ptr 5 b4 0)], [(4, .box b3 24 [.sl 5 false (f.l.map nodA), aI f.next]), (5, .box b4 30 [aI 0, aI ((findN f c.ino).kind), aI ((findN f c.ino).links), aI (sizeN (findN f c.ino)), aS ([]), aN])]⟩ ⟨Sub.refl _, Sub.refl _, trivial⟩ ⟨⟨_, rfl, SubB.refl _⟩, ⟨_, rfl, SubB.refl _⟩, trivial⟩)
 <| .call (size_spec (findN f c.ino)) <|
 .fork <| .alt (.run 1 [b5 = b5] ⟨rfl, trivial⟩ <|
 .pick [7, 8, 9] <| .run 3 [b3 = b3, b4 = b4] ⟨rfl, rfl, trivial⟩ <|
 .join J1 () trivial ⟨[(4, .ptr 4 b3 0), (5, .ptr 5 b4 0)], [(4, .box b3 24 [.sl 5 false (f.l.map nodA), aI f.next]), (5, .box b4 30 [aI 0, aI ((findN f c.ino).kind), aI ((findN f c.ino).links), aI (sizeN (findN f c.ino)), aS ([]), aN])]⟩ ⟨Sub.refl _, Sub.refl _, trivial⟩ ⟨⟨_, rfl, SubB.refl _⟩, ⟨_, rfl, SubB.refl _⟩, trivial⟩)
 <| .run 1 [b3 = b3] ⟨rfl, trivial⟩ <|
 .pick [4, 7, 9] <| .run 3 [b5 = b5, b4 = b4] ⟨rfl, rfl, trivial⟩ <|
 .join J1 () trivial ⟨[(4, .ptr 4 b3 0), (5, .ptr 5 b4 0)], [(4, .box b3 24 [.sl 5 false (f.l.map nodA), aI f.next]), (5, .box b4 30 [aI 0, aI ((findN f c.ino).kind), aI ((findN f c.ino).links), aI (sizeN (findN f c.ino)), aS ([]), aN])]⟩ ⟨Sub.refl _, Sub.refl _, trivial⟩ ⟨⟨_, rfl, SubB.refl _⟩, ⟨_, rfl, SubB.refl _⟩, trivial⟩)
 <| .alt (.run 1 [b5 = b5] ⟨rfl, trivial⟩ <|
 .fork <| .alt (.run 1 [b5 = b5] ⟨rfl, trivial⟩ <|
 .pick [6, 7, 8, 9] <| .call (size_spec (findN f c.ino)) <|
 .run 3 [b3 = b3, b4 = b4] ⟨rfl, rfl, trivial⟩ <|
 .join J1 () trivial ⟨[(4, .ptr 4 b3 0), (5, .ptr 5 b4 0)], [(4, .box b3 24 [.sl 5 false (f.l.map nodA), aI f.next]), (5, .box b4 30 [aI 0, aI ((findN f c.ino).kind), aI ((findN f c.ino).links), aI (sizeN (findN f c.ino)), aS ([]), aN])]⟩ ⟨Sub.refl _, Sub.refl _, trivial⟩ ⟨⟨_, rfl, SubB.refl _⟩, ⟨_, rfl, SubB.refl _⟩, trivial⟩)
 <| .call (size_spec (findN f c.ino)) <|
 .fork <| .alt (.run 1 [b5 = b5] ⟨rfl, trivial⟩ <|
 .pick [7, 8, 9] <| .run 3 [b3 = b3, b4 = b4] ⟨rfl, rfl, trivial⟩ <|
 .join J1 () trivial ⟨[(4, .ptr 4 b3 0), (5, .ptr 5 b4 0)], [(4, .box b3 24 [.sl 5 false (f.l.map nodA), aI f.next]), (5, .box b4 30 [aI 0, aI ((findN f c.ino).kind), aI ((findN f c.ino).links), aI (sizeN (findN f c.ino)), aS ([]), aN])]⟩ ⟨Sub.refl _, Sub.refl _, trivial⟩ ⟨⟨_, rfl, SubB.refl _⟩, ⟨_, rfl, SubB.refl _⟩, trivial⟩)
 <| .run 1 [b3 = b3] ⟨rfl, trivial⟩ <|
 .pick [2, 7, 9] <| .run 3 [b5 = b5, b4 = b4] ⟨rfl, rfl, trivial⟩ <|
 .join J1 () trivial ⟨[(4, .ptr 4 b3 0), (5, .ptr 5 b4 0)], [(4, .box b3 24 [.sl 5 false (f.l.map nodA), aI f.next]), (5, .box b4 30 [aI 0, aI ((findN f c.ino).kind), aI ((findN f c.ino).links), aI (sizeN (findN f c.ino)), aS ([]), aN])]⟩ ⟨Sub.refl _, Sub.refl _, trivial⟩ ⟨⟨_, rfl, SubB.refl _⟩, ⟨_, rfl, SubB.refl _⟩, trivial⟩)
 <| .call (size_spec (findN f c.ino)) <|
 .fork <| .alt (.run 1 [b5 = b5] ⟨rfl, trivial⟩ <|
 .fork <| .alt (.run 1 [b5 = b5] ⟨rfl, trivial⟩ <|
 .pick [7, 8, 9] <| .run 3 [b3 = b3, b4 = b4] ⟨rfl, rfl, trivial⟩ <|
 .join J1 () trivial ⟨[(4, .ptr 4 b3 0), (5, .ptr 5 b4 0)], [(4, .box b3 24 [.sl 5 false (f.l.map nodA), aI f.next]), (5, .box b4 30 [aI 0, aI ((findN f c.ino).kind), aI ((findN f c.ino).links), aI (sizeN (findN f c.ino)), aS ([]), aN])]⟩ ⟨Sub.refl _, Sub.refl _, trivial⟩ ⟨⟨_, rfl, SubB.refl _⟩, ⟨_, rfl, SubB.refl _⟩, trivial⟩)
 <| .run 1 [b3 = b3] ⟨rfl, trivial⟩ <|
 .pick [4, 7, 9] <| .run 3 [b5 = b5, b4 = b4] ⟨rfl, rfl, trivial⟩ <|
 .join J1 () trivial ⟨[(4, .ptr 4 b3 0), (5, .ptr 5 b4 0)], [(4, .box b3 24 [.sl 5 false (f.l.map nodA), aI f.next]), (5, .box b4 30 [aI 0, aI ((findN f c.ino).kind), aI ((findN f c.ino).links), aI (sizeN (findN f c.ino)), aS ([]), aN])]⟩ ⟨Sub.refl _, Sub.refl _, trivial⟩ ⟨⟨_, rfl, SubB.refl _⟩, ⟨_, rfl, SubB.refl _⟩, trivial⟩)
 <| .alt (.run 1 [b5 = b5] ⟨rfl, trivial⟩ <|
 .fork <| .alt (.run 1 [b5 = b5] ⟨rfl, trivial⟩ <|
 .pick [7, 8, 9] <| .run 3 [b3 = b3, b4 = b4] ⟨rfl, rfl, trivial⟩ <|
 .join J1 () trivial ⟨[(4, .ptr 4 b3 0), (5, .ptr 5 b4 0)], [(4, .box b3 24 [.sl 5 false (f.l.map nodA), aI f.next]), (5, .box b4 30 [aI 0, aI ((findN f c.ino).kind), aI ((findN f c.ino).links), aI (sizeN (findN f c.ino)), aS ([]), aN])]⟩ ⟨Sub.refl _, Sub.refl _, trivial⟩ ⟨⟨_, rfl, SubB.refl _⟩, ⟨_, rfl, SubB.refl _⟩, trivial⟩)
 <| .run 1 [b3 = b3] ⟨rfl, trivial⟩ <|
 .pick [2, 7, 9] <| .run 3 [b5 = b5, b4 = b4] ⟨rfl, rfl, trivial⟩ <|
 .join J1 () trivial ⟨[(4, .ptr 4 b3 0), (5, .ptr 5 b4 0)], [(4, .box b3 24 [.sl 5 false (f.l.map nodA), aI f.next]), (5, .box b4 30 [aI 0, aI ((findN f c.ino).kind), aI ((findN f c.ino).links), aI (sizeN (findN f c.ino)), aS ([]), aN])]⟩ ⟨Sub.refl _, Sub.refl _, trivial⟩ ⟨⟨_, rfl, SubB.refl _⟩, ⟨_, rfl, SubB.refl _⟩, trivial⟩)
 <| .run 1 [b3 = b3] ⟨rfl, trivial⟩ <|
 .pick [2, 4, 7, 9] <| .run 4 [b5 = b5, b5 = b5, b4 = b4] ⟨rfl, rfl, rfl, trivial⟩ <|
 .join J1 () trivial ⟨[(4, .ptr 4 b3 0), (5, .ptr 5 b4 0)], [(4, .box b3 24 [.sl 5 false (f.l.map nodA), aI f.next]), (5, .box b4 30 [aI 0, aI ((findN f c.ino).kind), aI ((findN f c.ino).links), aI (sizeN (findN f c.ino)), aS ([]), aN])]⟩ ⟨Sub.refl _, Sub.refl _, trivial⟩ ⟨⟨_, rfl, SubB.refl _⟩, ⟨_, rfl, SubB.refl _⟩, trivial⟩)
 <| fun _ _ => .fin (x := .tup [.agg [.sl 5 false (f.l.map nodA), aI f.next], .agg [aI 0, aI ((findN f c.ino).kind), aI ((findN f c.ino).links), aI (sizeN (findN f c.ino)), aS ([]), aN]]) (r := .tup [.agg (fsyA (statD f c).1), .agg (repA (statD f c).2)]) [b3 = b3, b4 = b4] ⟨rfl, rfl, trivial⟩ (by
    have e : statD f c = _ := if_pos q1
    rw [e]
    exact Sub.tups ⟨Sub.refl _, (rep_sub _ _ _ _ _), trivial⟩)) Tryz.func71 rfl (by kernel_rfl) (by kernel_rfl)
set_option maxRecDepth 100000 in
set_option maxHeartbeats 4000000 in
theorem dread_o (f : Fsy) (c : Cal) (okf : OkF f) (okc : OkCal c) (hp : rowsP f) : FSpec Tryz.prog 72 [.agg [.sl 5 false (f.l.map nodA), aI f.next], .agg [aI c.kind, aI c.ino, aI c.to, aI c.at_, aI c.many, aS c.name, aS c.name2, aS c.text]] (.tup [.agg (fsyA (readO f c).1), .agg (repA (readO f c).2)]) := by
  have hl := hp.1
  have hr := rows_rise hp
  have hcn := okc.name
  have hcn2 := okc.name2
  have hct := okc.text
  exact spec_vc (F := Tryz.f72) 400 (
 .new fun b1 => .new fun b2 => .new fun b3 => .new fun b4 => .run 3 [b1 = b1, b2 = b2] ⟨rfl, rfl, trivial⟩ <|
 .call (of_spec f c.ino 1 hp) <|
 .r 3 <| .new fun b5 => .run 2 [b5 = b5] ⟨rfl, trivial⟩ <|
 .r 2 <| .br 17 ((ofE f c.ino 1) != 0) (fun q1 => have p1 := bneT q1; .run 5 [b1 = b1, b3 = b3, b4 = b4] ⟨rfl, rfl, rfl, trivial⟩ <|
 .fin (x := .tup [.agg [.sl 5 false (f.l.map nodA), aI f.next], .agg [aI (ofE f c.ino 1), aI 0, aI 0, aI 0, aS ([]), aN]]) (r := .tup [.agg (fsyA (readO f c).1), .agg (repA (readO f c).2)]) [b3 = b3, b4 = b4] ⟨rfl, rfl, trivial⟩ (by
    have e : readO f c = _ := if_neg (bneT q1)
    rw [e]
    exact Sub.tups ⟨Sub.refl _, (rep_sub _ _ _ _ _), trivial⟩))
 <| fun q1 => have p1 := bneF q1; have eo := of_yes (show ofE f c.ino 1 = 0 from bneF q1); .run 6 [b5 = b5, b2 = b2, b2 = b2] ⟨rfl, rfl, rfl, trivial⟩ <|
 .callS (args0 := [aS ((ofN f c.ino 1).text), aI c.at_, aI c.many]) (args := [aS ((findN f c.ino).text), aI c.at_, aI c.many]) ⟨by rw [eo]; exact Sub.refl _, Sub.refl _, Sub.refl _, trivial⟩ (dread_spec (findN f c.ino).text c.at_ c.many (by have := txt_len hp c.ino; omega) okc.at_ okc.many) <|
 .r 5 <| .run 6 [b1 = b1, b3 = b3, b4 = b4] ⟨rfl, rfl, rfl, trivial⟩ <|
 .fin (x := .tup [.agg [.sl 5 false (f.l.map nodA), aI f.next], .agg [aI ((readD (findN f c.ino).text c.at_ c.many).2), aI 0, aI 0, aI 0, aS ((readD (findN f c.ino).text c.at_ c.many).1), aN]]) (r := .tup [.agg (fsyA (readO f c).1), .agg (repA (readO f c).2)]) [b3 = b3, b4 = b4] ⟨rfl, rfl, trivial⟩ (by
    have e0 : ofE f c.ino 1 = 0 := bneF q1
    have e : readO f c = _ := if_pos e0
    rw [e]
    exact Sub.tups ⟨Sub.refl _, (rep_sub _ _ _ _ _), trivial⟩)) Tryz.func72 rfl (by kernel_rfl) (by kernel_rfl)
set_option maxRecDepth 100000 in
set_option maxHeartbeats 4000000 in
theorem dwrite_o (f : Fsy) (c : Cal) (okf : OkF f) (okc : OkCal c) (hp : rowsP f) : FSpec Tryz.prog 73 [.agg [.sl 5 false (f.l.map nodA), aI f.next], .agg [aI c.kind, aI c.ino, aI c.to, aI c.at_, aI c.many, aS c.name, aS c.name2, aS c.text]] (.tup [.agg (fsyA (writeO f c).1), .agg (repA (writeO f c).2)]) := by
  have hl := hp.1
  have hr := rows_rise hp
  have hcn := okc.name
  have hcn2 := okc.name2
  have hct := okc.text
  exact spec_vc (F := Tryz.f73) 400 (
 .new fun b1 => .new fun b2 => .new fun b3 => .new fun b4 => .run 3 [b1 = b1, b2 = b2] ⟨rfl, rfl, trivial⟩ <|
 .call (of_spec f c.ino 1 hp) <|
 .r 3 <| .new fun b5 => .run 2 [b5 = b5] ⟨rfl, trivial⟩ <|
 .r 2 <| .br 16 ((ofE f c.ino 1) != 0) (fun q1 => have p1 := bneT q1; .run 5 [b1 = b1, b3 = b3, b4 = b4] ⟨rfl, rfl, rfl, trivial⟩ <|
 .fin (x := .tup [.agg [.sl 5 false (f.l.map nodA), aI f.next], .agg [aI (ofE f c.ino 1), aI 0, aI 0, aI 0, aS ([]), aN]]) (r := .tup [.agg (fsyA (writeO f c).1), .agg (repA (writeO f c).2)]) [b3 = b3, b4 = b4] ⟨rfl, rfl, trivial⟩ (by
    have e : writeO f c = _ := if_neg (bneT q1)
    rw [e]
    exact Sub.tups ⟨Sub.refl _, (rep_sub _ _ _ _ _), trivial⟩))
 <| fun q1 => have p1 := bneF q1; have eo := of_yes (show ofE f c.ino 1 = 0 from bneF q1); .run 6 [b5 = b5, b2 = b2, b2 = b2] ⟨rfl, rfl, rfl, trivial⟩ <|
 .callS (args0 := [aS ((ofN f c.ino 1).text), aI c.at_, aS c.text]) (args := [aS ((findN f c.ino).text), aI c.at_, aS c.text]) ⟨by rw [eo]; exact Sub.refl _, Sub.refl _, Sub.refl _, trivial⟩ (dwrite_spec (findN f c.ino).text c.at_ c.text (by have := txt_len hp c.ino; omega) okc.at_ hct) <|
 .run 6 [b5 = b5] ⟨rfl, trivial⟩ <|
 let J1 : Jn (Unit) := ⟨fun j1 => ⟨[(4, .ptr 4 b3 0), (5, .ptr 5 b4 0)], [(4, .box b3 24 [.sl 5 false ((putF f (withT (findN f c.ino) (writeD (findN f c.ino).text c.at_ c.text).1)).l.map nodA), aI ((putF f (withT (findN f c.ino) (writeD (findN f c.ino).text c.at_ c.text).1)).next)]), (5, .box b4 30 [aI ((writeD (findN f c.ino).text c.at_ c.text).2), aI ((c.text).length : Int), aI 0, aI 0, aS ([]), aN])]⟩, fun _ => True⟩
 .cut J1 (.pick [0, 1, 3, 4] <| .run 4 [b1 = b1, b5 = b5] ⟨rfl, rfl, trivial⟩ <|
 .fork <| .alt (.callS (args0 := [.agg [.sl 5 false (f.l.map nodA), aI f.next], .agg [aI ((ofN f c.ino 1).ino), aI ((ofN f c.ino 1).kind), aI ((ofN f c.ino 1).links), aS ((writeD (findN f c.ino).text c.at_ c.text).1), .sl 2 false ((ofN f c.ino 1).l.map entA)]]) (args := [.agg [.sl 5 false (f.l.map nodA), aI f.next], .agg [aI ((withT (findN f c.ino) (writeD (findN f c.ino).text c.at_ c.text).1).ino), aI ((withT (findN f c.ino) (writeD (findN f c.ino).text c.at_ c.text).1).kind), aI ((withT (findN f c.ino) (writeD (findN f c.ino).text c.at_ c.text).1).links), aS ((withT (findN f c.ino) (writeD (findN f c.ino).text c.at_ c.text).1).text), .sl 2 false ((withT (findN f c.ino) (writeD (findN f c.ino).text c.at_ c.text).1).l.map entA)]]) ⟨Sub.refl _, by rw [eo]; exact Sub.refl _, trivial⟩ (put_spec f (withT (findN f c.ino) (writeD (findN f c.ino).text c.at_ c.text).1) (find_I64 okf hp c.ino) (by omega) hr) <|
 .fork <| .alt (.run 1 [b2 = b2] ⟨rfl, trivial⟩ <|
 .pick [6, 7, 8, 9] <| .run 4 [b3 = b3, b4 = b4] ⟨rfl, rfl, trivial⟩ <|
 .join J1 () trivial ⟨[(4, .ptr 4 b3 0), (5, .ptr 5 b4 0)], [(4, .box b3 24 [.sl 5 false ((putF f (withT (findN f c.ino) (writeD (findN f c.ino).text c.at_ c.text).1)).l.map nodA), aI ((putF f (withT (findN f c.ino) (writeD (findN f c.ino).text c.at_ c.text).1)).next)]), (5, .box b4 30 [aI ((writeD (findN f c.ino).text c.at_ c.text).2), aI ((c.text).length : Int), aI 0, aI 0, aS ([]), aN])]⟩ ⟨Sub.refl _, Sub.refl _, trivial⟩ ⟨⟨_, rfl, SubB.refl _⟩, ⟨_, rfl, SubB.refl _⟩, trivial⟩)
 <| .run 1 [b3 = b3] ⟨rfl, trivial⟩ <|
 .pick [5, 6, 7, 9] <| .run 4 [b2 = b2, b4 = b4] ⟨rfl, rfl, trivial⟩ <|
 .join J1 () trivial ⟨[(4, .ptr 4 b3 0), (5, .ptr 5 b4 0)], [(4, .box b3 24 [.sl 5 false ((putF f (withT (findN f c.ino) (writeD (findN f c.ino).text c.at_ c.text).1)).l.map nodA), aI ((putF f (withT (findN f c.ino) (writeD (findN f c.ino).text c.at_ c.text).1)).next)]), (5, .box b4 30 [aI ((writeD (findN f c.ino).text c.at_ c.text).2), aI ((c.text).length : Int), aI 0, aI 0, aS ([]), aN])]⟩ ⟨Sub.refl _, Sub.refl _, trivial⟩ ⟨⟨_, rfl, SubB.refl _⟩, ⟨_, rfl, SubB.refl _⟩, trivial⟩)
 <| .run 1 [b2 = b2] ⟨rfl, trivial⟩ <|
 .pick [6, 7, 2, 8, 9] <| .r 2 <| .callS (args0 := [.agg [.sl 5 false (f.l.map nodA), aI f.next], .agg [aI ((ofN f c.ino 1).ino), aI ((ofN f c.ino 1).kind), aI ((ofN f c.ino 1).links), aS ((writeD (findN f c.ino).text c.at_ c.text).1), .sl 2 false ((ofN f c.ino 1).l.map entA)]]) (args := [.agg [.sl 5 false (f.l.map nodA), aI f.next], .agg [aI ((withT (findN f c.ino) (writeD (findN f c.ino).text c.at_ c.text).1).ino), aI ((withT (findN f c.ino) (writeD (findN f c.ino).text c.at_ c.text).1).kind), aI ((withT (findN f c.ino) (writeD (findN f c.ino).text c.at_ c.text).1).links), aS ((withT (findN f c.ino) (writeD (findN f c.ino).text c.at_ c.text).1).text), .sl 2 false ((withT (findN f c.ino) (writeD (findN f c.ino).text c.at_ c.text).1).l.map entA)]]) ⟨Sub.refl _, by rw [eo]; exact Sub.refl _, trivial⟩ (put_spec f (withT (findN f c.ino) (writeD (findN f c.ino).text c.at_ c.text).1) (find_I64 okf hp c.ino) (by omega) hr) <|
 .run 2 [b3 = b3, b4 = b4] ⟨rfl, rfl, trivial⟩ <|
 .join J1 () trivial ⟨[(4, .ptr 4 b3 0), (5, .ptr 5 b4 0)], [(4, .box b3 24 [.sl 5 false ((putF f (withT (findN f c.ino) (writeD (findN f c.ino).text c.at_ c.text).1)).l.map nodA), aI ((putF f (withT (findN f c.ino) (writeD (findN f c.ino).text c.at_ c.text).1)).next)]), (5, .box b4 30 [aI ((writeD (findN f c.ino).text c.at_ c.text).2), aI ((c.text).length : Int), aI 0, aI 0, aS ([]), aN])]⟩ ⟨Sub.refl _, Sub.refl _, trivial⟩ ⟨⟨_, rfl, SubB.refl _⟩, ⟨_, rfl, SubB.refl _⟩, trivial⟩)
 <| fun _ _ => .fin (x := .tup [.agg [.sl 5 false ((putF f (withT (findN f c.ino) (writeD (findN f c.ino).text c.at_ c.text).1)).l.map nodA), aI ((putF f (withT (findN f c.ino) (writeD (findN f c.ino).text c.at_ c.text).1)).next)], .agg [aI ((writeD (findN f c.ino).text c.at_ c.text).2), aI ((c.text).length : Int), aI 0, aI 0, aS ([]), aN]]) (r := .tup [.agg (fsyA (writeO f c).1), .agg (repA (writeO f c).2)]) [b3 = b3, b4 = b4] ⟨rfl, rfl, trivial⟩ (by
    have e0 : ofE f c.ino 1 = 0 := bneF q1
    have e : writeO f c = _ := if_pos e0
    rw [e]
    exact Sub.tups ⟨Sub.refl _, (rep_sub _ _ _ _ _), trivial⟩)) Tryz.func73 rfl (by kernel_rfl) (by kernel_rfl)
set_option maxRecDepth 100000 in
set_option maxHeartbeats 4000000 in
theorem dcut_o (f : Fsy) (c : Cal) (okf : OkF f) (okc : OkCal c) (hp : rowsP f) : FSpec Tryz.prog 74 [.agg [.sl 5 false (f.l.map nodA), aI f.next], .agg [aI c.kind, aI c.ino, aI c.to, aI c.at_, aI c.many, aS c.name, aS c.name2, aS c.text]] (.tup [.agg (fsyA (cutO f c).1), .agg (repA (cutO f c).2)]) := by
  have hl := hp.1
  have hr := rows_rise hp
  have hcn := okc.name
  have hcn2 := okc.name2
  have hct := okc.text
  exact spec_vc (F := Tryz.f74) 400 (
 .new fun b1 => .new fun b2 => .new fun b3 => .new fun b4 => .run 3 [b1 = b1, b2 = b2] ⟨rfl, rfl, trivial⟩ <|
 .call (of_spec f c.ino 1 hp) <|
 .r 3 <| .new fun b5 => .run 2 [b5 = b5] ⟨rfl, trivial⟩ <|
 .r 2 <| .br 16 ((ofE f c.ino 1) != 0) (fun q1 => have p1 := bneT q1; .run 5 [b1 = b1, b3 = b3, b4 = b4] ⟨rfl, rfl, rfl, trivial⟩ <|
 .fin (x := .tup [.agg [.sl 5 false (f.l.map nodA), aI f.next], .agg [aI (ofE f c.ino 1), aI 0, aI 0, aI 0, aS ([]), aN]]) (r := .tup [.agg (fsyA (cutO f c).1), .agg (repA (cutO f c).2)]) [b3 = b3, b4 = b4] ⟨rfl, rfl, trivial⟩ (by
    have e : cutO f c = _ := if_neg (bneT q1)
    rw [e]
    exact Sub.tups ⟨Sub.refl _, (rep_sub _ _ _ _ _), trivial⟩))
 <| fun q1 => have p1 := bneF q1; have eo := of_yes (show ofE f c.ino 1 = 0 from bneF q1); .run 4 [b5 = b5, b2 = b2] ⟨rfl, rfl, trivial⟩ <|
 .callS (args0 := [aS ((ofN f c.ino 1).text), aI c.many]) (args := [aS ((findN f c.ino).text), aI c.many]) ⟨by rw [eo]; exact Sub.refl _, Sub.refl _, trivial⟩ (dcut_spec (findN f c.ino).text c.many (by have := txt_len hp c.ino; omega) okc.many) <|
 .run 6 [b5 = b5] ⟨rfl, trivial⟩ <|
 .run 2 [b1 = b1, b5 = b5] ⟨rfl, rfl, trivial⟩ <|
 .callS (args0 := [.agg [.sl 5 false (f.l.map nodA), aI f.next], .agg [aI ((ofN f c.ino 1).ino), aI ((ofN f c.ino 1).kind), aI ((ofN f c.ino 1).links), aS ((cutD (findN f c.ino).text c.many).1), .sl 2 false ((ofN f c.ino 1).l.map entA)]]) (args := [.agg [.sl 5 false (f.l.map nodA), aI f.next], .agg [aI ((withT (findN f c.ino) (cutD (findN f c.ino).text c.many).1).ino), aI ((withT (findN f c.ino) (cutD (findN f c.ino).text c.many).1).kind), aI ((withT (findN f c.ino) (cutD (findN f c.ino).text c.many).1).links), aS ((withT (findN f c.ino) (cutD (findN f c.ino).text c.many).1).text), .sl 2 false ((withT (findN f c.ino) (cutD (findN f c.ino).text c.many).1).l.map entA)]]) ⟨Sub.refl _, by rw [eo]; exact Sub.refl _, trivial⟩ (put_spec f (withT (findN f c.ino) (cutD (findN f c.ino).text c.many).1) (find_I64 okf hp c.ino) (by omega) hr) <|
 .run 4 [b3 = b3, b4 = b4] ⟨rfl, rfl, trivial⟩ <|
 .fin (x := .tup [.agg [.sl 5 false ((putF f (withT (findN f c.ino) (cutD (findN f c.ino).text c.many).1)).l.map nodA), aI ((putF f (withT (findN f c.ino) (cutD (findN f c.ino).text c.many).1)).next)], .agg [aI ((cutD (findN f c.ino).text c.many).2), aI 0, aI 0, aI 0, aS ([]), aN]]) (r := .tup [.agg (fsyA (cutO f c).1), .agg (repA (cutO f c).2)]) [b3 = b3, b4 = b4] ⟨rfl, rfl, trivial⟩ (by
    have e0 : ofE f c.ino 1 = 0 := bneF q1
    have e : cutO f c = _ := if_pos e0
    rw [e]
    exact Sub.tups ⟨Sub.refl _, (rep_sub _ _ _ _ _), trivial⟩)) Tryz.func74 rfl (by kernel_rfl) (by kernel_rfl)
end Go.Proofs.YtkhnialfkndiiaaGreat
