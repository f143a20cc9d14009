/- 'copy' of a text into bytes that the call owns; over any program. No conditions beyond each law's own. data.filled, data.Write, data.Cut: they answer as the document says; old memory is as it was. Texts and names as data: data.Read, Write, Cut; name.Names; node.Size. -/
import Derived.Lib.BufferWrite
import Derived.Laws.IdiomStrings
import Derived.Laws.MakeOwn
import Derived.Test.YtkhnialfkndiiaaGreatMrgA
import Derived.Test.YtkhnialfkndiiaaGreatMrgU
import Derived.Test.YtkhnialfkndiiaaGreatMrgT
set_option maxRecDepth 100000
set_option maxHeartbeats 8000000
namespace Copyhold
open Go Go.RowKit
theorem run_copy_text {P : Program} (w : World) (dT sT ty elem : TypeId) (g o dLen dCap : Nat) (l : List UInt8) (cur : List UInt8) (t : TypeId)
    (hu : P.underlying dT = some (.slice elem)) (hs : (P.info? elem).map (·.size) = some 1) (hg : w.heap[g]? = some (.cells (Lib.byteCells cur).toArray t (0, 0))) (hfit : o + dLen = cur.length) :
    (Builtin.copy_ #[dT, sT] ty #[.slice (some ⟨g, o, none⟩) dLen dCap, .string ⟨l.toArray⟩]).run P w =
      .ok (goInt (Nat.min l.length dLen)) (w.setRow g (Lib.byteCells (cur.take o ++ l.take dLen ++ cur.drop (o + l.length))).toArray) := by
  have hsz : (⟨l.toArray⟩ : ByteArray).size = l.length := by simp [ByteArray.size]
  have hlen : (Lib.byteCells (l.take dLen)).length = Nat.min l.length dLen := by rw [Lib.byteCells_length, List.length_take, Nat.min_comm]
  have hcl : (Lib.byteCells cur).length = cur.length := Lib.byteCells_length _
  have hst := run_storeCells_at P g o t (Lib.byteCells (l.take dLen)) 0 (Lib.byteCells cur).toArray w hg (by rw [hlen]; simp [hcl]; have : Nat.min l.length dLen ≤ dLen := Nat.min_le_right l.length dLen; omega) (Lib.byteCells_one _)
  have htk : List.take (Nat.min l.length dLen) (List.map (fun b : UInt8 => Value.int IntKind.u8 (b.toNat : Int)) l) = Lib.byteCells (l.take dLen) := by
    unfold Lib.byteCells
    rw [List.map_take]
    show List.take (min l.length dLen) _ = _
    rw [List.take_eq_take_iff]
    simp
    omega
  have hrow : ((Lib.byteCells cur).take o ++ Lib.byteCells (l.take dLen) ++ (Lib.byteCells cur).drop (o + Nat.min l.length dLen)) = Lib.byteCells (cur.take o ++ l.take dLen ++ cur.drop (o + l.length)) := by
    unfold Lib.byteCells
    rw [List.map_append, List.map_append, List.map_take, List.map_take, List.map_drop]
    congr 1
    show List.drop (o + min l.length dLen) _ = _
    rw [List.drop_eq_drop_iff]
    simp
    omega
  rw [hlen] at hst
  simp only [Nat.add_zero] at hst
  rw [hrow] at hst
  cases hq : P.info? elem with
  | none => simp [hq] at hs
  | some i =>
    simp [Builtin.copy_, run_underlying hu, Builtin.lenOf, Builtin.firstCells, Go.sizeOf, typeInfo, hq, hsz]
    rw [htk, hst]
    simp [Result.andThen, List.append_assoc]
theorem madeBytes (n : Nat) : madeCells (Value.int .u8 0).cells n = (Lib.byteCells (List.replicate n 0)).toArray := by
  unfold madeCells
  have : (Value.int .u8 0).cells = #[Value.int .u8 0] := rfl
  rw [this]
  apply Array.ext
  · simp [Lib.byteCells]
  · intro i h1 h2
    simp [Lib.byteCells, Nat.mod_one]
end Copyhold

set_option maxRecDepth 100000
namespace Go.Proofs.YtkhnialfkndiiaaGreat
open Go.RowKit Copyhold
attribute [local go_sem] piece
def fillD (l : List UInt8) (n : Nat) : List UInt8 := l.take n ++ List.replicate (n - l.length) 0
theorem fillD_length (l : List UInt8) (n : Nat) : (fillD l n).length = n := by
  simp [fillD]
  omega
def BytesAt (w : World) (g : Nat) (l : List UInt8) : Prop := w.heap[g]? = some (.cells (Lib.byteCells l).toArray 5 (0, 0))
theorem run_make_bytes (w : World) (n : Nat) (hn : n ≤ 140737488355328) : (Instr.makeSlice 144 (.int .i64 (n : Int)) (.int .i64 (n : Int))).run Tryz.prog w = .ok (.slice (some ⟨w.heap.size, 0, none⟩) n n) (w.alloc (.cells (Lib.byteCells (List.replicate n 0)).toArray 5)) := by
  have h := run_make (P := Tryz.prog) w 144 5 _ (.int .u8 0) rfl rfl rfl .i64 .i64 (n : Int) (n : Int) (by omega) (by omega) (by show (1 : Int) * _ ≤ _; omega) (by omega)
  rw [madeBytes, show (Tryz.prog.types[5]'(by decide)).size = 1 from rfl, Nat.mul_one, Int.toNat_natCast] at h
  exact h
theorem data_filled (l : List UInt8) (n : Nat) (w : World) (_hl : l.length ≤ 140737488355328) (hn : n ≤ 140737488355328) :
    Calls Tryz.prog 136 #[.string ⟨l.toArray⟩, .int .i64 n] w fun e w' => e = .returned (.slice (some ⟨w.heap.size, 0, none⟩) n n) ∧ BytesAt w' w.heap.size (fillD l n) ∧ Below w.heap.size w w' := by
  have hmk := run_make_bytes w n hn
  have hb := (Below.refl w.heap.size w).alloc (Nat.le_refl _) (.cells (Lib.byteCells (List.replicate n 0)).toArray 5)
  have hg := heap_alloc_new w (.cells (Lib.byteCells (List.replicate n 0)).toArray 5)
  obtain ⟨W, hW⟩ : ∃ W, W = w.alloc (.cells (Lib.byteCells (List.replicate n 0)).toArray 5) := ⟨_, rfl⟩
  rw [← hW] at hmk hb hg
  have hcp := run_copy_text (P := Tryz.prog) W 144 9 3 5 w.heap.size 0 n n l (List.replicate n 0) 5 rfl rfl hg (by simp)
  have hf : (List.replicate n (0 : UInt8)).take 0 ++ l.take n ++ (List.replicate n 0).drop (0 + l.length) = fillD l n := by simp [fillD]
  rw [hf] at hcp
  have HB := Lib.hid hb
  have HG := Lib.hid hg
  clear hb hg hf hW
  go_enter Tryz.func136, Tryz.ntmps136
  go_wp2_with fail
  go_ret
  exact ⟨rfl, setRow_heap _ _ _ _ _ _ HG.out, below_setRow HB.out (Nat.le_refl _) _⟩
def cutD (l : List UInt8) (n : Int) : List UInt8 × Int := if refusedD 0 n = 0 then (fillD l n.toNat, 0) else (l, refusedD 0 n)
theorem run_bytes_back {w : World} {g : Nat} {l : List UInt8} (h : BytesAt w g l) : (convert 144 9 (.slice (some ⟨g, 0, none⟩) l.length l.length)).run Tryz.prog w = .ok (.string ⟨l.toArray⟩) w :=
  run_convert_bytes_back w _ _ 5 _ _ l rfl rfl rfl fun j hj => by
    have hadd : (⟨g, 0, none⟩ : Addr).add j = ⟨g, j, none⟩ := by unfold Addr.add; split <;> simp_all
    rw [hadd]
    simp only [World.cell?, show w.heap[g]? = some (.cells (Lib.byteCells l).toArray 5 (0, 0)) from h]
    simp [Lib.byteCells, hj]
theorem data_Cut (l : List UInt8) (n : Int) (w : World) (hl : l.length ≤ 140737488355328) (h1 : -9223372036854775808 ≤ n) (h2 : n ≤ 9223372036854775807) :
    Calls Tryz.prog 112 #[.string ⟨l.toArray⟩, .int .i64 n] w fun e w' => e = .returned (.tuple #[.string ⟨(cutD l n).1.toArray⟩, .int .i64 (cutD l n).2]) ∧ Below w.heap.size w w' := by
  by_cases h : refusedD 0 n = 0
  · have hn : 0 ≤ n ∧ n ≤ 4096 := by
      unfold refusedD at h
      split at h
      · split at h <;> omega
      · cases h
    have hc : cutD l n = (fillD l n.toNat, 0) := if_pos h
    obtain ⟨n, rfl⟩ := Int.eq_ofNat_of_zero_le hn.1
    rw [Int.toNat_natCast] at hc
    have HR := Lib.hid h
    have HC := Lib.hid hc
    clear h hc h1
    go_enter Tryz.func112, Tryz.ntmps112
    go_wp2_with fail
    refine (data_refused 0 n _ (by decide) (by decide) (by omega) (by omega)).mono ?_
    rintro e w1 ⟨rfl, rfl⟩
    rw [HR.out]
    go_wp2_with fail
    refine (data_filled l n _ hl (by omega)).mono ?_
    rintro e w1 ⟨rfl, hb1, hb⟩
    have hk := run_bytes_back hb1
    rw [fillD_length] at hk
    go_wp2_with fail
    go_ret2
    exact ⟨by rw [HC.out]; rfl, hb⟩
  · have hc : cutD l n = (l, refusedD 0 n) := if_neg h
    obtain ⟨z, hz⟩ : ∃ z, z = refusedD 0 n := ⟨_, rfl⟩
    rw [← hz] at h hc
    have HZ := Lib.hid hz
    have HC := Lib.hid hc
    have hq : (z == 0) = false := by simpa using h
    clear hc hz h
    go_enter Tryz.func112, Tryz.ntmps112
    go_wp2_with fail
    refine (data_refused 0 n _ (by decide) (by decide) h1 h2).mono ?_
    rintro e w1 ⟨rfl, rfl⟩
    rw [← HZ.out]
    go_wp2_with fail
    go_ret2
    exact ⟨by rw [HC.out]; rfl, Below.refl _ _⟩
def putD (l : List UInt8) (a : Nat) (t : List UInt8) : List UInt8 :=
  (fillD l (max l.length (a + t.length))).take a ++ t ++ (fillD l (max l.length (a + t.length))).drop (a + t.length)
def writeD (l : List UInt8) (a : Int) (t : List UInt8) : List UInt8 × Int :=
  if refusedD a t.length = 0 then (if t = [] then l else putD l a.toNat t, 0) else (l, refusedD a t.length)
theorem refusedD_zero {a b : Int} (h : refusedD a b = 0) : 0 ≤ a ∧ 0 ≤ b ∧ a + b ≤ 4096 := by
  unfold refusedD at h
  split at h
  · split at h <;> omega
  · cases h
theorem putD_length (l : List UInt8) (a : Nat) (t : List UInt8) : (putD l a t).length = max l.length (a + t.length) := by
  unfold putD
  simp [fillD_length]
  omega
theorem data_Write (l : List UInt8) (a : Int) (t : List UInt8) (w : World) (hl : l.length ≤ 140737488355328) (ht : t.length ≤ 140737488355328) (h1 : -9223372036854775808 ≤ a) (h2 : a ≤ 9223372036854775807) :
    Calls Tryz.prog 111 #[.string ⟨l.toArray⟩, .int .i64 a, .string ⟨t.toArray⟩] w fun e w' => e = .returned (.tuple #[.string ⟨(writeD l a t).1.toArray⟩, .int .i64 (writeD l a t).2]) ∧ Below w.heap.size w w' := by
  by_cases h : refusedD a t.length = 0
  · have hn := refusedD_zero h
    obtain ⟨a, rfl⟩ := Int.eq_ofNat_of_zero_le hn.1
    rcases Classical.em (t = []) with rfl | h0
    · have hc : writeD l a [] = (l, 0) := by unfold writeD; rw [if_pos h, if_pos rfl]
      have HR := Lib.hid h
      have HC := Lib.hid hc
      clear h hc h1 hn
      go_enter Tryz.func111, Tryz.ntmps111
      go_wp2_with fail
      refine (data_refused a 0 _ (by omega) (by omega) (by decide) (by decide)).mono ?_
      rintro e w1 ⟨rfl, rfl⟩
      rw [show refusedD a 0 = 0 from HR.out]
      go_wp2_with fail
      go_ret2
      exact ⟨by rw [HC.out]; rfl, Below.refl _ _⟩
    · have hc : writeD l a t = (putD l a t, 0) := by unfold writeD; rw [if_pos h, if_neg h0, Int.toNat_natCast]
      have hm : ∃ m : Nat, m = max l.length (a + t.length) := ⟨_, rfl⟩
      obtain ⟨m, hm⟩ := hm
      have hp : putD l a t = (fillD l m).take a ++ t.take (m - a) ++ (fillD l m).drop (a + t.length) := by
        unfold putD
        rw [hm, List.take_of_length_le (l := t) (by omega)]
      have hs : (⟨t.toArray⟩ : ByteArray) ≠ ⟨#[]⟩ := fun e => h0 (by simpa using congrArg (fun x : ByteArray => x.data.toList) e)
      have HR := Lib.hid h
      have HC := Lib.hid hc
      have HP := Lib.hid hp
      have HM := Lib.hid hm
      have hpl := putD_length l a t
      rw [← hm] at hpl
      have HL := Lib.hid hpl
      have hmm : (max (l.length : Int) ((a : Int) + t.length)) = m := by omega
      have htp : 0 < t.length := List.length_pos_iff.2 h0
      have ham : a < m := by omega
      have hie : t.isEmpty = false := by simpa using h0
      have hmb : m ≤ 140737488355328 := by omega
      clear h hc h1 hp hm hpl
      go_enter Tryz.func111, Tryz.ntmps111
      go_wp2_with fail
      refine (data_refused a t.length _ (by omega) (by omega) (by omega) (by omega)).mono ?_
      rintro e w1 ⟨rfl, rfl⟩
      rw [HR.out]
      go_wp2_with fail
      · have hmq : (a : Int) + t.length = m := by have := HM.out; omega
        rw [hmq]
        refine (data_filled l m _ hl hmb).mono ?_
        rintro e w1 ⟨rfl, hb1, hb⟩
        have hcp := run_copy_text (P := Tryz.prog) w1 144 9 3 5 w.heap.size a (m - a) (m - a) t (fillD l m) 5 rfl rfl hb1 (by rw [fillD_length]; omega)
        rw [← HP.out] at hcp
        have hb2 : BytesAt (w1.setRow w.heap.size (Lib.byteCells (putD l a t)).toArray) w.heap.size (putD l a t) := setRow_heap _ _ _ _ _ _ hb1
        have hb3 := below_setRow hb (Nat.le_refl _) (Lib.byteCells (putD l a t)).toArray
        obtain ⟨W, hW⟩ : ∃ W, W = w1.setRow w.heap.size (Lib.byteCells (putD l a t)).toArray := ⟨_, rfl⟩
        rw [← hW] at hcp hb2 hb3
        have hk := run_bytes_back hb2
        rw [HL.out] at hk
        clear hW
        go_wp2_with fail
        go_ret2
        exact ⟨by rw [HC.out]; rfl, hb3⟩
      · have hmq : (l.length : Int) = m := by have := HM.out; omega
        rw [hmq]
        refine (data_filled l m _ hl hmb).mono ?_
        rintro e w1 ⟨rfl, hb1, hb⟩
        have hcp := run_copy_text (P := Tryz.prog) w1 144 9 3 5 w.heap.size a (m - a) (m - a) t (fillD l m) 5 rfl rfl hb1 (by rw [fillD_length]; omega)
        rw [← HP.out] at hcp
        have hb2 : BytesAt (w1.setRow w.heap.size (Lib.byteCells (putD l a t)).toArray) w.heap.size (putD l a t) := setRow_heap _ _ _ _ _ _ hb1
        have hb3 := below_setRow hb (Nat.le_refl _) (Lib.byteCells (putD l a t)).toArray
        obtain ⟨W, hW⟩ : ∃ W, W = w1.setRow w.heap.size (Lib.byteCells (putD l a t)).toArray := ⟨_, rfl⟩
        rw [← hW] at hcp hb2 hb3
        have hk := run_bytes_back hb2
        rw [HL.out] at hk
        clear hW
        go_wp2_with fail
        go_ret2
        exact ⟨by rw [HC.out]; rfl, hb3⟩
  · have hc : writeD l a t = (l, refusedD a t.length) := if_neg h
    obtain ⟨z, hz⟩ : ∃ z, z = refusedD a t.length := ⟨_, rfl⟩
    rw [← hz] at h hc
    have HZ := Lib.hid hz
    have HC := Lib.hid hc
    have hq : (z == 0) = false := by simpa using h
    clear hc hz h
    go_enter Tryz.func111, Tryz.ntmps111
    go_wp2_with fail
    refine (data_refused a t.length _ h1 h2 (by omega) (by omega)).mono ?_
    rintro e w1 ⟨rfl, rfl⟩
    rw [← HZ.out]
    go_wp2_with fail
    go_ret2
    exact ⟨by rw [HC.out]; rfl, Below.refl _ _⟩
end Go.Proofs.YtkhnialfkndiiaaGreat

set_option linter.unusedVariables false
set_option linter.unusedSimpArgs false
namespace Go.Proofs.YtkhnialfkndiiaaGreat
open Go Go.RowKit Copyhold
theorem ra3 {D : Nat → Prop} {w : World} {x y z : AV} {vs : Array Value} (h : RaAll D w [x, y, z] vs) : ∃ u v t, vs = #[u, v, t] ∧ Ra D w x u ∧ Ra D w y v ∧ Ra D w z t := by
  obtain ⟨h1, h2⟩ := h
  match vs, h1 with
  | ⟨[u, v, t]⟩, _ => exact ⟨u, v, t, rfl, h2 0 x u rfl rfl, h2 1 y v rfl rfl, h2 2 z t rfl rfl⟩
theorem dread_spec (s : Txt) (a b : Int) (hs : s.length ≤ 1000000) (ha : I64 a) (hb : I64 b) : FSpec Tryz.prog 110 [aS s, aI a, aI b] (.tup [aS (readD s a b).1, aI (readD s a b).2]) := fspec_plain (tup2_ra _ _) fun D w vs h => by
  obtain ⟨u, v, t, rfl, hu, hv, ht⟩ := ra3 h
  cases hu; cases hv; cases ht
  exact (data_Read s a b w (by omega) ha.1 ha.2 hb.1 hb.2).mono fun e w' ⟨g1, g2⟩ => ⟨g1, g2 ▸ Below.refl _ _⟩
theorem dwrite_spec (s : Txt) (a : Int) (t : Txt) (hs : s.length ≤ 1000000) (ha : I64 a) (ht : t.length ≤ 1000000) : FSpec Tryz.prog 111 [aS s, aI a, aS t] (.tup [aS (writeD s a t).1, aI (writeD s a t).2]) := fspec_plain (tup2_ra _ _) fun D w vs h => by
  obtain ⟨u, v, x, rfl, hu, hv, hx⟩ := ra3 h
  cases hu; cases hv; cases hx
  exact data_Write s a t w (by omega) (by omega) ha.1 ha.2
theorem dcut_spec (s : Txt) (n : Int) (hs : s.length ≤ 1000000) (hn : I64 n) : FSpec Tryz.prog 112 [aS s, aI n] (.tup [aS (cutD s n).1, aI (cutD s n).2]) := fspec_plain (tup2_ra _ _) fun D w vs h => by
  obtain ⟨u, v, rfl, hu, hv⟩ := RaAll.two h
  cases hu; cases hv
  exact data_Cut s n w (by omega) hn.1 hn.2
theorem dnames_spec (l : List Ent) (hl : l.length ≤ 1000000) : FSpec Tryz.prog 89 [.sl 2 false (l.map entA)] (.sl 1 false ((l.map Ent.name).map txA)) := by
  intro D w vs hD hv
  obtain ⟨u, rfl, hu⟩ := RaAll.one hv
  obtain ⟨A, c, rfl, he⟩ := ents_of_ra hu
  refine (callsIn_wide.1 (Names_in 3 (Nat.le_refl _) A c (lI l) (by rw [lI_len]; exact hl) w he)).mono ?_
  rintro e w' ⟨v, rfl, hown, hb⟩
  have hrow := Row.of_owns hown
  have e1 : (lI l).map (fun x => strV x.1) = (l.map Ent.name).map strV := by simp [lI]
  rw [e1] at hrow
  refine ⟨v, fun b => D b ∨ (w.heap.size ≤ b ∧ b < w'.heap.size), rfl, hb, fun b h => .inl h, fun b h => ?_, texts_ra hrow (at_both (At.of_owns hown) hrow.lies fun b h1 h2 => .inr ⟨h1, h2⟩)⟩
  rcases h with h | ⟨h1, h2⟩
  · exact ⟨Nat.lt_of_lt_of_le (hD b h) hb.size, .inl h⟩
  · exact ⟨h2, .inr h1⟩
def sizeN (n : Nod) : Int := if n.kind = 2 then (n.l.length : Int) else (n.text.length : Int)
structure Cal where
  kind : Int
  ino : Int
  to : Int
  at_ : Int
  many : Int
  name : Txt
  name2 : Txt
  text : Txt
structure Rep where
  e : Int
  a : Int
  b : Int
  n : Int
  text : Txt
  names : List Txt
  deriving DecidableEq
def calA (c : Cal) : List AV := [aI c.kind, aI c.ino, aI c.to, aI c.at_, aI c.many, aS c.name, aS c.name2, aS c.text]
def repA (r : Rep) : List AV := [aI r.e, aI r.a, aI r.b, aI r.n, aS r.text, .sl 1 false (r.names.map txA)]
def errR (e : Int) : Rep := ⟨e, 0, 0, 0, [], []⟩
structure OkCal (c : Cal) : Prop where
  kind : I64 c.kind
  ino : I64 c.ino
  to : I64 c.to
  at_ : I64 c.at_
  many : I64 c.many
  name : c.name.length ≤ 1000000
  name2 : c.name2.length ≤ 1000000
  text : c.text.length ≤ 1000000
theorem size_spec (n : Nod) : FSpec Tryz.prog 109 [.agg [aI n.ino, aI n.kind, aI n.links, aS n.text, .sl 2 false (n.l.map entA)]] (aI (sizeN n)) := by
  exact spec_vc (F := Tryz.f109) 400 (
 .new fun b1 => .r 1 <| .run 3 [b1 = b1] rt1 <|
 .br 5 (n.kind == 2) (fun q1 => have p1 := beqT q1; .run 3 [b1 = b1] rt1 <|
 .val 8 (show (aI ((n.l.map entA).length : Int) : AV) = aI (n.l.length : Int) from by rw [List.length_map]) <| .r 1 <| .fin (x := aI (n.l.length : Int)) (r := aI (sizeN n)) [] trivial (by exact Sub.of_eq (congrArg aI (by unfold sizeN; simp_all))))
 <| fun q1 => have p1 := beqF q1; .run 4 [b1 = b1] rt1 <|
 .fin (x := aI ((n.text).length : Int)) (r := aI (sizeN n)) [] trivial (by exact Sub.of_eq (congrArg aI (by unfold sizeN; simp_all)))) Tryz.func109 rfl (by kernel_rfl) (by kernel_rfl)
end Go.Proofs.YtkhnialfkndiiaaGreat
