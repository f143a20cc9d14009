/- redo: numbers, octet's and seal's contracts, records. Disks, as plain mathematics: sectors, writes, what is done. Rings; strings.CutPrefix, strings.Trim. Rows of writes and of marks in memory: what they read as, and those among the arguments. disk.pad, disk.there, disk.refused, copyholdref04.filled: they answer as the document says; old memory is as it was. disk.Right: it answers as the document says; old memory is as it was. disk.New: it answers as the document says; old memory is as it was. disk.writes (a range over a function), at the three rules that are handed in: what it hands on; old memory is as it was. -/
import Derived.Test.YtlcepboedifniaaGreatDoorMrgH
import Derived.Test.YtlcepboedifniaaGreatDoorMrgI
import Derived.Test.YtlcepboedifniaaGreatDoorMrgJ
import Derived.Test.YtlcepboedifniaaGreatDoorMrgA
import Derived.Test.YtlcepboedifniaaGreatDoorRows
import Derived.Test.YtlcepboedifniaaGreatDoorMrgG
import Derived.Test.YtlcepboedifniaaGreatDoorShelf
import Derived.RangeFuncNested
import Derived.RangeFuncBound
import Derived.RangeFuncCalls
import Derived.RangeFuncLeaves
import Derived.RangeFuncBox
import Derived.Shelf.Abstract
import Derived.Shelf.RegionOpen
import Derived.OwnWalkIn
import Derived.TacticsInMore
import Derived.LoopNIn
import Derived.LoopIn
set_option linter.unusedVariables false
set_option linter.unusedSimpArgs false
namespace Go.Proofs.YtlcepboedifniaaGreatDoor
open Go Go.RowKit Copyhold
theorem quoN {P : Program} {t : TypeId} {a b : Int} (h0 : 0 ≤ a) (h1 : a ≤ 9223372036854775807) (hb : 0 < b) (D : Nat → Prop) (w : World) (xo yo : Operand) (u v : Value) (hu : Ra D w (aI a) u) (hv : Ra D w (aI b) v) :
    ∃ r, ((do Go.eqGuard .quo t xo yo u v; Go.binOp .quo t u v) : Sem Value).run P w = .ok r w ∧ Ra D w (aI (a / b)) r := by
  cases hu; cases hv
  have h2 : a / b ≤ a := Int.ediv_le_self _ h0
  have h3 : 0 ≤ a / b := Int.ediv_nonneg h0 (by omega)
  have hb0 : ¬ b = 0 := by omega
  exact ⟨_, by simp [eqGuard, binOp, Op.intDiv, hb0, Int.tdiv_eq_ediv_of_nonneg h0, rng_wrap (show rng .i64 (a / b) from ⟨by omega, by omega⟩)], .val _⟩
theorem remN {P : Program} {t : TypeId} {a b : Int} (h0 : 0 ≤ a) (h1 : a ≤ 9223372036854775807) (hb : 0 < b) (D : Nat → Prop) (w : World) (xo yo : Operand) (u v : Value) (hu : Ra D w (aI a) u) (hv : Ra D w (aI b) v) :
    ∃ r, ((do Go.eqGuard .rem t xo yo u v; Go.binOp .rem t u v) : Sem Value).run P w = .ok r w ∧ Ra D w (aI (a % b)) r := by
  cases hu; cases hv
  have hb0 : ¬ b = 0 := by omega
  exact ⟨_, by simp [eqGuard, binOp, Op.intDiv, hb0, Int.tmod_eq_emod_of_nonneg h0], .val _⟩
theorem quoU {P : Program} {t : TypeId} {a b : Int} (h0 : 0 ≤ a) (h1 : a ≤ 18446744073709551615) (hb : 0 < b) (D : Nat → Prop) (w : World) (xo yo : Operand) (u v : Value) (hu : Ra D w (.val (.int .u64 a)) u) (hv : Ra D w (.val (.int .u64 b)) v) :
    ∃ r, ((do Go.eqGuard .quo t xo yo u v; Go.binOp .quo t u v) : Sem Value).run P w = .ok r w ∧ Ra D w (.val (.int .u64 (a / b))) r := by
  cases hu; cases hv
  have h2 : a / b ≤ a := Int.ediv_le_self _ h0
  have h3 : 0 ≤ a / b := Int.ediv_nonneg h0 (by omega)
  have hb0 : ¬ b = 0 := by omega
  exact ⟨_, by simp [eqGuard, binOp, Op.intDiv, hb0, Int.tdiv_eq_ediv_of_nonneg h0, rng_wrap (rngu h3 (by omega))], .val _⟩
theorem remU {P : Program} {t : TypeId} {a b : Int} (h0 : 0 ≤ a) (h1 : a ≤ 18446744073709551615) (hb : 0 < b) (D : Nat → Prop) (w : World) (xo yo : Operand) (u v : Value) (hu : Ra D w (.val (.int .u64 a)) u) (hv : Ra D w (.val (.int .u64 b)) v) :
    ∃ r, ((do Go.eqGuard .rem t xo yo u v; Go.binOp .rem t u v) : Sem Value).run P w = .ok r w ∧ Ra D w (.val (.int .u64 (a % b))) r := by
  cases hu; cases hv
  have hb0 : ¬ b = 0 := by omega
  exact ⟨_, by simp [eqGuard, binOp, Op.intDiv, hb0, Int.tmod_eq_emod_of_nonneg h0], .val _⟩
theorem addW {P : Program} {t : TypeId} {a b : Int} (D : Nat → Prop) (w : World) (xo yo : Operand) (u v : Value) (hu : Ra D w (.val (.int .u64 a)) u) (hv : Ra D w (.val (.int .u64 b)) v) :
    ∃ r, ((do Go.eqGuard .add t xo yo u v; Go.binOp .add t u v) : Sem Value).run P w = .ok r w ∧ Ra D w (.val (.int .u64 ((a + b) % 18446744073709551616))) r := by
  cases hu; cases hv
  exact ⟨_, by simp [eqGuard, binOp, Op.intArith, IntKind.wrap, IntKind.bits, IntKind.signed], .val _⟩
theorem fspec_plain {P : Program} {f : FuncId} {args : List AV} {r : AV} {v : Value} (hr : ∀ D w, Ra D w r v) (h : ∀ D w vs, RaAll D w args vs → Calls P f vs w (fun e w' => e = .returned v ∧ Below w.heap.size w w')) : FSpec P f args r := fun D w vs hD hv =>
  (h D w vs hv).mono fun e w' ⟨h1, h2⟩ => ⟨v, D, h1, h2, fun _ h => h, fun b hb => ⟨Nat.lt_of_lt_of_le (hD b hb) h2.size, .inl hb⟩, hr D w'⟩
theorem ra_one {D : Nat → Prop} {w : World} {x : AV} {vs : Array Value} (h : RaAll D w [x] vs) : ∃ u, vs = #[u] ∧ Ra D w x u := by
  have h1 := h.1
  have h0 : 0 < vs.size := by simp at h1; omega
  refine ⟨vs[0], ?_, h.2 0 _ _ rfl (Array.getElem?_eq_getElem h0)⟩
  apply Array.ext
  · simpa using h1.symm
  · intro i h2 h3
    have : i = 0 := by simp at h1; omega
    subst this
    rfl
theorem tup3_ra (a b c : Value) (D : Nat → Prop) (w : World) : Ra D w (.tup [.val a, .val b, .val c]) (.tuple #[a, b, c]) := .tup _ _ rfl fun j x v hx hv => by
  match j, hx, hv with
  | 0, hx, hv => cases hx; cases hv; exact .val _
  | 1, hx, hv => cases hx; cases hv; exact .val _
  | 2, hx, hv => cases hx; cases hv; exact .val _
  | j + 3, hx, _ => simp at hx
def U64 (n : Int) : Prop := 0 ≤ n ∧ n ≤ 18446744073709551615
theorem number_spec (n : Int) (h : U64 n) : FSpec Tryz.prog 31 [.val (.int .u64 n)] (aS (num8 n)) := fspec_plain (fun _ _ => .val _) fun D w vs hv => by
  obtain ⟨u, rfl, hu⟩ := ra_one hv
  cases hu
  exact number_old n h.1 h.2 w
set_option maxRecDepth 100000 in
theorem otext_spec (s : Txt) (h : s.length ≤ 70368744177664) : FSpec Tryz.prog 32 [aS s] (aS (textB s)) := fspec_plain (fun _ _ => .val _) fun D w vs hv => by
  obtain ⟨u, rfl, hu⟩ := ra_one hv
  cases hu
  exact octet_Text s w h
set_option maxRecDepth 100000 in
theorem rtext_spec (s : Txt) (h : s.length ≤ 70368744177664) : FSpec Tryz.prog 34 [aS s] (aS (textB s)) := fspec_plain (fun _ _ => .val _) fun D w vs hv => by
  obtain ⟨u, rfl, hu⟩ := ra_one hv
  cases hu
  exact ref_Text s w h
set_option maxRecDepth 100000 in
theorem sput_spec (s : Txt) (h : s.length ≤ 140737488355300) : FSpec Tryz.prog 30 [aS s] (aS (putB s)) := fspec_plain (fun _ _ => .val _) fun D w vs hv => by
  obtain ⟨u, rfl, hu⟩ := ra_one hv
  cases hu
  exact seal_Put s w h
set_option maxRecDepth 100000 in
theorem rput_spec (s : Txt) (h : s.length ≤ 140737488355300) : FSpec Tryz.prog 33 [aS s] (aS (putB s)) := fspec_plain (fun _ _ => .val _) fun D w vs hv => by
  obtain ⟨u, rfl, hu⟩ := ra_one hv
  cases hu
  exact ref_Put s w h
set_option maxRecDepth 100000 in
set_option maxHeartbeats 1000000 in
theorem take_aux {f : FuncId} {s : Txt} {m : Int} {x : Txt × Txt × Int} (h : ∀ w, Calls Tryz.prog f #[.string ⟨s.toArray⟩, .int .i64 m] w fun e w' => e = .returned (.tuple #[.string ⟨x.1.toArray⟩, .string ⟨x.2.1.toArray⟩, .int .i64 x.2.2]) ∧ Below w.heap.size w w') : FSpec Tryz.prog f [aS s, aI m] (.tup [aS x.1, aS x.2.1, aI x.2.2]) := fspec_plain (tup3_ra _ _ _) fun D w vs hvs => by
  obtain ⟨u, v, rfl, hu, hv2⟩ := hvs.two
  cases hu
  cases hv2
  exact h w
set_option maxRecDepth 100000 in
theorem otake_spec (s : Txt) (m : Int) (h : s.length ≤ 140737488355328) (hm : I64 m) : FSpec Tryz.prog 66 [aS s, aI m] (.tup [aS (takeText s m).1, aS (takeText s m).2.1, aI (takeText s m).2.2]) := take_aux fun w => octet_TakeText s m w h hm.1 hm.2
set_option maxRecDepth 100000 in
theorem rtake_spec (s : Txt) (m : Int) (h : s.length ≤ 140737488355328) (hm : I64 m) : FSpec Tryz.prog 51 [aS s, aI m] (.tup [aS (takeText s m).1, aS (takeText s m).2.1, aI (takeText s m).2.2]) := take_aux fun w => ref_TakeText s m w h hm.1 hm.2
def recB (n : Int) (s : Txt) : Txt := putB (num8 n ++ textB s)
theorem textB_len (s : Txt) (h : s.length < 18446744073709551616) : s.length + 1 ≤ (textB s).length ∧ (textB s).length ≤ s.length + 10 := by
  unfold textB
  rw [List.length_append]
  have h1 := numB_len10 s.length h
  have h2 := numB_pos s.length
  omega
theorem recB_len (n : Int) (s : Txt) : (recB n s).length = (textB s).length + 12 := by
  unfold recB putB
  rw [List.length_append, List.length_append, num8_len, tailB_len]
  omega
set_option maxRecDepth 100000 in
set_option maxHeartbeats 4000000 in
theorem record_spec (n : Int) (s : Txt) (hn : U64 n) (hs : s.length ≤ 1000000) : FSpec Tryz.prog 12 [.val (.int .u64 n), aS s] (aS (recB n s)) := by
  have ht := textB_len s (by omega)
  have h8 := num8_len n
  exact spec_vd Tryz.func12 (
 .r 1 <| .r 1 <| .call (number_spec n hn) <|
 .r 1 <| .call (otext_spec s (by omega)) <|
 .run 1 [(num8 n).length + (textB s).length ≤ 9223372036854775807] ⟨(by omega), trivial⟩ <|
 .call (sput_spec (num8 n ++ textB s) (by rw [List.length_append, num8_len]; omega)) <|
 .r 1 <| .fi (aS (recB n s)) [])
def sec (b : Nat) : Nat := (b + 63) / 64
def needB (s : Txt) : Nat := sec (recB 0 s).length
theorem sec_int (b : Nat) : ((b : Int) + 64 - 1) / 64 = (sec b : Int) := by unfold sec; omega
set_option maxRecDepth 100000 in
set_option maxHeartbeats 4000000 in
theorem sectors_spec (b : Nat) (hb : b ≤ 4611686018427387904) : FSpec Tryz.prog 35 [aI (b : Int)] (aI (sec b : Int)) := by
  exact spec_vd Tryz.func35 (
 .r 1 <| .run 3 [rng .i64 ((b : Int) + 64), rng .i64 (((b : Int) + 64) - 1)] ⟨rng64 (by omega) (by omega), rng64 (by omega) (by omega), trivial⟩ <|
 .binV .quo 3 (quoN (a := ((b : Int) + 64) - 1) (b := 64) (by omega) (by omega) (by omega)) <|
 .r 1 <| .f (aI (sec b : Int)) [] (aI ((((b : Int) + 64) - 1) / 64)) (by exact Sub.of_eq (congrArg aI (sec_int b))))
set_option maxRecDepth 100000 in
set_option maxHeartbeats 4000000 in
theorem need_spec (s : Txt) (hs : s.length ≤ 1000000) : FSpec Tryz.prog 14 [aS s] (aI (needB s : Int)) := by
  have ht := textB_len s (by omega)
  exact spec_vd Tryz.func14 (let R : AV := aI (needB s : Int);
 .r 1 <| .r 1 <| .call (record_spec 0 s ⟨by omega, by omega⟩ hs) <|
 .r 1 <| .call (sectors_spec (recB 0 s).length (by rw [recB_len]; omega)) <|
 .r 1 <| .fi R [])
end Go.Proofs.YtlcepboedifniaaGreatDoor

set_option linter.unusedVariables false
namespace Copyhold.Disk
open Go Go.RowKit Copyhold
abbrev PutW := Int × List UInt8
structure DiskW where
  kept : List (List UInt8)
  w : List PutW
  off : Bool
deriving DecidableEq
def padL (s : List UInt8) : List UInt8 := s ++ List.replicate (64 - s.length) 0
theorem padL_len (s : List UInt8) (h : s.length ≤ 64) : (padL s).length = 64 := by simp [padL]; omega
def thereB (n : Nat) (i : Int) : Bool := decide (0 ≤ i) && decide (i < n)
theorem thereB_iff (n : Nat) (i : Int) : thereB n i = true ↔ 0 ≤ i ∧ i < n := by simp [thereB]
def lets (n : Nat) (p : Nat → PutW → Bool) : Nat → List PutW → List PutW
  | _, [] => []
  | i, w :: ws => if thereB n w.1 && p i w then w :: lets n p (i + 1) ws else lets n p (i + 1) ws
theorem lets_append (n : Nat) (p : Nat → PutW → Bool) (a b : List PutW) (i : Nat) : lets n p i (a ++ b) = lets n p i a ++ lets n p (i + a.length) b := by
  induction a generalizing i with
  | nil => simp [lets]
  | cons w ws ih =>
    simp only [List.cons_append, lets, ih, List.length_cons]
    rw [show i + 1 + ws.length = i + (ws.length + 1) from by omega]
    split <;> rfl
theorem lets_step (n : Nat) (p : Nat → PutW → Bool) (ws : List PutW) (k : Nat) (h : k < ws.length) :
    lets n p 0 (ws.take (k + 1)) = lets n p 0 (ws.take k) ++ (if thereB n ws[k].1 && p k ws[k] then [ws[k]] else []) := by
  rw [List.take_succ_eq_append_getElem h, lets_append, Nat.zero_add, List.length_take, Nat.min_eq_left (by omega)]
  simp only [lets]
theorem lets_len (n : Nat) (p : Nat → PutW → Bool) (ws : List PutW) (i : Nat) : (lets n p i ws).length ≤ ws.length := by
  induction ws generalizing i with
  | nil => simp [lets]
  | cons w ws ih =>
    simp only [lets]
    split
    · simp; exact ih _
    · have := ih (i + 1); simp; omega
def doneL (l : List (List UInt8)) (ws : List PutW) : List (List UInt8) := ws.foldl (fun l p => l.set p.1.toNat p.2) l
theorem doneL_append (l : List (List UInt8)) (a b : List PutW) : doneL l (a ++ b) = doneL (doneL l a) b := by simp [doneL]
theorem doneL_len (l : List (List UInt8)) (ws : List PutW) : (doneL l ws).length = l.length := by
  induction ws generalizing l with
  | nil => rfl
  | cons w ws ih => show (doneL _ ws).length = _; rw [ih]; simp
def Right (d : DiskW) : Prop := (1 ≤ d.kept.length ∧ d.kept.length ≤ 4096) ∧ (∀ l ∈ d.kept, l.length = 64) ∧ ∀ p ∈ d.w, (0 ≤ p.1 ∧ p.1 < d.kept.length) ∧ p.2.length = 64
instance (d : DiskW) : Decidable (Right d) := inferInstanceAs (Decidable (_ ∧ _ ∧ _))
def imageL (d : DiskW) : List (List UInt8) := doneL d.kept (lets d.kept.length (fun _ _ => true) 0 d.w)
theorem lets_all {n : Nat} {ws : List PutW} (h : ∀ p ∈ ws, 0 ≤ p.1 ∧ p.1 < n) (i : Nat) : lets n (fun _ _ => true) i ws = ws := by
  induction ws generalizing i with
  | nil => rfl
  | cons w ws ih =>
    have h1 := (thereB_iff _ _).2 (h w List.mem_cons_self)
    rw [lets, if_pos (by rw [h1]; rfl), ih (fun p hp => h p (List.mem_cons_of_mem _ hp))]
theorem Right.there {d : DiskW} (h : Right d) : ∀ p ∈ d.w, 0 ≤ p.1 ∧ p.1 < d.kept.length := fun p hp => (h.2.2 p hp).1
theorem Right.image {d : DiskW} (h : Right d) : imageL d = doneL d.kept d.w := by rw [imageL, lets_all h.there]
theorem doneL_all64 {l : List (List UInt8)} {ws : List PutW} (h : ∀ x ∈ l, x.length = 64) (hw : ∀ p ∈ ws, p.2.length = 64) : ∀ x ∈ doneL l ws, x.length = 64 := by
  induction ws generalizing l with
  | nil => exact h
  | cons w ws ih =>
    show ∀ x ∈ doneL (l.set w.1.toNat w.2) ws, x.length = 64
    refine ih (fun x hx => ?_) fun p hp => hw p (List.mem_cons_of_mem _ hp)
    rcases List.mem_or_eq_of_mem_set hx with hx | rfl
    · exact h x hx
    · exact hw w List.mem_cons_self
end Copyhold.Disk

set_option linter.unusedVariables false
set_option linter.unusedSimpArgs false
namespace Go.Proofs.YtlcepboedifniaaGreatDoor
open Go Go.RowKit Copyhold
structure Rng where
  from_ : Int
  many : Int
structure Lg where
  at_ : Int
  used : Int
  first : Int
  many : Int
  deriving DecidableEq
abbrev Dsk := Copyhold.Disk.DiskW
def putA (p : Int × Txt) : List AV := [aI p.1, aS p.2]
def rngA (r : Rng) : List AV := [aI r.from_, aI r.many]
def lgA (l : Lg) : List AV := [aI l.at_, aI l.used, .val (.int .u64 l.first), aI l.many]
def dskA (d : Dsk) : List AV := [.sl 1 false (d.kept.map txA), .sl 2 false (d.w.map putA), aB d.off]
structure OkR (r : Rng) : Prop where
  f : I64 r.from_
  m : I64 r.many
structure OkL (l : Lg) : Prop where
  a : I64 l.at_
  u : I64 l.used
  f : U64 l.first
  m : I64 l.many
def ringP (n : Nat) (r : Rng) : Prop := 0 ≤ r.from_ ∧ 1 ≤ r.many ∧ r.from_ ≤ n ∧ r.many ≤ n - r.from_
def placeP (r : Rng) (a : Int) : Prop := 0 ≤ a ∧ a < r.many
set_option maxRecDepth 100000 in
set_option maxHeartbeats 4000000 in
theorem ringed_spec (d : Dsk) (r : Rng) (okr : OkR r) (hk : d.kept.length ≤ 1000000) : FSpec Tryz.prog 27 [.agg [.sl 1 false (d.kept.map txA), .sl 2 false (d.w.map putA), aB d.off], .agg [aI r.from_, aI r.many]] (aB (dP (ringP d.kept.length r))) := by
  obtain ⟨⟨o1, o2⟩, o3, o4⟩ := okr
  exact spec_vd Tryz.func27 (let R : AV := aB (dP (ringP d.kept.length r));
 .new fun b1 => .new fun b2 => .r 1 <| .u 4 [b2] <|
 .bd 8 (r.from_ ≥ 0) (fun p1 => .u 5 [b2] <|
 .bd 13 (r.many ≥ 1) (fun p2 => .u 5 [b2, b1] <|
 .lm 18 d.kept txA <| .r 3 <| .bd 21 (r.from_ ≤ (d.kept.length : Int)) (fun p3 => .u 5 [b2, b1] <|
 .lm 26 d.kept txA <| .run 6 [b2 = b2, rng .i64 ((d.kept.length : Int) - r.from_)] ⟨rfl, rng64 (by omega) (by omega), trivial⟩ <|
 .f R [] (aB (decide (r.many ≤ ((d.kept.length : Int) - r.from_)))) (by
    refine sE ?_
    unfold ringP
    simp only [decide_eq_true_eq]
    constructor <;> intro h <;> first | omega | exact ⟨by omega, by omega, by omega, by omega⟩))
 <| fun p3 => .r 11 <| .f (aB (dP (ringP d.kept.length r))) [] (aB false) (by exact sF (fun h => by unfold ringP at h; omega)))
 <| fun p2 => .r 19 <| .f (aB (dP (ringP d.kept.length r))) [] (aB false) (by exact sF (fun h => by unfold ringP at h; omega)))
 <| fun p1 => .r 24 <| .f (aB (dP (ringP d.kept.length r))) [] (aB false) (by exact sF (fun h => by unfold ringP at h; omega)))
set_option maxRecDepth 100000 in
set_option maxHeartbeats 4000000 in
theorem placed_spec (r : Rng) (a : Int) : FSpec Tryz.prog 28 [.agg [aI r.from_, aI r.many], aI a] (aB (dP (placeP r a))) := by
  exact spec_vd Tryz.func28 (let R : AV := aB (dP (placeP r a));
 .new fun b1 => .r 1 <| .r 3 <| .bd 7 (a ≥ 0) (fun p1 => .u 6 [b1] <|
 .f R [] (aB (decide (a < r.many))) (by
    refine sE ?_
    unfold placeP
    simp only [decide_eq_true_eq]
    omega))
 <| fun p1 => .r 6 <| .f (aB (dP (placeP r a))) [] (aB false) (by exact sF (fun h => by unfold placeP at h; omega)))
def roundF (r : Rng) (a : Int) : Int := if r.many < 1 then 0 else a % r.many
set_option maxRecDepth 100000 in
set_option maxHeartbeats 4000000 in
theorem round_spec (r : Rng) (a : Int) (h0 : 0 ≤ a) (h1 : a ≤ 9223372036854775807) : FSpec Tryz.prog 39 [.agg [aI r.from_, aI r.many], aI a] (aI (roundF r a)) := by
  exact spec_vd Tryz.func39 (
 .new fun b1 => .r 1 <| .u 3 [b1] <|
 .bd 7 (r.many < 1) (fun p1 => .r 1 <| .f (aI (roundF r a)) [] (aI 0) (by exact Sub.of_eq (congrArg aI (by unfold roundF; rw [if_pos (by omega)]))))
 <| fun p1 => .u 3 [b1] <|
 .binV .rem 3 (remN (a := a) (b := r.many) (by omega) (by omega) (by omega)) <|
 .r 1 <| .f (aI (roundF r a)) [] (aI (a % r.many)) (by exact Sub.of_eq (congrArg aI (by unfold roundF; rw [if_neg (by omega)]))))
def preB (s p : Txt) : Bool := decide (p.length ≤ s.length) && (s.take p.length == p)
theorem preB_iff {s p : Txt} : preB s p = true ↔ p <+: s := by
  unfold preB
  simp only [Bool.and_eq_true, decide_eq_true_eq, beq_iff_eq]
  constructor
  · rintro ⟨h1, h2⟩
    exact ⟨s.drop p.length, by rw [← h2]; simp [List.length_take, Nat.min_eq_left h1]⟩
  · rintro ⟨t, rfl⟩
    simp
def cutP (s p : Txt) : Txt × Bool := if preB s p = true then (s.drop p.length, true) else (s, false)
set_option maxRecDepth 100000 in
set_option maxHeartbeats 4000000 in
theorem hasPrefix_spec (s p : Txt) (hs : s.length ≤ 140737488355328) (hp : p.length ≤ 140737488355328) : FSpec Tryz.prog 91 [aS s, aS p] (aB (preB s p)) := by
  exact spec_vd Tryz.func91 (
 .r 1 <| .r 6 <| .bd 10 (((s).length : Int) ≥ ((p).length : Int)) (fun p1 => .r 3 <| .slcS s none (some ((p).length : Int)) 0 ((p).length) (.inl ⟨rfl, rfl⟩) (.inr rfl) (by first | omega | (simp; done) | (simp; omega)) (by first | omega | (simp; done) | (simp; omega)) <|
 .r 4 <| .f (aB (preB s p)) [] (aB (((s.take ((p).length)).drop 0) == p)) (by exact Sub.of_eq (congrArg aB (by unfold preB; first | (simp_all; done) | (simp_all; omega)))))
 <| fun p1 => .r 8 <| .f (aB (preB s p)) [] (aB false) (by exact Sub.of_eq (congrArg aB (by unfold preB; first | (simp_all; done) | (simp_all; omega)))))
set_option maxRecDepth 100000 in
set_option maxHeartbeats 4000000 in
theorem cutPrefixL_spec (s p : Txt) (hs : s.length ≤ 140737488355328) (hp : p.length ≤ 140737488355328) : FSpec Tryz.prog 75 [aS s, aS p] (.tup [aS (cutP s p).1, aB (cutP s p).2]) := by
  exact spec_vd Tryz.func75 (
 .r 2 <| .r 2 <| .call (hasPrefix_spec s p hs hp) <|
 .r 1 <| .br 9 (!(preB s p)) (fun q1 => have q1 := notT q1; have p1 := booF q1; .r 3 <| .f (.tup [aS (cutP s p).1, aB (cutP s p).2]) [] (.tup [aS s, aB false]) (by
    rw [show cutP s p = _ from if_neg (by rw [q1]; decide)]
    exact Sub.tups ⟨Sub.of_eq (congrArg aS (by first | rfl | simp)), Sub.refl _, trivial⟩))
 <| fun q1 => have q1 := notF q1; have p1 := booT q1; have hpl := preB_iff.1 q1 |>.length_le; .r 3 <| .slcS s (some ((p).length : Int)) none ((p).length) s.length (.inr rfl) (.inl ⟨rfl, rfl⟩) (by first | omega | (simp; done) | (simp; omega)) (by first | omega | (simp; done) | (simp; omega)) <|
 .r 2 <| .f (.tup [aS (cutP s p).1, aB (cutP s p).2]) [] (.tup [aS ((s.take s.length).drop ((p).length)), aB true]) (by
    rw [show cutP s p = _ from if_pos q1]
    exact Sub.tups ⟨Sub.of_eq (congrArg aS (by first | rfl | simp)), Sub.refl _, trivial⟩))
set_option maxRecDepth 100000 in
set_option maxHeartbeats 4000000 in
theorem cutPrefix_spec (s p : Txt) (hs : s.length ≤ 140737488355328) (hp : p.length ≤ 140737488355328) : FSpec Tryz.prog 65 [aS s, aS p] (.tup [aS (cutP s p).1, aB (cutP s p).2]) := by
  exact spec_vd Tryz.func65 (let R : AV := .tup [aS (cutP s p).1, aB (cutP s p).2];
 .r 2 <| .r 2 <| .call (cutPrefixL_spec s p hs hp) <|
 .r 4 <| .fi R [])
end Go.Proofs.YtlcepboedifniaaGreatDoor

set_option linter.unusedVariables false
namespace Copyhold.Disk
open Go Go.RowKit
def putC (x : PutW) : List Value := [.int .i64 x.1, strV x.2]
def Puts (w : World) (v : Value) (l : List PutW) : Prop := Sl w 2 v l.length (l.flatMap putC)
def okPut (x : PutW) : Prop := x.2.length ≤ 140737488351232 ∧ -9223372036854775808 ≤ x.1 ∧ x.1 ≤ 9223372036854775807
def OkPuts (l : List PutW) : Prop := ∀ x ∈ l, okPut x
theorem putC_get : ∀ (l : List PutW) (i : Nat), (l.flatMap putC)[i * 2]? = l[i]?.map (fun x => .int .i64 x.1) ∧ (l.flatMap putC)[i * 2 + 1]? = l[i]?.map (fun x => strV x.2)
  | [], i => by simp
  | x :: l, 0 => by simp [putC]
  | x :: l, i + 1 => by
    have h := putC_get l i
    rw [List.flatMap_cons]
    constructor
    · rw [List.getElem?_append_right (by simp [putC]; omega)]
      simp only [putC, List.length_cons, List.length_nil]
      rw [show (i + 1) * 2 - (0 + 1 + 1) = i * 2 from by omega, h.1]
      simp
    · rw [List.getElem?_append_right (by simp [putC]; omega)]
      simp only [putC, List.length_cons, List.length_nil]
      rw [show (i + 1) * 2 + 1 - (0 + 1 + 1) = i * 2 + 1 from by omega, h.2]
      simp
theorem putC_len (l : List PutW) : (l.flatMap putC).length = l.length * 2 := by
  induction l with
  | nil => rfl
  | cons x l ih => rw [List.flatMap_cons, List.length_append, ih]; simp [putC]; omega
theorem Puts.shape {w : World} {v : Value} {l : List PutW} (h : Puts w v l) : ∃ A c, v = .slice A l.length c ∧ l.length ≤ c := by
  obtain ⟨A, c, rfl, hc, _⟩ := Sl.shape h
  exact ⟨A, c, rfl, hc⟩
theorem Puts.below {w w' : World} {v : Value} {l : List PutW} (h : Puts w v l) (hb : Below w.heap.size w w') : Puts w' v l := Sl.below h hb
theorem Puts.nil (w : World) : Puts w (.slice none 0 0) [] := Sl.nil w 2
theorem Puts.at {w : World} {A : Option Addr} {c : Nat} {l : List PutW} (h : Puts w (.slice A l.length c) l) (k : Nat) (hk : k < l.length) :
    ∃ b off, A = some ⟨b, off, none⟩ ∧ b < w.heap.size ∧ l.length ≤ c ∧ w.cell? ⟨b, off + k * 2, none⟩ = some (.int .i64 l[k].1) ∧ w.cell? ⟨b, off + k * 2 + 1, none⟩ = some (.string ⟨(l[k].2).toArray⟩) := by
  obtain ⟨b, off, rfl, hb, hc, _, hcell⟩ := Sl.at h (by omega)
  have hg := putC_get l k
  rw [List.getElem?_eq_getElem hk] at hg
  exact ⟨b, off, rfl, hb, hc, hcell _ _ hg.1, by rw [Nat.add_assoc]; exact hcell _ _ hg.2⟩
end Copyhold.Disk
namespace Go.Proofs.YtlcepboedifniaaGreatDoor
open Go.RowKit Go.ChangeShapes Go.WideShapes Go.ChangeAt Copyhold Copyhold.Disk
end Go.Proofs.YtlcepboedifniaaGreatDoor

set_option linter.unusedVariables false
namespace Go.Proofs.YtlcepboedifniaaGreatDoor
open Go.RowKit Copyhold Copyhold.Disk
theorem repeat_zero (n : Nat) : Lib.repeatL [0] n = List.replicate n (0 : UInt8) := by
  induction n with
  | zero => rfl
  | succ n ih => simp only [Lib.repeatL] at *; simp [ih, List.replicate_succ]
set_option maxHeartbeats 1000000 in
theorem disk_pad (s : List UInt8) (w : World) (h : s.length ≤ 64) :
    Calls Tryz.prog 58 #[.string ⟨s.toArray⟩] w fun e w' => e = .returned (.string ⟨(padL s).toArray⟩) ∧ Below w.heap.size w w' := by
  have hc : ((64 : Int) - (s.length : Int)) = ((64 - s.length : Nat) : Int) := by omega
  have HR := Lib.hid (fun W => Tryz.strings_Repeat ⟨#[0]⟩ (64 - s.length) W (by omega) (by simp [ByteArray.size]; omega))
  have hl : (Lib.repeatL [0] (64 - s.length)).length ≤ 64 := by rw [repeat_zero]; simp
  have hq : ¬ 9223372036854775807 < s.length + (Lib.repeatL [0] (64 - s.length)).length := by omega
  have hp : padL s = s ++ Lib.repeatL [0] (64 - s.length) := by rw [repeat_zero]; rfl
  have HP := Lib.hid hp
  have HC := Lib.hid hc
  clear hp hc
  go_enter Tryz.func58, Tryz.ntmps58
  go_wp2_with fail
  rw [HC.out]
  refine (HR.out _).mono ?_
  rintro e w1 ⟨rfl, hb⟩
  generalize Lib.repeatL [0] (64 - s.length) = z at *
  go_wp2_with fail
  go_ret
  exact ⟨by rw [HP.out]; rfl, hb⟩
theorem disk_there (A B : Option Addr) (n m c d : Nat) (off : Bool) (i : Int) (w : World) (hn : n ≤ 8796093022208) :
    Calls Tryz.prog 69 #[.agg #[.slice A n c, .slice B m d, .bool off], .int .i64 i] w fun e w' => e = .returned (.bool (thereB n i)) ∧ w' = w.alloc (.cells #[.slice A n c, .slice B m d, .bool off] 25) := by
  by_cases h0 : 0 ≤ i
  · by_cases h1 : i < n
    · have ht : thereB n i = true := (thereB_iff _ _).2 ⟨h0, h1⟩
      have HT := Lib.hid ht
      clear ht
      go_enter Tryz.func69, Tryz.ntmps69
      go_wp2_with fail
      go_ret
      exact ⟨by rw [HT.out]; rfl, rfl⟩
    · have ht : thereB n i = false := by unfold thereB; simp; omega
      have HT := Lib.hid ht
      clear ht
      go_enter Tryz.func69, Tryz.ntmps69
      go_wp2_with fail
      go_ret
      exact ⟨by rw [HT.out]; rfl, rfl⟩
  · have ht : thereB n i = false := by unfold thereB; simp; omega
    have HT := Lib.hid ht
    clear ht
    go_enter Tryz.func69, Tryz.ntmps69
    go_wp2_with fail
    go_ret
    exact ⟨by rw [HT.out]; rfl, rfl⟩
set_option maxHeartbeats 1000000 in
theorem ref04_filled (s : List UInt8) (w : World) (h : s.length ≤ 64) :
    Calls Tryz.prog 40 #[.string ⟨s.toArray⟩] w fun e w' => e = .returned (.string ⟨(padL s).toArray⟩) ∧ w' = w := by
  go_enter Tryz.func40, Tryz.ntmps40
  go_wp2_with fail
  go_loop [0] (fun v => ∃ k : Nat, s.length + k ≤ 64 ∧ v = .string ⟨(s ++ List.replicate k 0).toArray⟩) (fun v => 64 - (match v with | .string b => b.size | _ => 0))
  case atStart => exact ⟨0, by omega, by simp⟩
  case round =>
    obtain ⟨k, hk, rfl⟩ := hrel
    have hl : (s ++ List.replicate k (0 : UInt8)).length = s.length + k := by simp
    have hst : s ++ List.replicate (k + 1) (0 : UInt8) = (s ++ List.replicate k 0) ++ [0] := by rw [List.replicate_succ', List.append_assoc]
    have HST := Lib.hid hst
    have HL := Lib.hid hl
    by_cases hlt : s.length + k < 64
    · have hl1 : (s ++ List.replicate k (0 : UInt8)).length < 64 := by omega
      have h1 : (⟨#[0]⟩ : ByteArray) = ⟨([0] : List UInt8).toArray⟩ := rfl
      generalize hz : s ++ List.replicate k (0 : UInt8) = z at *
      have hq : ¬ 9223372036854775807 < z.length + ([0] : List UInt8).length := by simp; omega
      clear hl hst
      rw [h1]
      go_wp2_with fail
      go_round
      case rel => exact ⟨k + 1, by omega, by rw [HST.out]⟩
      case measure => simp [ByteArray.size]; omega
    · have hfin : padL s = s ++ List.replicate k 0 := by unfold padL; rw [show 64 - s.length = k from by omega]
      have HF := Lib.hid hfin
      have hl1 : ¬ (s ++ List.replicate k (0 : UInt8)).length < 64 := by omega
      generalize hz : s ++ List.replicate k (0 : UInt8) = z at *
      clear hl hst hfin
      go_wp2_with fail
      go_ret
      exact ⟨by rw [HF.out]; rfl, rfl⟩
end Go.Proofs.YtlcepboedifniaaGreatDoor

set_option linter.unusedVariables false
namespace Copyhold.Disk
open Go Go.RowKit
def OkD (d : DiskW) : Prop := d.kept.length ≤ 8796093022208 ∧ (∀ l ∈ d.kept, l.length ≤ 140737488351232) ∧ OkPuts d.w ∧ d.w.length ≤ 5864062014634
def DiskV (w : World) (v : Value) (d : DiskW) : Prop := ∃ A c B e, v = .agg #[.slice A d.kept.length c, .slice B d.w.length e, .bool d.off] ∧ Row w (.slice A d.kept.length c) (d.kept.map strV) ∧ Puts w (.slice B d.w.length e) d.w
theorem DiskV.below {w w' : World} {v : Value} {d : DiskW} (h : DiskV w v d) (hb : Below w.heap.size w w') : DiskV w' v d := by
  obtain ⟨A, c, B, e, rfl, h1, h2⟩ := h
  exact ⟨A, c, B, e, rfl, h1.below hb, h2.below hb⟩
end Copyhold.Disk
namespace Go.Proofs.YtlcepboedifniaaGreatDoor
open Go.RowKit Copyhold Copyhold.Disk
end Go.Proofs.YtlcepboedifniaaGreatDoor

set_option linter.unusedVariables false
set_option linter.unusedSimpArgs false
namespace Go.Proofs.YtlcepboedifniaaGreatDoor
open Go.RowKit Copyhold Copyhold.Disk
theorem strElem : Elem Tryz.prog 22 9 (Value.string ByteArray.empty) 1 16 := ⟨by kernel_rfl, by kernel_rfl, rfl, by decide⟩
theorem DiskV.empty (w : World) : DiskV w (.agg #[.slice none 0 0, .slice none 0 0, .bool false]) ⟨[], [], false⟩ := ⟨none, 0, none, 0, rfl, .inl ⟨none, 0, rfl, rfl⟩, Puts.nil w⟩
end Go.Proofs.YtlcepboedifniaaGreatDoor

set_option linter.unusedVariables false
namespace Copyhold.Disk
open Go Go.RowKit
def KeepD (S : Nat → Prop) (W W' : World) : Prop := W.heap.size ≤ W'.heap.size ∧ ∀ k, S k → k < W.heap.size → W'.heap[k]? = W.heap[k]?
theorem KeepD.refl (S : Nat → Prop) (W : World) : KeepD S W W := ⟨Nat.le_refl _, fun _ _ _ => rfl⟩
theorem KeepD.trans {S : Nat → Prop} {A B C : World} (h : KeepD S A B) (k : KeepD S B C) : KeepD S A C := ⟨Nat.le_trans h.1 k.1, fun j hj hl => (k.2 j hj (Nat.lt_of_lt_of_le hl h.1)).trans (h.2 j hj hl)⟩
theorem KeepD.alloc {S : Nat → Prop} {W W' : World} (h : KeepD S W W') (o : Obj) : KeepD S W (W'.alloc o) := h.trans ⟨by simp, fun k _ hk => Below.heap_alloc W' o k hk⟩
theorem KeepD.putObj {S : Nat → Prop} {B : Nat} (hs : ∀ k, S k → k < B) (W : World) (l : Nat) (o : Obj) (hl : B ≤ l) : KeepD S W (W.putObj l o) := ⟨by simp, fun k hk _ => World.putObj_heap_other (fun e => by have := hs k hk; omega)⟩
theorem _root_.Copyhold.TBox.keepD {S : Nat → Prop} {W W' : World} {B : Nat} {T : TypeId} {cs : Array Value} (h : TBox W B T cs) (k : KeepD S W W') (hS : S B) : TBox W' B T cs := (k.2 B hS h.lt).trans h
theorem Puts.keepD {S : Nat → Prop} {W W' : World} {v : Value} {l : List PutW} (h : Puts W v l) (hat : At S v) (k : KeepD S W W') : Puts W' v l := Sl.frame h hat k.2 k.1
theorem Row.keepD {S : Nat → Prop} {W W' : World} {v : Value} {xs : List Value} (h : Row W v xs) (hat : At S v) (k : KeepD S W W') : Row W' v xs := Row.frame h hat k.2 k.1
abbrev PutS (n : Nat) : Type := { x : PutW // (0 ≤ x.1 ∧ x.1 < n) ∧ x.2.length ≤ 140737488351232 }
end Copyhold.Disk
namespace Go.Proofs.YtlcepboedifniaaGreatDoor
open Go.RowKit Go.Shelf Copyhold Copyhold.Disk
attribute [local go_sem] Oper.semAt_some
theorem abides_alloc {β : Type} {B : Nat} {J : β → World → Prop} (h : AbidesFrom B J) {s : β} {W : World} (o : Obj) (hs : J s W) : J s (W.alloc o) :=
  h s W _ none hs (World.grownBy_alloc W o none) (fun r e => by cases e)
def LetK (F : FuncId) (caps : Array Value) (S : Nat → Prop) (W : World) (p : Nat → PutW → Bool) : Prop :=
  ∀ (i : Nat) (x : PutW) (W' : World), KeepD S W W' → i ≤ 5864062014634 → x.2.length ≤ 140737488351232 → Calls Tryz.prog F (#[.int .i64 (i : Int), .agg #[.int .i64 x.1, .string ⟨x.2.toArray⟩]] ++ caps) W' fun e W2 => e = .returned (.bool (p i x)) ∧ W2 = W'.alloc (.cells #[.int .i64 x.1, .string ⟨x.2.toArray⟩] 78)
theorem let_all (S : Nat → Prop) (W : World) : LetK 64 #[] S W (fun _ _ => true) := by
  intro i x W' hk hi hx
  obtain ⟨at', s⟩ := x
  show Calls Tryz.prog 64 #[.int .i64 (i : Int), .agg #[.int .i64 at', .string ⟨s.toArray⟩]] W' _
  go_enter Tryz.func64, Tryz.ntmps64
  go_wp2_with fail
  go_ret
  exact ⟨rfl, rfl⟩
theorem writes_in (n : Nat) (A B : Option Addr) (m k c eb : Nat) (off : Bool) (fv : Value) (hfv : ∃ F caps, fv = .func (.func F) #[] caps) (w : World) :
    CallsIn Fence.wide n Tryz.prog 74 #[.agg #[.slice A m c, .slice B k eb, .bool off], fv] w fun e w' => e = .returned (.func (.func 90) #[] #[.pointer (some ⟨w.heap.size, 0, none⟩), .pointer (some ⟨w.heap.size + 1, 0, none⟩)]) ∧
      w' = (w.alloc (.cells #[.slice A m c, .slice B k eb, .bool off] 25)).alloc (.cells #[fv] 110) := by
  obtain ⟨F, caps, rfl⟩ := hfv
  refine callsIn_of_wp Tryz.func74 rfl trivial ?_ rfl
  simp only [Tryz.ntmps74, List.size_toArray, List.length_cons, List.length_nil, Nat.reduceAdd, Nat.reduceSub, Array.replicate_succ, Array.replicate_zero, List.push_toArray, List.append_toArray, List.nil_append, List.cons_append]
  gi_wp2
  go_ret
  exact ⟨rfl, rfl⟩
set_option maxRecDepth 100000 in
set_option maxHeartbeats 4000000 in
theorem writes1_all (n : Nat) (hn : 1 ≤ n) (S : Nat → Prop) (l bd bl : Nat) (A B : Option Addr) (c eb : Nat) (kn : Nat) (ws : List PutW) (off : Bool) (p : Nat → PutW → Bool) (hkn : kn ≤ 8796093022208) (hok : OkPuts ws) (hm : ws.length ≤ 5864062014634) (J Jx : List (PutS kn) → World → Prop)
    (hY : ∀ pre (x : PutS kn) W, J pre W → pre.length < ws.length → YieldAt Fence.wide (n - 1) Tryz.prog l #[.int .i64 x.1.1, .string ⟨x.1.2.toArray⟩] W fun e W' =>
      (e = .returned (.bool true) ∧ J (pre ++ [x]) W' ∧ KeepD S W W') ∨ (e = .returned (.bool false) ∧ Jx (pre ++ [x]) W'))
    (hJa : ∀ pre W o, J pre W → J pre (W.alloc o))
    (W : World) (hbd : TBox W bd 25 #[.slice A kn c, .slice B ws.length eb, .bool off]) (sd : S bd) (hbl : TBox W bl 110 #[.func (.func 64) #[] #[]]) (sl : S bl)
    (hp : Puts W (.slice B ws.length eb) ws) (hat : At S (.slice B ws.length eb)) (hlet : LetK 64 #[] S W p) (h0 : J [] W) :
    CallsIn Fence.wide n Tryz.prog 90 #[.func (.yield l) #[] #[], .pointer (some ⟨bd, 0, none⟩), .pointer (some ⟨bl, 0, none⟩)] W fun e W' => (∃ v, e = .returned v) ∧
      ((∃ ys : List (PutS kn), ys.map (·.1) = lets kn p 0 ws ∧ J ys W') ∨ (∃ pre : List (PutS kn), True ∧ Jx pre W')) := by
  have HBD := Lib.hid hbd
  have HBL := Lib.hid hbl
  have HP := Lib.hid hp
  have HAT := Lib.hid hat
  have HLET := Lib.hid hlet
  have HSD := Lib.hid sd
  have HSL := Lib.hid sl
  have HOK := Lib.hid hok
  have HJA := Lib.hid hJa
  have i0 : W.cell? ⟨bd, 1, none⟩ = some (.slice B ws.length eb) := hbd.cell 1
  clear hbd hbl hp hat hlet sd sl hok hJa
  refine callsIn_of_wp Tryz.func90 rfl trivial ?_ rfl
  simp only [Tryz.ntmps90, List.size_toArray, List.length_cons, List.length_nil, Nat.reduceAdd, Nat.reduceSub, Array.replicate_succ, Array.replicate_zero, List.push_toArray, List.append_toArray, List.nil_append, List.cons_append]
  gi_wp2
  gi_loopw [9] (fun i wr => ∃ (k : Nat) (pre : List (PutS kn)), k ≤ ws.length ∧ i = .int .i64 k ∧ pre.map (·.1) = lets kn p 0 (ws.take k) ∧ J pre wr ∧ KeepD S W wr)
    (fun i _ => ws.length - (intOf i).toNat)
  case atStart => exact ⟨0, [], Nat.zero_le _, rfl, rfl, h0, KeepD.refl _ _⟩
  case round =>
    obtain ⟨k, pre, hk, rfl, hpre, hJs, hkd⟩ := hrel
    have HJS := Lib.hid hJs
    have HKD := Lib.hid hkd
    have HPRE := Lib.hid hpre
    clear hJs hkd hpre i0
    by_cases hlt : k < ws.length
    · have HY := Lib.hid hY
      have hp' := Puts.keepD HP.out HAT.out HKD.out
      obtain ⟨b, off', rfl, hbk, _, e0, e1⟩ := hp'.at k hlt
      have tb := HBD.out.keepD HKD.out HSD.out
      have tl := HBL.out.keepD HKD.out HSL.out
      have d0 : wr.cell? ⟨bd, 0, none⟩ = some (.slice A kn c) := tb.cell 0
      have d1 : wr.cell? ⟨bd, 1, none⟩ = some (.slice (some ⟨b, off', none⟩) ws.length eb) := tb.cell 1
      have d2 : wr.cell? ⟨bd, 2, none⟩ = some (.bool off) := tb.cell 2
      have l0 : wr.cell? ⟨bl, 0, none⟩ = some (.func (.func 64) #[] #[]) := tl.cell 0
      have dl := tb.lt
      have ll := tl.lt
      obtain ⟨hx, hx1, hx2⟩ := HOK.out ws[k] (List.getElem_mem hlt)
      have hst := lets_step kn p ws k hlt
      have HST := Lib.hid hst
      have hplen : pre.length < ws.length := by
        have h1 := congrArg List.length HPRE.out
        have h2 := lets_len kn p (ws.take k) 0
        simp at h1 h2
        omega
      have HTHR : Hid (∀ W, Calls Tryz.prog 69 #[.agg #[.slice A kn c, .slice (some ⟨b, off', none⟩) ws.length eb, .bool off], .int .i64 ws[k].1] W fun e w' => e = .returned (.bool (thereB kn ws[k].1)) ∧ w' = W.alloc (.cells #[.slice A kn c, .slice (some ⟨b, off', none⟩) ws.length eb, .bool off] 25)) :=
        Lib.hid (fun W => disk_there A (some ⟨b, off', none⟩) kn ws.length c eb off ws[k].1 W hkn)
      have HLT := Lib.hid (fun W' hk' => HLET.out k ws[k] W' hk' (by omega) hx)
      clear hp' tb tl hst hY
      generalize hxx : ws[k] = x at *
      obtain ⟨i, s⟩ := x
      simp only at e0 e1 hx hx1 hx2 HTHR HST HLT
      cases ht : thereB kn i with
      | false =>
        rw [ht] at HTHR HST
        have HSE : Hid (lets kn p 0 (ws.take (k + 1)) = lets kn p 0 (ws.take k)) := Lib.hid (by rw [HST.out]; simp)
        clear HST HLT ht
        gi_wp2_with (refine ⟨trivial, ?_⟩; gi_at_call 69; refine (callsIn_wide.2 (HTHR.out _)).mono ?_; rintro e w1 ⟨rfl, rfl⟩)
        refine ⟨fun _ h => (by cases h), ?_⟩
        gi_wp2
        go_roundw
        case rel => exact ⟨k + 1, pre, by omega, by go_num, by rw [HPRE.out, HSE.out], HJA.out _ _ _ (HJA.out _ _ _ HJS.out), (HKD.out.alloc _).alloc _⟩
        case measure => simp [intOf]; omega
      | true =>
        have HTB := Lib.hid ht
        rw [ht] at HTHR HST
        cases hpk : p k (i, s) with
        | false =>
          rw [hpk] at HLT HST
          have HSE : Hid (lets kn p 0 (ws.take (k + 1)) = lets kn p 0 (ws.take k)) := Lib.hid (by rw [HST.out]; simp)
          clear HST hpk ht
          gi_wp2_with (first | (refine ⟨trivial, ?_⟩; gi_at_call 69; refine (callsIn_wide.2 (HTHR.out _)).mono ?_; rintro e w1 ⟨rfl, rfl⟩) | (refine ⟨trivial, ?_⟩; gi_at_call 64; refine (callsIn_wide.2 (HLT.out _ ((HKD.out.alloc _).alloc _))).mono ?_; rintro e w2 ⟨rfl, rfl⟩))
          refine ⟨fun _ h => (by cases h), ?_⟩
          gi_wp2
          go_roundw
          case rel => exact ⟨k + 1, pre, by omega, by go_num, by rw [HPRE.out, HSE.out], HJA.out _ _ _ (HJA.out _ _ _ (HJA.out _ _ _ HJS.out)), ((HKD.out.alloc _).alloc _).alloc _⟩
          case measure => simp [intOf]; omega
        | true =>
          rw [hpk] at HLT HST
          have hxs : (0 ≤ i ∧ i < kn) ∧ s.length ≤ 140737488351232 := ⟨(thereB_iff _ _).1 ht, hx⟩
          have HSE : Hid (lets kn p 0 (ws.take (k + 1)) = lets kn p 0 (ws.take k) ++ [(i, s)]) := Lib.hid (by rw [HST.out]; simp)
          obtain ⟨fn, tmps, assign, body, hy, hR⟩ := HY.out pre ⟨(i, s), hxs⟩ (((wr.alloc (.cells #[.int .i64 i, .string ⟨s.toArray⟩] 78)).alloc (.cells #[.slice A kn c, .slice (some ⟨b, off', none⟩) ws.length eb, .bool off] 25)).alloc (.cells #[.int .i64 i, .string ⟨s.toArray⟩] 78)) (HJA.out _ _ _ (HJA.out _ _ _ (HJA.out _ _ _ HJS.out))) hplen
          dsimp only at hy
          have HR := Lib.hid hR
          clear HST hpk ht hR
          gi_wp2_with (first | (refine ⟨trivial, ?_⟩; gi_at_call 69; refine (callsIn_wide.2 (HTHR.out _)).mono ?_; rintro e w1 ⟨rfl, rfl⟩) | (refine ⟨trivial, ?_⟩; gi_at_call 64; refine (callsIn_wide.2 (HLT.out _ ((HKD.out.alloc _).alloc _))).mono ?_; rintro e w2 ⟨rfl, rfl⟩))
          refine HR.out.mono ?_
          rintro e W3 (⟨rfl, hJ3, hk3⟩ | ⟨rfl, hJx3⟩)
          · gi_wp2
            go_roundw
            case rel => exact ⟨k + 1, pre ++ [⟨(i, s), hxs⟩], by omega, by go_num, by rw [List.map_append, HPRE.out, HSE.out]; rfl, hJ3, (((HKD.out.alloc _).alloc _).alloc _).trans hk3⟩
            case measure => simp [intOf]; omega
          · gi_wp2
            refine bodyPost_ret (results_none rfl _ _ _) rfl ?_
            exact ⟨⟨_, rfl⟩, .inr ⟨_, trivial, hJx3⟩⟩
    · obtain rfl : k = ws.length := by omega
      have hfin : pre.map (·.1) = lets kn p 0 ws := by rw [HPRE.out, List.take_length]
      have HF := Lib.hid hfin
      clear hfin
      have hJs := HJS.out
      gi_wp2
      go_end0
      exact ⟨⟨_, rfl⟩, .inl ⟨pre, HF.out, HJS.out⟩⟩
theorem stops_all (n : Nat) (hn : 1 ≤ n) (S : Nat → Prop) (bd bl : Nat) (A B : Option Addr) (c eb : Nat) (kn : Nat) (ws : List PutW) (off : Bool) (p : Nat → PutW → Bool) (hkn : kn ≤ 8796093022208) (hok : OkPuts ws) (hm : ws.length ≤ 5864062014634)
    (w : World) (hbd : TBox w bd 25 #[.slice A kn c, .slice B ws.length eb, .bool off]) (sd : S bd) (hbl : TBox w bl 110 #[.func (.func 64) #[] #[]]) (sl : S bl)
    (hp : Puts w (.slice B ws.length eb) ws) (hat : At S (.slice B ws.length eb)) (hlet : ∀ W, KeepD S w W → LetK 64 #[] S W p) :
    SeqStopsK Fence.wide n Tryz.prog 90 #[.pointer (some ⟨bd, 0, none⟩), .pointer (some ⟨bl, 0, none⟩)] (fun x : PutS kn => #[Value.int .i64 x.1.1, .string ⟨x.1.2.toArray⟩]) (KeepD S) (fun ys => ys.map (·.1) = lets kn p 0 ws) (fun _ => True) ws.length w := fun l J Jx W hW hJ _ hY h0 =>
  writes1_all n hn S l bd bl A B c eb kn ws off p hkn hok hm J Jx hY (fun pre W o h => abides_alloc hJ o h) W (TBox.below hbd hW) sd (TBox.below hbl hW) sl (hp.below hW) hat (hlet W ⟨hW.size, fun k _ hk => hW.block k hk⟩) h0
end Go.Proofs.YtlcepboedifniaaGreatDoor
