import Derived.Test.YtkhnialfkndiiaaGreatMrgZ
import Derived.Test.YtkhnialfkndiiaaGreatOpsD11
import Derived.Test.YtkhnialfkndiiaaGreatMrgI
import Derived.Test.YtkhnialfkndiiaaGreatMrgAA
import Derived.Test.YtkhnialfkndiiaaGreatRfI11
set_option maxRecDepth 100000
set_option maxHeartbeats 8000000
set_option linter.unusedVariables false
set_option linter.unusedSimpArgs false
namespace Go.Proofs.YtkhnialfkndiiaaGreat
open Go Go.RowKit Copyhold
structure OkC0 (c : Cal) : Prop where
 kind : I64 c.kind
 ino : I64 c.ino
 to : I64 c.to
 at_ : I64 c.at_
 many : I64 c.many
 name : c.name.length ≤ 140737488351232
 name2 : c.name2.length ≤ 140737488351232
 text : c.text.length ≤ 140737488351232
def txC (c : Cal) : Nat := c.name.length + c.name2.length + c.text.length
def smS (l : List Cal) (k : Nat) : Nat := l.length + ((l.take k).map txC).sum
def smallP (l : List Cal) : Prop := smS l l.length ≤ 2000 ∧ l.length ≤ 30
theorem sm_0 (l : List Cal) : smS l 0 = l.length := by unfold smS; simp
theorem sm_step {l : List Cal} {k : Nat} {x : Cal} (h : l[k]? = some x) : smS l (k + 1) = smS l k + txC x := by
 unfold smS
 rw [take_step h]
 simp
 omega
theorem sm_le (l : List Cal) (k : Nat) : smS l k ≤ smS l l.length := by
 unfold smS
 have := sum_take_le txC l k
 rw [List.take_length]
 omega
theorem small_ok {l : List Cal} (h : smallP l) {c : Cal} (hc : c ∈ l) (h0 : OkC0 c) : OkCal c := by
 have h1 := h.1
 have : txC c ≤ ((l.take l.length).map txC).sum := by rw [List.take_length]; exact sum_pos hc
 unfold smS at h1
 have e : txC c = c.name.length + c.name2.length + c.text.length := rfl
 exact ⟨h0.kind, h0.ino, h0.to, h0.at_, h0.many, by omega, by omega, by omega⟩
theorem small_spec (l : List Cal) (hl : l.length ≤ 8796093022207) (ok : ∀ c ∈ l, OkC0 c) : FSpec Tryz.prog 13 [.sl 8 false (l.map calA)] (aB (dP (smallP l))) := by
 exact spec_vc (F := Tryz.f13) 400 (
 .r 1 <| .r 2 <| .val 6 (show (aI ((l.map calA).length : Int) : AV) = aI (l.length : Int) from by rw [List.length_map]) <| .r 1 <| .r 1 <| let L1 : Lp (Nat) := ⟨fun a1 => ⟨[(0, .sl 8 false (l.map calA)), (4, aI (a1 : Int)), (3, aI (smS l a1 : Int))], []⟩, fun a1 => l.length - a1, fun a1 => a1 ≤ l.length ∧ smS l a1 ≤ 500000000000000⟩
 .loop L1 0 (show 0 ≤ l.length ∧ smS l 0 ≤ 500000000000000 from (by rw [sm_0]; omega)) ⟨[(0, .sl 8 false (l.map calA)), (4, aI 0), (3, aI (l.length : Int))], []⟩ ⟨sR, Sub.of_eq (congrArg aI (by first | omega | rfl)), Sub.of_eq (congrArg aI (by rw [sm_0])), trivial⟩ trivial fun a1 ha1 =>
 (fun (k : Nat) (hH1 : k ≤ l.length ∧ smS l k ≤ 500000000000000) => .r 3 <| .val 9 (show (aI ((l.map calA).length : Int) : AV) = aI (l.length : Int) from by rw [List.length_map]) <| .r 2 <| .br 11 (decide ((k : Int) < (l.length : Int))) (fun q1 => have p1 := decT q1; .r 3 <| .br 14 (decide ((smS l k : Int) ≤ 2000)) (fun q2 => have p2 := decT q2; .ord [0, 1, 2, 3, 4, 5, 6, 7, 8, 9, 10, 11, 12, 13, 14, 15, 16, 17, 18, 19, 20, 21, 22] <| .r 3 <| .idxM l calA k (m := (k : Int)) rfl (by omega) fun x1 hx1 =>
 have okx1 := ok x1 (List.mem_of_getElem? hx1); have b1x1 := okx1.name; have b2x1 := okx1.name2; have b3x1 := okx1.text; .run 6 [rng .i64 ((smS l k : Int) + ((x1.name).length : Int))] ⟨rng64 (by omega) (by omega), trivial⟩ <|
 .idx k (m := (k : Int)) (xs := l.map calA) (e := calA x1) rfl (map_some hx1) <|
 .run 6 [rng .i64 (((smS l k : Int) + ((x1.name).length : Int)) + ((x1.name2).length : Int))] ⟨rng64 (by omega) (by omega), trivial⟩ <|
 .idx k (m := (k : Int)) (xs := l.map calA) (e := calA x1) rfl (map_some hx1) <|
 .run 5 [rng .i64 ((((smS l k : Int) + ((x1.name).length : Int)) + ((x1.name2).length : Int)) + ((x1.text).length : Int))] ⟨rng64 (by omega) (by omega), trivial⟩ <|
 .run 3 [rng .i64 ((k : Int) + 1)] ⟨rng64 (by omega) (by omega), trivial⟩ <|
 .back L1 k (k + 1) (show (k + 1) ≤ l.length ∧ smS l (k + 1) ≤ 500000000000000 from (by refine ⟨by omega, ?_⟩; rw [sm_step hx1]; unfold txC; omega)) (show l.length - (k + 1) < l.length - k from (by omega)) ⟨[(0, .sl 8 false (l.map calA)), (4, aI ((k : Int) + 1)), (3, aI ((((smS l k : Int) + ((x1.name).length : Int)) + ((x1.name2).length : Int)) + ((x1.text).length : Int)))], []⟩ ⟨sR, Sub.of_eq (congrArg aI (by first | omega | rfl)), Sub.of_eq (congrArg aI (by rw [sm_step hx1]; unfold txC; omega)), trivial⟩ trivial)
 <| fun q2 => have p2 := decF q2; .r 3 <| .is 41 q2 <| .r 5 <| .fin (x := aB false) (r := aB (dP (smallP l))) [] trivial (by
  have hm := sm_le l k
  by_cases hk : k = l.length
  ·rw [← hk] at hm
   refine sE ?_
   unfold smallP
   rw [← hk]
   simp
   omega
  ·refine sE ?_
   unfold smallP
   simp
   omega))
 <| fun q1 => have p1 := decF q1; .r 3 <| .r 3 <| .br 41 (decide ((smS l k : Int) ≤ 2000)) (fun q3 => have p3 := decT q3; .r 2 <| .val 43 (show (aI ((l.map calA).length : Int) : AV) = aI (l.length : Int) from by rw [List.length_map]) <| .r 3 <| .fin (x := aB (decide ((l.length : Int) ≤ 30))) (r := aB (dP (smallP l))) [] trivial (by
  have hm := sm_le l k
  by_cases hk : k = l.length
  ·rw [← hk] at hm
   refine sE ?_
   unfold smallP
   rw [← hk]
   simp
   omega
  ·refine sE ?_
   unfold smallP
   simp
   omega))
 <| fun q3 => have p3 := decF q3; .r 5 <| .fin (x := aB false) (r := aB (dP (smallP l))) [] trivial (by
  have hm := sm_le l k
  by_cases hk : k = l.length
  ·rw [← hk] at hm
   refine sE ?_
   unfold smallP
   rw [← hk]
   simp
   omega
  ·refine sE ?_
   unfold smallP
   simp
   omega)) a1 ha1) Tryz.func13 rfl (by kernel_rfl) (by kernel_rfl)
def mkN (P : Program) (ops : Array Oper) (s : LS) (i : Nat) : Option (TypeId × Int × Int × TypeId × List AV × Nat) :=
 match opAt ops s i with
 | some o =>
  match o.op, o.dst with
  | .makeSlice t l c, some d =>
   match s.ev l, s.ev c, elemP P t, bget s.bx d with
   | .val (.int .i64 m), .val (.int .i64 m'), some e, none =>
    match zeroA P e with
    | some z => some (t, m, m', e, z, d)
    | none => none
   | _, _, _, _ => none
  | _, _ => none
 | none => none
theorem rule_mkN {P : Program} {t e : TypeId} {m : Int} {z : List AV} {d k : Nat} (n bytes : Nat) (hE : elemB P t e k bytes = true) (hm : m = (n : Int)) (hby : bytes * n ≤ 140737488355328) (h63 : n ≤ 140737488355327) :
  ∀ (ops : Array Oper) (i : Nat) (s : LS) (K : FS → Prop) (rest : List Nat), mkN P ops s i = some (t, m, m, e, z, d) → (∀ V : Value, SeqR P ops K rest ((s.put (some d) (.rw d V n)).setB d (.row V e k (List.replicate n z))).fs) → SeqR P ops K (i :: rest) s.fs := by
 intro ops i s K rest h kk
 subst hm
 unfold mkN at h
 split at h
 ·rename_i o ho
  obtain ⟨hi, hg⟩ := opAt_ok ho
  split at h
  ·rename_i t' l c d' hop hd
   split at h
   ·rename_i m1 m2 e' hl hc hel hbn
    split at h
    ·rename_i z' hz
     simp only [Option.some.injEq, Prod.mk.injEq] at h
     obtain ⟨rfl, rfl, rfl, rfl, rfl, rfl⟩ := h
     obtain ⟨zv, hEl⟩ := elemB_ok hE
     obtain ⟨ht, hinf, hzs, hsz⟩ := id hEl
     obtain ⟨ti, hti, htz, hsize, hbytes⟩ := info_of hinf
     have hzk : z'.length = k := by
      obtain ⟨it, z2, g1, g2, hrepz⟩ := zeroA_ok (D := fun _ => True) (w := (default : World)) hz
      rw [hti] at g1
      obtain rfl := Option.some.inj g1
      rw [htz] at g2
      obtain rfl := Option.some.inj g2
      have := hrepz.1
      omega
     have hkx : ∀ l ∈ List.replicate n z', l.length = k := fun l hl => by rw [List.eq_of_mem_replicate hl]; exact hzk
     refine ⟨o, hi, .inr ⟨hg, .inr (.inl ⟨by rw [hop]; rfl, _, mono_row (e := e') (k := k) (xs := List.replicate n z') hd hkx (fun D w ρ hops => ?_), ?_⟩)⟩⟩
     ·have hvl := arg_of hops l (by simp [hop, Op.operands])
      have hvc := arg_of hops c (by simp [hop, Op.operands])
      rw [hl] at hvl
      rw [hc] at hvc
      generalize hlv : ρ l = vl at hvl
      generalize hcv : ρ c = vc at hvc
      cases hvl
      cases hvc
      obtain ⟨it, z2, g1, g2, hrepz⟩ := zeroA_ok (D := D) (w := w) hz
      rw [hti] at g1
      obtain rfl := Option.some.inj g1
      rw [htz] at g2
      obtain rfl := Option.some.inj g2
      have hb48 : (ti.bytes : Int) * (n : Int) ≤ 281474976710656 := by
       have h0 : ((bytes * n : Nat) : Int) ≤ 281474976710656 := by omega
       rw [hbytes]
       rwa [Int.natCast_mul] at h0
      have hrun := run_make (P := P) w t' e' ti zv ht hti htz .i64 .i64 (n : Int) (n : Int) (by omega) (by omega) hb48 (by omega)
      rw [hsize, Int.toNat_natCast] at hrun
      have hcells : madeCells zv.cells (n * k) = (List.replicate n zv.cells.toList).flatten.toArray := by
       have := zeros_eq zv.cells n (by omega)
       apply Array.ext'
       rw [← hzs, List.toList_toArray, ← this]
       rfl
      rw [hcells] at hrun
      have hrep := repC_zeros hrepz n
      have hlen : (List.replicate n zv.cells.toList).flatten.length = n * k := by
       rw [flat_lenG (k := k) (fun l hl => by rw [List.eq_of_mem_replicate hl]; simpa using hzs), List.length_replicate]
      refine ⟨.slice (some ⟨w.heap.size, 0, none⟩) n n, w.alloc (.cells (List.replicate n zv.cells.toList).flatten.toArray e'), (List.replicate n zv.cells.toList).flatten, by simp [execOp, hop, hlv, hcv, hrun], World.grownBy_alloc w _ none, ?_, fun u hu => ?_, fun j a u ha hu => ?_⟩
      ·refine ⟨by rw [hlen, List.length_replicate], .inr ⟨w.heap.size, n, _, by rw [List.length_replicate], Nat.le_refl _, heap_alloc_new w _, by rw [List.length_replicate]; exact Nat.le_refl _, by unfold maxLen; omega, by simpa using hlen, ?_⟩⟩
       rw [List.length_replicate, List.toList_toArray, List.take_of_length_le (by omega)]
      ·obtain ⟨p, hp⟩ := List.mem_iff_getElem?.1 hu
       exact hrep.2.1 p u (by simpa using hp)
      ·exact hrep.2.2 j a u ha (by simpa using hu)
     ·rintro y nb ⟨V', rfl, rfl⟩
      refine ⟨fun id y hy => ?_, ?_⟩
      ·obtain ⟨rfl, rfl⟩ := by simpa using hy
       exact hbn
      ·have := kk V'
       rw [← LS.fs_setB, ← LS.fs_put] at this
       rw [hd, List.length_replicate]
       exact this
    ·cases h
   ·cases h
  ·cases h
 ·cases h
noncomputable def plF : Fsy → List Cal → Fsy
 | f, [] => f
 | f, c :: r => plF (doF f c).1 r
noncomputable def plR : Fsy → List Cal → List Rep
 | _, [] => []
 | f, c :: r => (doF f c).2 :: plR (doF f c).1 r
theorem plF_app : ∀ (a b : List Cal) (f : Fsy), plF f (a ++ b) = plF (plF f a) b
 | [], _, _ => rfl
 | c :: r, b, f => plF_app r b (doF f c).1
theorem plR_app : ∀ (a b : List Cal) (f : Fsy), plR f (a ++ b) = plR f a ++ plR (plF f a) b
 | [], _, _ => rfl
 | c :: r, b, f => by
  show (doF f c).2 :: plR (doF f c).1 (r ++ b) = (doF f c).2 :: (plR (doF f c).1 r ++ plR (plF (doF f c).1 r) b)
  rw [plR_app r b]
theorem plR_len : ∀ (l : List Cal) (f : Fsy), (plR f l).length = l.length
 | [], _ => rfl
 | c :: r, f => congrArg (· + 1) (plR_len r (doF f c).1)
theorem plF_step {f : Fsy} {l : List Cal} {k : Nat} {x : Cal} (h : l[k]? = some x) : plF f (l.take (k + 1)) = (doF (plF f (l.take k)) x).1 := by
 rw [take_step h, plF_app]; rfl
theorem plR_step {f : Fsy} {l : List Cal} {k : Nat} {x : Cal} (h : l[k]? = some x) : plR f (l.take (k + 1)) = plR f (l.take k) ++ [(doF (plF f (l.take k)) x).2] := by
 rw [take_step h, plR_app]; rfl
structure KeptN (f g : Fsy) (k : Nat) : Prop where
 ok : OkF g
 tree : TreeP g
 next : f.next ≤ g.next ∧ g.next ≤ f.next + k
 few : wF g ≤ wF f + 2 * k
theorem kept_pl {f : Fsy} (okf : OkF f) (T : TreeP f) {l : List Cal} (hl : l.length ≤ 1000) (ok : ∀ c ∈ l, OkCal c) (hx : f.next < 1152921504606847976) : ∀ k, k ≤ l.length → KeptN f (plF f (l.take k)) k
 | 0, _ => ⟨okf, T, ⟨Int.le_refl _, by show f.next ≤ _; omega⟩, by show wF f ≤ _; omega⟩
 | k + 1, hk => by
  have ih := kept_pl okf T hl ok hx k (by omega)
  have h := List.getElem?_eq_getElem (l := l) (i := k) (by omega)
  have K := kept_do ih.ok (ok _ (List.mem_of_getElem? h)) ih.tree (by have := ih.next.2; omega)
  rw [plF_step h]
  have h1 := ih.next
  have h2 := K.next
  have h3 := ih.few
  have h4 := K.few
  exact ⟨K.ok, K.tree, by omega, by omega⟩
def zRA (_ : Unit) : List AV := [aI 0, aI 0, aI 0, aI 0, aS [], aN]
def prow (R : List Rep) (n : Nat) : List (List AV) := R.map repA ++ List.replicate (n - R.length) (zRA ())
theorem prow_len {R : List Rep} {n : Nat} (h : R.length ≤ n) : (prow R n).length = n := by
 unfold prow
 rw [List.length_append, List.length_map, List.length_replicate]
 omega
theorem prow_get {R : List Rep} {n k : Nat} (h : R.length = k) (hk : k < n) : (prow R n)[k]? = some (zRA ()) := by
 unfold prow
 rw [List.getElem?_append_right (by rw [List.length_map]; omega), List.length_map, h, Nat.sub_self, List.getElem?_replicate, if_pos (by omega)]
theorem prow_set {R : List Rep} {n k : Nat} {v : Rep} (h : R.length = k) (hk : k < n) : (prow R n).set k ((zRA ()).take 0 ++ repA v ++ (zRA ()).drop (0 + (repA v).length)) = prow (R ++ [v]) n := by
 have e : (zRA ()).take 0 ++ repA v ++ (zRA ()).drop (0 + (repA v).length) = repA v := rfl
 rw [e]
 unfold prow
 rw [List.set_append_right _ _ (by rw [List.length_map]; omega), List.length_map, h, Nat.sub_self, List.length_append, h, show n - k = (n - (k + 1)) + 1 from by omega, List.replicate_succ, List.set_cons_zero, List.map_append]
 simp
theorem prow_full {R : List Rep} {n : Nat} (h : R.length = n) : prow R n = R.map repA := by
 unfold prow
 rw [h, Nat.sub_self]
 simp
theorem play_spec (f : Fsy) (l : List Cal) (okf : OkF f) (T : TreeP f) (hl : l.length ≤ 1000) (ok : ∀ c ∈ l, OkCal c) (hx : f.next < 1152921504606847976) : FSpec Tryz.prog 24 [.agg (fsyA f), .sl 8 false (l.map calA)] (.tup [.agg (fsyA (plF f l)), .sl 6 false ((plR f l).map repA)]) := by
 exact spec_vc (F := Tryz.f24) 400 (
 .new fun b1 => .new fun b2 => .r 1 <| .r 2 <| .val 10 (show (aI ((l.map calA).length : Int) : AV) = aI (l.length : Int) from by rw [List.length_map]) <| .op (mkN Tryz.prog) (45, (l.length : Int), (l.length : Int), 30, [aI 0, aI 0, aI 0, aI 0, aS ([]), aN], 11) (fun (V : Value) σ => (σ.put (some 11) (.rw 11 V l.length)).setB 11 (.row V 30 6 (List.replicate l.length [aI 0, aI 0, aI 0, aI 0, aS ([]), aN]))) (rule_mkN l.length 72 (by kernel_rfl) (by omega) (by omega) (by omega)) fun V1 =>
 .r 1 <| .r 2 <| .val 13 (show (aI ((l.map calA).length : Int) : AV) = aI (l.length : Int) from by rw [List.length_map]) <| .r 1 <| let L1 : Lp (Nat) := ⟨fun a1 => ⟨[(2, .ptr 2 b1 0), (4, .ptr 4 b2 0), (6, .rw 11 V1 l.length), (12, .sl 8 false (l.map calA)), (13, aI (l.length : Int)), (14, aI (a1 : Int))], [(2, .box b1 24 [.sl 5 false ((plF f (l.take a1)).l.map nodA), aI ((plF f (l.take a1)).next)]), (4, .box b2 24 [aN, aI 0]), (11, .row V1 30 6 (prow (plR f (l.take a1)) l.length))]⟩, fun a1 => l.length - a1, fun a1 => a1 ≤ l.length⟩
 .loop L1 0 (show 0 ≤ l.length from Nat.zero_le _) ⟨[(2, .ptr 2 b1 0), (4, .ptr 4 b2 0), (6, .rw 11 V1 l.length), (12, .sl 8 false (l.map calA)), (13, aI (l.length : Int)), (14, aI 0)], [(2, .box b1 24 (fsyA f)), (4, .box b2 24 [aN, aI 0]), (11, .row V1 30 6 (List.replicate l.length [aI 0, aI 0, aI 0, aI 0, aS ([]), aN]))]⟩ ⟨sR, sR, sR, sR, sR, Sub.of_eq (congrArg aI (by first | omega | rfl)), trivial⟩ ⟨⟨_, rfl, SubB.of_eq rfl⟩, ⟨_, rfl, SubB.refl _⟩, ⟨_, rfl, SubB.of_eq rfl⟩, trivial⟩ fun a1 ha1 =>
 (fun (k : Nat) (hH1 : k ≤ l.length) => have kp := kept_pl okf T hl ok hx k (by omega); have kp2 := kp.next; .r 1 <| .br 15 (decide ((k : Int) < (l.length : Int))) (fun q1 => have p1 := decT q1; .r 1 <| .idxM l calA k (m := (k : Int)) rfl (by omega) fun x1 hx1 =>
 have okx1 := ok x1 (List.mem_of_getElem? hx1); .r 1 <| .new fun b3 => .run 2 [b3 = b3] rt1 <|
 .st (rowR 11) (V1, 30, 6, prow (plR f (l.take k)) l.length) (fun _ σ => σ) (rule_shape 11 (by first | omega | (rw [prow_len (by rw [plR_len, List.length_take]; omega)]; omega))) fun a4r =>
 .run 4 [b1 = b1, b3 = b3] rt2 <|
 .call (do_spec (plF f (l.take k)) x1 kp.ok okx1 kp.tree.rows (by omega)) <|
 .run 4 [b1 = b1] rt1 <|
 .op (ixR Tryz.prog) (11, V1, l.length, 6, (k : Int), some 27) (fun (_ : Unit) σ => σ.put (some 27) (.ep 11 V1 6 k 0)) (rule_ixR k a4r.2.1 (by omega) (by first | omega | (rw [prow_len (by rw [plR_len, List.length_take]; omega)]; omega))) fun _ =>
 .op (stR Tryz.prog) (11, V1, 6, k, 0, V1, 30, 6, prow (plR f (l.take k)) l.length, [aI ((doF (plF f (l.take k)) x1).2.e), aI ((doF (plF f (l.take k)) x1).2.a), aI ((doF (plF f (l.take k)) x1).2.b), aI ((doF (plF f (l.take k)) x1).2.n), aS ((doF (plF f (l.take k)) x1).2.text), AV.sl 1 false ((doF (plF f (l.take k)) x1).2.names.map txA)], none) (fun (_ : Unit) σ => (σ.put (none) .any).setB 11 (.row V1 30 6 ((prow (plR f (l.take k)) l.length).set k ((zRA ()).take 0 ++ [aI ((doF (plF f (l.take k)) x1).2.e), aI ((doF (plF f (l.take k)) x1).2.a), aI ((doF (plF f (l.take k)) x1).2.b), aI ((doF (plF f (l.take k)) x1).2.n), aS ((doF (plF f (l.take k)) x1).2.text), AV.sl 1 false ((doF (plF f (l.take k)) x1).2.names.map txA)] ++ (zRA ()).drop (0 + [aI ((doF (plF f (l.take k)) x1).2.e), aI ((doF (plF f (l.take k)) x1).2.a), aI ((doF (plF f (l.take k)) x1).2.b), aI ((doF (plF f (l.take k)) x1).2.n), aS ((doF (plF f (l.take k)) x1).2.text), AV.sl 1 false ((doF (plF f (l.take k)) x1).2.names.map txA)].length))))) (rule_stR (zRA ()) (prow_get (by rw [plR_len, List.length_take]; omega) (by omega)) (Nat.le_of_ble_eq_true rfl)) fun _ =>
 .run 2 [rng .i64 ((k : Int) + 1)] ⟨rng64 (by omega) (by omega), trivial⟩ <|
 .back L1 k (k + 1) (show (k + 1) ≤ l.length from (by show _ ≤ _; omega)) (show l.length - (k + 1) < l.length - k from (by omega)) ⟨[(2, .ptr 2 b1 0), (4, .ptr 4 b2 0), (6, .rw 11 V1 l.length), (12, .sl 8 false (l.map calA)), (13, aI (l.length : Int)), (14, aI ((k : Int) + 1))], [(2, .box b1 24 [.sl 5 false ((doF (plF f (l.take k)) x1).1.l.map nodA), aI ((doF (plF f (l.take k)) x1).1.next)]), (4, .box b2 24 [aN, aI 0]), (11, .row V1 30 6 ((prow (plR f (l.take k)) l.length).set k ((zRA ()).take 0 ++ [aI ((doF (plF f (l.take k)) x1).2.e), aI ((doF (plF f (l.take k)) x1).2.a), aI ((doF (plF f (l.take k)) x1).2.b), aI ((doF (plF f (l.take k)) x1).2.n), aS ((doF (plF f (l.take k)) x1).2.text), AV.sl 1 false ((doF (plF f (l.take k)) x1).2.names.map txA)] ++ (zRA ()).drop (0 + [aI ((doF (plF f (l.take k)) x1).2.e), aI ((doF (plF f (l.take k)) x1).2.a), aI ((doF (plF f (l.take k)) x1).2.b), aI ((doF (plF f (l.take k)) x1).2.n), aS ((doF (plF f (l.take k)) x1).2.text), AV.sl 1 false ((doF (plF f (l.take k)) x1).2.names.map txA)].length))))]⟩ ⟨sR, sR, sR, sR, sR, Sub.of_eq (congrArg aI (by first | omega | rfl)), trivial⟩ ⟨⟨_, rfl, SubB.of_eq (by rw [plF_step hx1])⟩, ⟨_, rfl, SubB.refl _⟩, ⟨_, rfl, SubB.of_eq (by rw [plR_step hx1]; exact congrArg _ (prow_set (v := (doF (plF f (l.take k)) x1).2) (by rw [plR_len, List.length_take]; omega) (by omega)))⟩, trivial⟩)
 <| fun q1 => have p1 := decF q1; .run 4 [b1 = b1, b2 = b2] rt2 <|
 .frz 11 [4, 5] [4] [V1 = V1, l.length = (prow (plR f (l.take k)) l.length).length] ⟨rfl, (prow_len (by rw [plR_len, List.length_take]; omega)).symm, trivial⟩ <|
 .fin (x := .tup [.agg [.sl 5 false ((plF f (l.take k)).l.map nodA), aI ((plF f (l.take k)).next)], .sl 6 false (prow (plR f (l.take k)) l.length)]) (r := .tup [.agg (fsyA (plF f l)), .sl 6 false ((plR f l).map repA)]) [b2 = b2] rt1 (by
  rw [show l.take k = l from take_all (by omega), prow_full (plR_len _ _)]
  first | exact sR | exact Sub.tups ⟨sR, Sub.loose _ _ _, trivial⟩)) a1 ha1) Tryz.func24 rfl (by kernel_rfl) (by kernel_rfl)
theorem do_names {f : Fsy} {c : Cal} (hp : rowsP f) : (doF f c).2.names.length ≤ 256 := by
 have key : (deedF f c).2.names.length ≤ 256 := by
  rcases (show c.kind = 1 ∨ c.kind = 2 ∨ c.kind = 3 ∨ c.kind = 4 ∨ c.kind = 5 ∨ c.kind = 6 ∨ c.kind = 7 ∨ c.kind = 8 ∨ c.kind = 9 ∨ c.kind = 10 ∨ c.kind = 11 ∨ c.kind = 12 ∨ c.kind = 13 ∨ c.kind = 14 ∨ c.kind = 15 ∨ (c.kind < 1 ∨ c.kind > 15) from by omega) with h | h | h | h | h | h | h | h | h | h | h | h | h | h | h | h
  ·rw [deed_1 h]
   exact Nat.zero_le _
  ·rw [deed_2 h]
   unfold statD; split <;> exact Nat.zero_le _
  ·rw [deed_3 h]
   unfold readO; split <;> exact Nat.zero_le _
  ·rw [deed_4 h]
   unfold writeO; split <;> exact Nat.zero_le _
  ·rw [deed_5 h]
   unfold cutO; split <;> exact Nat.zero_le _
  ·rw [deed_6 h]
   exact Nat.zero_le _
  ·rw [deed_7 h]
   exact Nat.zero_le _
  ·rw [deed_8 h]
   unfold symO; split <;> exact Nat.zero_le _
  ·rw [deed_9 h]
   unfold takeO; split
   ·split <;> exact Nat.zero_le _
   ·exact Nat.zero_le _
  ·rw [deed_10 h]
   unfold takeO; split
   ·split <;> exact Nat.zero_le _
   ·exact Nat.zero_le _
  ·rw [deed_11 h]
   exact Nat.zero_le _
  ·rw [deed_12 h]
   exact Nat.zero_le _
  ·rw [deed_13 h]
   exact Nat.zero_le _
  ·rw [deed_14 h]
   show ((dirN f c.ino).l.map Ent.name).length ≤ 256
   rw [List.length_map]
   exact (dir_srt hp c.ino).2
  ·rw [deed_15 h]
   exact Nat.zero_le _
  ·rw [deed_no h]; exact Nat.zero_le _
 unfold doF
 split
 ·exact key
 ·exact Nat.zero_le _
theorem pl_names : ∀ {l : List Cal} {f : Fsy}, OkF f → TreeP f → (∀ c ∈ l, OkCal c) → f.next + l.length < 4611686018427387904 → ∀ r ∈ plR f l, r.names.length ≤ 256
 | [], f, _, _, _, _, r, hr => (by cases hr)
 | c :: l, f, okf, T, ok, hx, r, hr => by
  have hl : ((c :: l).length : Int) = (l.length : Int) + 1 := by rw [List.length_cons]; omega
  rcases List.mem_cons.1 hr with rfl | hr
  ·exact do_names T.rows
  ·have K := kept_do okf (ok c (by simp)) T (by omega)
   have := K.next.2
   exact pl_names K.ok K.tree (fun c hc => ok c (by simp [hc])) (by omega) r hr
theorem rep_eq {x y : Rep} (h1 : x.e = y.e) (h2 : x.a = y.a) (h3 : x.b = y.b) (h4 : x.n = y.n) (h5 : x.text = y.text) (h6 : x.names = y.names) : x = y := by cases x; cases y; simp_all
theorem rstrs_spec (a b : List Txt) (h1 : a.length ≤ 1000000) (h2 : b.length ≤ 1000000) : FSpec Tryz.prog 49 [.sl 1 false (a.map txA), .sl 1 false (b.map txA)] (aB (dP (a = b))) := by
 exact spec_vc (F := Tryz.f49) 400 (
 .r 1 <| .r 2 <| .val 7 (show (aI ((a.map txA).length : Int) : AV) = aI (a.length : Int) from by rw [List.length_map]) <| .r 2 <| .val 9 (show (aI ((b.map txA).length : Int) : AV) = aI (b.length : Int) from by rw [List.length_map]) <| .r 1 <| .br 10 ((a.length : Int) != (b.length : Int)) (fun q1 => have p1 := bneT q1; .r 1 <| .fin (x := aB false) (r := aB (dP (a = b))) [] trivial (by exact sF (fun h => by have := congrArg List.length h; omega)))
 <| fun q1 => have p1 := bneF q1; .r 1 <| let L1 : Lp (Nat) := ⟨fun a1 => ⟨[(0, .sl 1 false (a.map txA)), (1, .sl 1 false (b.map txA)), (5, aI (a1 : Int))], []⟩, fun a1 => a.length - a1, fun a1 => a1 ≤ a.length ∧ a.take a1 = b.take a1⟩
 .loop L1 0 (show 0 ≤ a.length ∧ a.take 0 = b.take 0 from ⟨Nat.zero_le _, rfl⟩) ⟨[(0, .sl 1 false (a.map txA)), (1, .sl 1 false (b.map txA)), (5, aI 0)], []⟩ ⟨sR, sR, Sub.of_eq (congrArg aI (by first | omega | rfl)), trivial⟩ trivial fun a1 ha1 =>
 (fun (k : Nat) (hH1 : k ≤ a.length ∧ a.take k = b.take k) => .r 3 <| .val 13 (show (aI ((a.map txA).length : Int) : AV) = aI (a.length : Int) from by rw [List.length_map]) <| .r 1 <| .br 14 (decide ((k : Int) < (a.length : Int))) (fun q2 => have p2 := decT q2; .ord [0, 1, 2, 3, 4, 5, 6, 7, 8] <| .r 2 <| .idxM a txA k (m := (k : Int)) rfl (by omega) fun x1 hx1 =>
 .r 3 <| .idxM b txA k (m := (k : Int)) rfl (by omega) fun x2 hx2 =>
 .r 2 <| .br 25 (!(x1 == x2)) (fun q3 => have q3 := notT q3; have p3 := beqF q3; .r 1 <| .fin (x := aB false) (r := aB (dP (a = b))) [] trivial (by
  refine sF (fun h => ?_)
  rw [h, hx2] at hx1
  obtain rfl := Option.some.inj hx1
  simp_all [dP_true, dP_false]))
 <| fun q3 => have q3 := notF q3; have p3 := beqT q3; .run 3 [rng .i64 ((k : Int) + 1)] ⟨rng64 (by omega) (by omega), trivial⟩ <|
 .back L1 k (k + 1) (show (k + 1) ≤ a.length ∧ a.take (k + 1) = b.take (k + 1) from ⟨by omega, by rw [take_step hx1, take_step hx2, hH1.2]; first | (congr 2; done) | (congr 2; exact (by simp_all))⟩) (show a.length - (k + 1) < a.length - k from (by omega)) ⟨[(0, .sl 1 false (a.map txA)), (1, .sl 1 false (b.map txA)), (5, aI ((k : Int) + 1))], []⟩ ⟨sR, sR, Sub.of_eq (congrArg aI (by first | omega | rfl)), trivial⟩ trivial)
 <| fun q2 => have p2 := decF q2; .r 1 <| .fin (x := aB true) (r := aB (dP (a = b))) [] trivial (by
  refine sT ?_
  have h := hH1.2
  rw [take_all (by omega), take_all (by omega)] at h
  exact h)) a1 ha1) Tryz.func49 rfl (by kernel_rfl) (by kernel_rfl)
theorem rsame11_spec (a b : Rep) (h1 : a.names.length ≤ 1000000) (h2 : b.names.length ≤ 1000000) : FSpec Tryz.prog 17 [.agg (repA a), .agg (repA b)] (aB (dP (a = b))) := by
 exact spec_vc (F := Tryz.f17) 400 (
 .new fun b1 => .new fun b2 => .r 1 <| .run 4 [b1 = b1, b2 = b2] rt2 <|
 .call (rstrs_spec a.names b.names h1 h2) <|
 .r 1 <| .r 2 <| .br 12 (dP (a.names = b.names)) (fun q1 => have p1 := booT q1; .run 7 [b1 = b1, b2 = b2] rt2 <|
 .br 19 (a.e == b.e) (fun q2 => have p2 := beqT q2; .run 7 [b1 = b1, b2 = b2] rt2 <|
 .br 26 (a.a == b.a) (fun q3 => have p3 := beqT q3; .run 7 [b1 = b1, b2 = b2] rt2 <|
 .br 33 (a.b == b.b) (fun q4 => have p4 := beqT q4; .run 7 [b1 = b1, b2 = b2] rt2 <|
 .br 40 (a.n == b.n) (fun q5 => have p5 := beqT q5; .run 7 [b1 = b1, b2 = b2] rt2 <|
 .fin (x := aB (a.text == b.text)) (r := aB (dP (a = b))) [] trivial (by
  refine sE ?_
  constructor
  ·intro h
   simp only [Bool.and_eq_true, beq_iff_eq, dP_true] at *
   refine rep_eq ?_ ?_ ?_ ?_ ?_ ?_ <;> simp_all
  ·intro h
   subst h
   simp_all [dP_true]))
 <| fun q5 => have p5 := beqF q5; .r 7 <| .fin (x := aB false) (r := aB (dP (a = b))) [] trivial (by
  refine sF (fun h => ?_)
  subst h
  simp_all [dP_false]))
 <| fun q4 => have p4 := beqF q4; .r 14 <| .fin (x := aB false) (r := aB (dP (a = b))) [] trivial (by
  refine sF (fun h => ?_)
  subst h
  simp_all [dP_false]))
 <| fun q3 => have p3 := beqF q3; .r 21 <| .fin (x := aB false) (r := aB (dP (a = b))) [] trivial (by
  refine sF (fun h => ?_)
  subst h
  simp_all [dP_false]))
 <| fun q2 => have p2 := beqF q2; .r 28 <| .fin (x := aB false) (r := aB (dP (a = b))) [] trivial (by
  refine sF (fun h => ?_)
  subst h
  simp_all [dP_false]))
 <| fun q1 => have p1 := booF q1; .r 35 <| .fin (x := aB false) (r := aB (dP (a = b))) [] trivial (by
  refine sF (fun h => ?_)
  subst h
  simp_all [dP_false])) Tryz.func17 rfl (by kernel_rfl) (by kernel_rfl)
theorem all_spec (a b : List Rep) (hl1 : a.length ≤ 1000000) (hl2 : b.length ≤ 1000000) (h1 : ∀ r ∈ a, r.names.length ≤ 1000000) (h2 : ∀ r ∈ b, r.names.length ≤ 1000000) : FSpec Tryz.prog 28 [.sl 6 false (a.map repA), .sl 6 false (b.map repA)] (aB (dP (a = b))) := by
 exact spec_vc (F := Tryz.f28) 400 (
 .r 1 <| .r 2 <| .val 8 (show (aI ((a.map repA).length : Int) : AV) = aI (a.length : Int) from by rw [List.length_map]) <| .r 2 <| .val 10 (show (aI ((b.map repA).length : Int) : AV) = aI (b.length : Int) from by rw [List.length_map]) <| .r 1 <| .br 11 ((a.length : Int) != (b.length : Int)) (fun q1 => have p1 := bneT q1; .r 1 <| .fin (x := aB false) (r := aB (dP (a = b))) [] trivial (by exact sF (fun h => by have := congrArg List.length h; omega)))
 <| fun q1 => have p1 := bneF q1; .r 1 <| let L1 : Lp (Nat) := ⟨fun a1 => ⟨[(0, .sl 6 false (a.map repA)), (1, .sl 6 false (b.map repA)), (5, aI (a1 : Int))], []⟩, fun a1 => a.length - a1, fun a1 => a1 ≤ a.length ∧ a.take a1 = b.take a1⟩
 .loop L1 0 (show 0 ≤ a.length ∧ a.take 0 = b.take 0 from ⟨Nat.zero_le _, rfl⟩) ⟨[(0, .sl 6 false (a.map repA)), (1, .sl 6 false (b.map repA)), (5, aI 0)], []⟩ ⟨sR, sR, Sub.of_eq (congrArg aI (by first | omega | rfl)), trivial⟩ trivial fun a1 ha1 =>
 (fun (k : Nat) (hH1 : k ≤ a.length ∧ a.take k = b.take k) => .r 3 <| .val 14 (show (aI ((a.map repA).length : Int) : AV) = aI (a.length : Int) from by rw [List.length_map]) <| .r 1 <| .br 15 (decide ((k : Int) < (a.length : Int))) (fun q2 => have p2 := decT q2; .ord [0, 1, 2, 3, 4, 5, 6, 7, 8, 9] <| .r 2 <| .idxM a repA k (m := (k : Int)) rfl (by omega) fun x1 hx1 =>
 have okx1 := h1 x1 (List.mem_of_getElem? hx1); .r 3 <| .idxM b repA k (m := (k : Int)) rfl (by omega) fun x2 hx2 =>
 have okx2 := h2 x2 (List.mem_of_getElem? hx2); .r 1 <| .call (rsame11_spec x1 x2 okx1 okx2) <|
 .r 1 <| .r 2 <| .br 28 (!(dP (x1 = x2))) (fun q3 => have q3 := notT q3; have p3 := booF q3; .r 1 <| .fin (x := aB false) (r := aB (dP (a = b))) [] trivial (by
  refine sF (fun h => ?_)
  rw [h, hx2] at hx1
  obtain rfl := Option.some.inj hx1
  simp_all [dP_true, dP_false]))
 <| fun q3 => have q3 := notF q3; have p3 := booT q3; .run 3 [rng .i64 ((k : Int) + 1)] ⟨rng64 (by omega) (by omega), trivial⟩ <|
 .back L1 k (k + 1) (show (k + 1) ≤ a.length ∧ a.take (k + 1) = b.take (k + 1) from ⟨by omega, by rw [take_step hx1, take_step hx2, hH1.2]; first | (congr 2; done) | (congr 2; exact dP_true.1 (by assumption))⟩) (show a.length - (k + 1) < a.length - k from (by omega)) ⟨[(0, .sl 6 false (a.map repA)), (1, .sl 6 false (b.map repA)), (5, aI ((k : Int) + 1))], []⟩ ⟨sR, sR, Sub.of_eq (congrArg aI (by first | omega | rfl)), trivial⟩ trivial)
 <| fun q2 => have p2 := decF q2; .r 1 <| .fin (x := aB true) (r := aB (dP (a = b))) [] trivial (by
  refine sT ?_
  have h := hH1.2
  rw [take_all (by omega), take_all (by omega)] at h
  exact h)) a1 ha1) Tryz.func28 rfl (by kernel_rfl) (by kernel_rfl)
end Go.Proofs.YtkhnialfkndiiaaGreat
