/- slices.Equal of entries, ref06.Same, node.Same, ref07.Same. -/
import Derived.Test.YtibcmgmlklehdaaNodV
set_option linter.unusedVariables false
set_option linter.unusedSimpArgs false
namespace Go.Proofs.Ytibcmgmlklehdaa
open Go Go.RowKit Copyhold
theorem run_int3 (t e : TypeId) (ht : Try.prog.underlying t = some (.array 3 e)) (he : Try.prog.underlying e = some (.int .i64)) (hs : ∀ w, (Go.sizeOf e).run Try.prog w = .ok 1 w) (a b c x y z : Int) (w : World) :
    (Op.equalIn 10000 t (.agg #[.int .i64 a, .int .i64 b, .int .i64 c]) (.agg #[.int .i64 x, .int .i64 y, .int .i64 z])).run Try.prog w = .ok (a == x && b == y && c == z) w := by
  show (Op.equalIn (9999 + 1) _ _ _).run _ _ = _
  have p0 : ∀ (u0 u1 u2 : Value) w, (part e #[u0, u1, u2] 0).run Try.prog w = .ok u0 w := fun _ _ _ _ => by simp [go_sem, part, hs, isAgg, run_underlying he]
  have p1 : ∀ (u0 u1 u2 : Value) w, (part e #[u0, u1, u2] 1).run Try.prog w = .ok u1 w := fun _ _ _ _ => by simp [go_sem, part, hs, isAgg, run_underlying he]
  have p2 : ∀ (u0 u1 u2 : Value) w, (part e #[u0, u1, u2] 2).run Try.prog w = .ok u2 w := fun _ _ _ _ => by simp [go_sem, part, hs, isAgg, run_underlying he]
  have q : ∀ a b w, (Op.equalIn 9999 e (.int .i64 a) (.int .i64 b)).run Try.prog w = .ok (a == b) w := fun a b w => run_equalIn_int w 9998 e .i64 .i64 a b he
  rw [Op.equalIn]
  simp only [Sem.run_bind, run_underlying ht, Result.andThen_ok, hs, Std.Legacy.Range.forIn_eq_forIn_range', Std.Legacy.Range.size, List.range', List.forIn_cons, List.forIn_nil]
  cases h1 : (a == x) <;> cases h2 : (b == y) <;> cases h3 : (c == z) <;> simp [Sem.run_bind, Result.andThen, p0, p1, p2, q, h1, h2, h3]
theorem eqInt3 (t : TypeId) (a b c x y z : Int) (hg : Try.prog.eqGuardType Try.prog.depth t = false) (hr : ∀ w, (Op.equalIn 10000 t (.agg #[.int .i64 a, .int .i64 b, .int .i64 c]) (.agg #[.int .i64 x, .int .i64 y, .int .i64 z])).run Try.prog w = .ok (a == x && b == y && c == z) w)
    (D : Nat → Prop) (w : World) (xo yo : Operand) (u v : Value) (hu : Ra D w (.agg [aI a, aI b, aI c]) u) (hv : Ra D w (.agg [aI x, aI y, aI z]) v) :
    ∃ r, ((do Go.eqGuard .eql t xo yo u v; Go.binOp .eql t u v) : Sem Value).run Try.prog w = .ok r w ∧ Ra D w (aB (a == x && b == y && c == z)) r := by
  have e1 := ra_vals (vs := [.int .i64 a, .int .i64 b, .int .i64 c]) hu
  have e2 := ra_vals (vs := [.int .i64 x, .int .i64 y, .int .i64 z]) hv
  subst e1 e2
  refine ⟨_, ?_, .val _⟩
  simp [run_eqGuard_agg _ _ _ _ _ _ _ hg, run_eql_struct, hr]
theorem ent_eq {x y : Ent} (h1 : x.name = y.name) (h2 : x.ino = y.ino) : x = y := by cases x; cases y; simp_all
set_option maxRecDepth 100000 in
set_option maxHeartbeats 4000000 in
theorem eqE_spec (a b : List Ent) (ha : a.length ≤ 8796093022207) (hb : b.length ≤ 8796093022207) : FSpec Try.prog 67 [.sl 2 false (a.map entA), .sl 2 false (b.map entA)] (aB (dP (a = b))) := by
  exact spec_vc (F := Try.f67) 400 (
 .r 1 <| .r 2 <| .val 7 (show (aI ((a.map entA).length : Int) : AV) = aI (a.length : Int) from by rw [List.length_map]) <| .r 2 <| .val 9 (show (aI ((b.map entA).length : Int) : AV) = aI (b.length : Int) from by rw [List.length_map]) <| .r 1 <| .br 10 ((a.length : Int) != (b.length : Int)) (fun q1 => have p1 := bneT q1; .r 1 <| .fin (x := aB false) (r := aB (dP (a = b))) [] trivial (by exact sF (fun h => by have := congrArg List.length h; omega)))
 <| fun q1 => have p1 := bneF q1; .r 2 <| .val 12 (show (aI ((a.map entA).length : Int) : AV) = aI (a.length : Int) from by rw [List.length_map]) <| .r 1 <| let L1 : Lp (Nat) := ⟨fun a1 => ⟨[(0, .sl 2 false (a.map entA)), (1, .sl 2 false (b.map entA)), (12, aI (a.length : Int)), (13, aI (a1 : Int))], []⟩, fun a1 => a.length - a1, fun a1 => a1 ≤ a.length ∧ a.take a1 = b.take a1⟩
 .loop L1 0 (show 0 ≤ a.length ∧ a.take 0 = b.take 0 from ⟨Nat.zero_le _, rfl⟩) ⟨[(0, .sl 2 false (a.map entA)), (1, .sl 2 false (b.map entA)), (12, aI (a.length : Int)), (13, aI 0)], []⟩ ⟨Sub.refl _, Sub.refl _, Sub.refl _, Sub.of_eq (congrArg aI (by omega)), trivial⟩ trivial fun a1 ha1 =>
 (fun (k : Nat) (hH1 : k ≤ a.length ∧ a.take k = b.take k) => .r 1 <| .br 14 (decide ((k : Int) < (a.length : Int))) (fun q2 => have p2 := decT q2; .r 2 <| .ord [0, 1, 2, 3, 4, 5, 6, 7, 8] <| .r 2 <| .idxM a entA k (m := (k : Int)) rfl (by omega) fun x1 hx1 =>
 .r 3 <| .idxM b entA k (m := (k : Int)) rfl (by omega) fun x2 hx2 =>
 .r 1 <| .eqS <| .br 24 (!((x1.name == x2.name) && ((x1.ino == x2.ino) && (true)))) (fun q3 => have q3 := notT q3; have p3 := booF q3; .r 1 <| .fin (x := aB false) (r := aB (dP (a = b))) [] trivial (by
    refine sF (fun h => ?_)
    rw [h, hx2] at hx1
    obtain rfl := Option.some.inj hx1
    simp_all))
 <| fun q3 => have q3 := notF q3; have p3 := booT q3; .run 2 [rng .i64 ((k : Int) + 1)] ⟨rng64 (by omega) (by omega), trivial⟩ <|
 .back L1 k (k + 1) (show (k + 1) ≤ a.length ∧ a.take (k + 1) = b.take (k + 1) from ⟨by omega, by rw [take_step hx1, take_step hx2, hH1.2]; congr 2; exact ent_eq (by simp_all) (by simp_all)⟩) (show a.length - (k + 1) < a.length - k from (by omega)) ⟨[(0, .sl 2 false (a.map entA)), (1, .sl 2 false (b.map entA)), (12, aI (a.length : Int)), (13, aI ((k : Int) + 1))], []⟩ ⟨Sub.refl _, Sub.refl _, Sub.refl _, Sub.of_eq (congrArg aI (by omega)), trivial⟩ trivial)
 <| fun q2 => have p2 := decF q2; .r 1 <| .fin (x := aB true) (r := aB (dP (a = b))) [] trivial (by
    refine sT ?_
    have h := hH1.2
    rw [take_all (by omega), take_all (by omega)] at h
    exact h)) a1 ha1) Try.func67 rfl (by kernel_rfl) (by kernel_rfl)
set_option maxRecDepth 100000 in
set_option maxHeartbeats 4000000 in
theorem reqE_spec (a b : List Ent) (ha : a.length ≤ 8796093022207) (hb : b.length ≤ 8796093022207) : FSpec Try.prog 63 [.sl 2 false (a.map entA), .sl 2 false (b.map entA)] (aB (dP (a = b))) := by
  exact spec_vc (F := Try.f63) 400 (
 .r 1 <| .r 2 <| .val 7 (show (aI ((a.map entA).length : Int) : AV) = aI (a.length : Int) from by rw [List.length_map]) <| .r 2 <| .val 9 (show (aI ((b.map entA).length : Int) : AV) = aI (b.length : Int) from by rw [List.length_map]) <| .r 1 <| .br 10 ((a.length : Int) != (b.length : Int)) (fun q1 => have p1 := bneT q1; .r 1 <| .fin (x := aB false) (r := aB (dP (a = b))) [] trivial (by exact sF (fun h => by have := congrArg List.length h; omega)))
 <| fun q1 => have p1 := bneF q1; .r 1 <| let L1 : Lp (Nat) := ⟨fun a1 => ⟨[(0, .sl 2 false (a.map entA)), (1, .sl 2 false (b.map entA)), (5, aI (a1 : Int))], []⟩, fun a1 => a.length - a1, fun a1 => a1 ≤ a.length ∧ a.take a1 = b.take a1⟩
 .loop L1 0 (show 0 ≤ a.length ∧ a.take 0 = b.take 0 from ⟨Nat.zero_le _, rfl⟩) ⟨[(0, .sl 2 false (a.map entA)), (1, .sl 2 false (b.map entA)), (5, aI 0)], []⟩ ⟨Sub.refl _, Sub.refl _, Sub.of_eq (congrArg aI (by omega)), trivial⟩ trivial fun a1 ha1 =>
 (fun (k : Nat) (hH1 : k ≤ a.length ∧ a.take k = b.take k) => .r 3 <| .val 13 (show (aI ((a.map entA).length : Int) : AV) = aI (a.length : Int) from by rw [List.length_map]) <| .r 1 <| .br 14 (decide ((k : Int) < (a.length : Int))) (fun q2 => have p2 := decT q2; .ord [0, 1, 2, 3, 4, 5, 6, 7, 8] <| .r 2 <| .idxM a entA k (m := (k : Int)) rfl (by omega) fun x1 hx1 =>
 .r 3 <| .idxM b entA k (m := (k : Int)) rfl (by omega) fun x2 hx2 =>
 .r 1 <| .eqS <| .br 25 (!((x1.name == x2.name) && ((x1.ino == x2.ino) && (true)))) (fun q3 => have q3 := notT q3; have p3 := booF q3; .r 1 <| .fin (x := aB false) (r := aB (dP (a = b))) [] trivial (by
    refine sF (fun h => ?_)
    rw [h, hx2] at hx1
    obtain rfl := Option.some.inj hx1
    simp_all))
 <| fun q3 => have q3 := notF q3; have p3 := booT q3; .run 3 [rng .i64 ((k : Int) + 1)] ⟨rng64 (by omega) (by omega), trivial⟩ <|
 .back L1 k (k + 1) (show (k + 1) ≤ a.length ∧ a.take (k + 1) = b.take (k + 1) from ⟨by omega, by rw [take_step hx1, take_step hx2, hH1.2]; congr 2; exact ent_eq (by simp_all) (by simp_all)⟩) (show a.length - (k + 1) < a.length - k from (by omega)) ⟨[(0, .sl 2 false (a.map entA)), (1, .sl 2 false (b.map entA)), (5, aI ((k : Int) + 1))], []⟩ ⟨Sub.refl _, Sub.refl _, Sub.of_eq (congrArg aI (by omega)), trivial⟩ trivial)
 <| fun q2 => have p2 := decF q2; .r 1 <| .fin (x := aB true) (r := aB (dP (a = b))) [] trivial (by
    refine sT ?_
    have h := hH1.2
    rw [take_all (by omega), take_all (by omega)] at h
    exact h)) a1 ha1) Try.func63 rfl (by kernel_rfl) (by kernel_rfl)
set_option maxRecDepth 100000 in
set_option maxHeartbeats 4000000 in
theorem num3_spec (n : Nod) : FSpec Try.prog 66 [.agg [aI n.ino, aI n.kind, aI n.links, aS n.text, .sl 2 false (n.l.map entA)]] (.agg [aI n.ino, aI n.kind, aI n.links]) := by
  exact spec_vc (F := Try.f66) 400 (
 .new fun b1 => .new fun b2 => .run 8 [b1 = b1, b1 = b1, b1 = b1, b2 = b2] ⟨rfl, rfl, rfl, rfl, trivial⟩ <|
 .fin (x := .agg [aI n.ino, aI n.kind, aI n.links]) (r := .agg [aI n.ino, aI n.kind, aI n.links]) [b2 = b2] ⟨rfl, trivial⟩ (by exact Sub.refl _)) Try.func66 rfl (by kernel_rfl) (by kernel_rfl)
theorem nod_eq {x y : Nod} (h1 : x.ino = y.ino) (h2 : x.kind = y.kind) (h3 : x.links = y.links) (h4 : x.text = y.text) (h5 : x.l = y.l) : x = y := by cases x; cases y; simp_all
set_option maxRecDepth 100000 in
set_option maxHeartbeats 4000000 in
theorem nsame_spec (a b : Nod) (oka : OkN a) (okb : OkN b) : FSpec Try.prog 43 [.agg [aI a.ino, aI a.kind, aI a.links, aS a.text, .sl 2 false (a.l.map entA)], .agg [aI b.ino, aI b.kind, aI b.links, aS b.text, .sl 2 false (b.l.map entA)]] (aB (dP (a = b))) := by
  have ha := oka.2.2.2.2.1
  have hb := okb.2.2.2.2.1
  exact spec_vc (F := Try.f43) 400 (
 .new fun b1 => .new fun b2 => .r 1 <| .r 1 <| .ord [0, 1, 3, 4, 2, 5, 6, 7, 8, 9, 10, 11, 12, 13, 14, 15, 16, 17, 18, 19, 20, 21] <| .run 4 [b1 = b1, b2 = b2] ⟨rfl, rfl, trivial⟩ <|
 .call (num3_spec a) <|
 .call (num3_spec b) <|
 .binV .eql 99 (eqInt3 99 a.ino a.kind a.links b.ino b.kind b.links (by kernel_rfl) (run_int3 99 3 (by kernel_rfl) (by kernel_rfl) (fun _ => by kernel_rfl) a.ino a.kind a.links b.ino b.kind b.links)) <|
 .r 1 <| .br 13 (a.ino == b.ino && a.kind == b.kind && a.links == b.links) (fun q1 => have p1 := booT q1; .run 7 [b1 = b1, b2 = b2] ⟨rfl, rfl, trivial⟩ <|
 .br 20 (a.text == b.text) (fun q2 => have p2 := beqT q2; .run 4 [b1 = b1, b2 = b2] ⟨rfl, rfl, trivial⟩ <|
 .call (eqE_spec a.l b.l (by assumption) (by assumption)) <|
 .r 2 <| .fin (x := aB (dP (a.l = b.l))) (r := aB (dP (a = b))) [] trivial (by
    refine sE ?_
    constructor
    · intro h
      simp only [Bool.and_eq_true, beq_iff_eq, dP_true] at *
      refine nod_eq ?_ ?_ ?_ ?_ ?_ <;> simp_all
    · intro h
      subst h
      simp_all [dP_true]))
 <| fun q2 => have p2 := beqF q2; .r 7 <| .fin (x := aB false) (r := aB (dP (a = b))) [] trivial (by
    refine sF (fun h => ?_)
    subst h
    simp_all [dP_false]))
 <| fun q1 => have p1 := booF q1; .r 14 <| .fin (x := aB false) (r := aB (dP (a = b))) [] trivial (by
    refine sF (fun h => ?_)
    subst h
    simp_all [dP_false])) Try.func43 rfl (by kernel_rfl) (by kernel_rfl)
set_option maxRecDepth 100000 in
set_option maxHeartbeats 4000000 in
theorem rnsame_spec (a b : Nod) (oka : OkN a) (okb : OkN b) : FSpec Try.prog 33 [.agg [aI a.ino, aI a.kind, aI a.links, aS a.text, .sl 2 false (a.l.map entA)], .agg [aI b.ino, aI b.kind, aI b.links, aS b.text, .sl 2 false (b.l.map entA)]] (aB (dP (a = b))) := by
  have ha := oka.2.2.2.2.1
  have hb := okb.2.2.2.2.1
  exact spec_vc (F := Try.f33) 400 (
 .new fun b1 => .new fun b2 => .r 1 <| .run 4 [b1 = b1, b2 = b2] ⟨rfl, rfl, trivial⟩ <|
 .call (reqE_spec a.l b.l (by assumption) (by assumption)) <|
 .r 1 <| .r 2 <| .br 12 (dP (a.l = b.l)) (fun q1 => have p1 := booT q1; .run 7 [b1 = b1, b2 = b2] ⟨rfl, rfl, trivial⟩ <|
 .br 19 (a.ino == b.ino) (fun q2 => have p2 := beqT q2; .run 7 [b1 = b1, b2 = b2] ⟨rfl, rfl, trivial⟩ <|
 .br 26 (a.kind == b.kind) (fun q3 => have p3 := beqT q3; .run 7 [b1 = b1, b2 = b2] ⟨rfl, rfl, trivial⟩ <|
 .br 33 (a.links == b.links) (fun q4 => have p4 := beqT q4; .run 7 [b1 = b1, b2 = b2] ⟨rfl, rfl, trivial⟩ <|
 .fin (x := aB (a.text == b.text)) (r := aB (dP (a = b))) [] trivial (by
    refine sE ?_
    constructor
    · intro h
      simp only [Bool.and_eq_true, beq_iff_eq, dP_true] at *
      refine nod_eq ?_ ?_ ?_ ?_ ?_ <;> simp_all
    · intro h
      subst h
      simp_all [dP_true]))
 <| fun q4 => have p4 := beqF q4; .r 7 <| .fin (x := aB false) (r := aB (dP (a = b))) [] trivial (by
    refine sF (fun h => ?_)
    subst h
    simp_all [dP_false]))
 <| fun q3 => have p3 := beqF q3; .r 14 <| .fin (x := aB false) (r := aB (dP (a = b))) [] trivial (by
    refine sF (fun h => ?_)
    subst h
    simp_all [dP_false]))
 <| fun q2 => have p2 := beqF q2; .r 21 <| .fin (x := aB false) (r := aB (dP (a = b))) [] trivial (by
    refine sF (fun h => ?_)
    subst h
    simp_all [dP_false]))
 <| fun q1 => have p1 := booF q1; .r 28 <| .fin (x := aB false) (r := aB (dP (a = b))) [] trivial (by
    refine sF (fun h => ?_)
    subst h
    simp_all [dP_false])) Try.func33 rfl (by kernel_rfl) (by kernel_rfl)
end Go.Proofs.Ytibcmgmlklehdaa
