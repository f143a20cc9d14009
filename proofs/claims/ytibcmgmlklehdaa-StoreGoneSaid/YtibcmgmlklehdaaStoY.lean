/- Sameness of stores, of file systems, of numbers; how many versions; a new store. -/
import Derived.Test.YtibcmgmlklehdaaStoX
set_option linter.unusedVariables false
set_option linter.unusedSimpArgs false
namespace Go.Proofs.Ytibcmgmlklehdaa
open Go Go.RowKit Copyhold
theorem fsy_eq {x y : Fsy} (h1 : x.l = y.l) (h2 : x.next = y.next) : x = y := by cases x; cases y; simp_all
set_option maxRecDepth 100000 in
set_option maxHeartbeats 4000000 in
theorem fsame_spec (f g : Fsy) (okf : OkF f) (okg : OkF g) : FSpec Try.prog 12 [.agg [.sl 5 false (f.l.map nodA), aI f.next], .agg [.sl 5 false (g.l.map nodA), aI g.next]] (aB (dP (f = g))) := by
  have hb1 := okf.2.1
  have hb2 := okg.2.1
  exact spec_vc (F := Try.f12) 400 (
 .new fun b1 => .new fun b2 => .r 1 <| .run 6 [b1 = b1, b2 = b2] ⟨rfl, rfl, trivial⟩ <|
 .br 12 (f.next != g.next) (fun q1 => have p1 := bneT q1; .r 8 <| .r 1 <| .fin (x := aB false) (r := aB (dP (f = g))) [] trivial (by exact sF (fun h => by subst h; omega)))
 <| fun q1 => have p1 := bneF q1; .run 3 [b1 = b1] ⟨rfl, trivial⟩ <|
 .val 15 (show (aI ((f.l.map nodA).length : Int) : AV) = aI (f.l.length : Int) from by rw [List.length_map]) <| .run 3 [b2 = b2] ⟨rfl, trivial⟩ <|
 .val 18 (show (aI ((g.l.map nodA).length : Int) : AV) = aI (g.l.length : Int) from by rw [List.length_map]) <| .r 2 <| .br 20 ((f.l.length : Int) != (g.l.length : Int)) (fun q2 => have p2 := bneT q2; .r 1 <| .fin (x := aB false) (r := aB (dP (f = g))) [] trivial (by exact sF (fun h => by subst h; omega)))
 <| fun q2 => have p2 := bneF q2; .r 1 <| let L1 : Lp (Nat) := ⟨fun a1 => ⟨[(2, .ptr 2 b1 0), (3, .ptr 3 b2 0), (5, aI (a1 : Int))], [(2, .box b1 31 [.sl 5 false (f.l.map nodA), aI f.next]), (3, .box b2 31 [.sl 5 false (g.l.map nodA), aI g.next])]⟩, fun a1 => f.l.length - a1, fun a1 => a1 ≤ f.l.length ∧ f.l.take a1 = g.l.take a1⟩
 .loop L1 0 (show 0 ≤ f.l.length ∧ f.l.take 0 = g.l.take 0 from ⟨Nat.zero_le _, rfl⟩) ⟨[(2, .ptr 2 b1 0), (3, .ptr 3 b2 0), (5, aI 0)], [(2, .box b1 31 [.sl 5 false (f.l.map nodA), aI f.next]), (3, .box b2 31 [.sl 5 false (g.l.map nodA), aI g.next])]⟩ ⟨Sub.refl _, Sub.refl _, Sub.of_eq (congrArg aI (by first | omega | rfl)), trivial⟩ ⟨⟨_, rfl, SubB.refl _⟩, ⟨_, rfl, SubB.refl _⟩, trivial⟩ fun a1 ha1 =>
 (fun (k : Nat) (hH1 : k ≤ f.l.length ∧ f.l.take k = g.l.take k) => .run 4 [b1 = b1] ⟨rfl, trivial⟩ <|
 .val 24 (show (aI ((f.l.map nodA).length : Int) : AV) = aI (f.l.length : Int) from by rw [List.length_map]) <| .r 1 <| .br 25 (decide ((k : Int) < (f.l.length : Int))) (fun q3 => have p3 := decT q3; .ord [0, 1, 2, 3, 4, 5, 6, 7, 8, 9, 10, 11] <| .run 3 [b1 = b1] ⟨rfl, trivial⟩ <|
 .idxM f.l nodA k (m := (k : Int)) rfl (by omega) fun x1 hx1 =>
 have okx1 := okf.2.2 x1 (List.mem_of_getElem? hx1); .run 4 [b2 = b2] ⟨rfl, trivial⟩ <|
 .idxM g.l nodA k (m := (k : Int)) rfl (by omega) fun x2 hx2 =>
 have okx2 := okg.2.2 x2 (List.mem_of_getElem? hx2); .r 1 <| .call (rnsame_spec x1 x2 okx1 okx2) <|
 .r 1 <| .r 2 <| .br 40 (!(dP (x1 = x2))) (fun q4 => have q4 := notT q4; have p4 := booF q4; .r 1 <| .fin (x := aB false) (r := aB (dP (f = g))) [] trivial (by
    refine sF (fun h => ?_)
    rw [h, hx2] at hx1
    obtain rfl := Option.some.inj hx1
    simp_all [dP_true, dP_false]))
 <| fun q4 => have q4 := notF q4; have p4 := booT q4; .run 3 [rng .i64 ((k : Int) + 1)] ⟨rng64 (by omega) (by omega), trivial⟩ <|
 .back L1 k (k + 1) (show (k + 1) ≤ f.l.length ∧ f.l.take (k + 1) = g.l.take (k + 1) from ⟨by omega, by rw [take_step hx1, take_step hx2, hH1.2]; first | (congr 2; done) | (congr 2; exact dP_true.1 (by assumption))⟩) (show f.l.length - (k + 1) < f.l.length - k from (by omega)) ⟨[(2, .ptr 2 b1 0), (3, .ptr 3 b2 0), (5, aI ((k : Int) + 1))], [(2, .box b1 31 [.sl 5 false (f.l.map nodA), aI f.next]), (3, .box b2 31 [.sl 5 false (g.l.map nodA), aI g.next])]⟩ ⟨Sub.refl _, Sub.refl _, Sub.of_eq (congrArg aI (by first | omega | rfl)), trivial⟩ ⟨⟨_, rfl, SubB.refl _⟩, ⟨_, rfl, SubB.refl _⟩, trivial⟩)
 <| fun q3 => have p3 := decF q3; .r 1 <| .fin (x := aB true) (r := aB (dP (f = g))) [] trivial (by
    refine sT (fsy_eq ?_ (by omega))
    have h := hH1.2
    rw [take_all (by omega), take_all (by omega)] at h
    exact h)) a1 ha1) Try.func12 rfl (by kernel_rfl) (by kernel_rfl)
set_option maxRecDepth 100000 in
set_option maxHeartbeats 4000000 in
theorem ints_spec (a b : List Int) (ha : a.length ≤ 8796093022207) (hb : b.length ≤ 8796093022207) : FSpec Try.prog 15 [.sl 1 false (a.map intA), .sl 1 false (b.map intA)] (aB (dP (a = b))) := by
  exact spec_vc (F := Try.f15) 400 (
 .r 1 <| .r 2 <| .val 7 (show (aI ((a.map intA).length : Int) : AV) = aI (a.length : Int) from by rw [List.length_map]) <| .r 2 <| .val 9 (show (aI ((b.map intA).length : Int) : AV) = aI (b.length : Int) from by rw [List.length_map]) <| .r 1 <| .br 10 ((a.length : Int) != (b.length : Int)) (fun q1 => have p1 := bneT q1; .r 1 <| .fin (x := aB false) (r := aB (dP (a = b))) [] trivial (by exact sF (fun h => by have := congrArg List.length h; omega)))
 <| fun q1 => have p1 := bneF q1; .r 1 <| let L1 : Lp (Nat) := ⟨fun a1 => ⟨[(0, .sl 1 false (a.map intA)), (1, .sl 1 false (b.map intA)), (5, aI (a1 : Int))], []⟩, fun a1 => a.length - a1, fun a1 => a1 ≤ a.length ∧ a.take a1 = b.take a1⟩
 .loop L1 0 (show 0 ≤ a.length ∧ a.take 0 = b.take 0 from ⟨Nat.zero_le _, rfl⟩) ⟨[(0, .sl 1 false (a.map intA)), (1, .sl 1 false (b.map intA)), (5, aI 0)], []⟩ ⟨Sub.refl _, Sub.refl _, Sub.of_eq (congrArg aI (by first | omega | rfl)), trivial⟩ trivial fun a1 ha1 =>
 (fun (k : Nat) (hH1 : k ≤ a.length ∧ a.take k = b.take k) => .r 3 <| .val 13 (show (aI ((a.map intA).length : Int) : AV) = aI (a.length : Int) from by rw [List.length_map]) <| .r 1 <| .br 14 (decide ((k : Int) < (a.length : Int))) (fun q2 => have p2 := decT q2; .ord [0, 1, 2, 3, 4, 5, 6, 7, 8] <| .r 2 <| .idxM a intA k (m := (k : Int)) rfl (by omega) fun x1 hx1 =>
 .r 3 <| .idxM b intA k (m := (k : Int)) rfl (by omega) fun x2 hx2 =>
 .r 2 <| .br 25 (x1 != x2) (fun q3 => have p3 := bneT q3; .r 1 <| .fin (x := aB false) (r := aB (dP (a = b))) [] trivial (by
    refine sF (fun h => ?_)
    rw [h, hx2] at hx1
    obtain rfl := Option.some.inj hx1
    simp_all [dP_true, dP_false]))
 <| fun q3 => have p3 := bneF q3; .run 3 [rng .i64 ((k : Int) + 1)] ⟨rng64 (by omega) (by omega), trivial⟩ <|
 .back L1 k (k + 1) (show (k + 1) ≤ a.length ∧ a.take (k + 1) = b.take (k + 1) from ⟨by omega, by rw [take_step hx1, take_step hx2, hH1.2]; first | (congr 2; done) | (congr 2; exact (by simp_all [dP_true, dP_false]))⟩) (show a.length - (k + 1) < a.length - k from (by omega)) ⟨[(0, .sl 1 false (a.map intA)), (1, .sl 1 false (b.map intA)), (5, aI ((k : Int) + 1))], []⟩ ⟨Sub.refl _, Sub.refl _, Sub.of_eq (congrArg aI (by first | omega | rfl)), trivial⟩ trivial)
 <| fun q2 => have p2 := decF q2; .r 1 <| .fin (x := aB true) (r := aB (dP (a = b))) [] trivial (by
    refine sT ?_
    have h := hH1.2
    rw [take_all (by omega), take_all (by omega)] at h
    exact h)) a1 ha1) Try.func15 rfl (by kernel_rfl) (by kernel_rfl)
def manyD (s : Sto) : Nat := (s.l.map (fun c => c.l.length)).sum
def manyK (s : Sto) (k : Nat) : Nat := ((s.l.take k).map (fun c => c.l.length)).sum
theorem manyK_step {s : Sto} {k : Nat} {c : Chn} (h : s.l[k]? = some c) : manyK s (k + 1) = manyK s k + c.l.length := sum_take _ h
theorem manyK_le (s : Sto) (k : Nat) : manyK s k ≤ manyD s := sum_take_le _ _ _
theorem manyK_all {s : Sto} {k : Nat} (h : s.l.length ≤ k) : manyK s k = manyD s := by unfold manyK; rw [take_all h]; rfl
set_option maxRecDepth 100000 in
set_option maxHeartbeats 4000000 in
theorem many_spec (s : Sto) (hl : s.l.length ≤ 8796093022207) (hm : manyD s ≤ 100000) : FSpec Try.prog 18 [.agg [.sl 2 false (s.l.map chnA), .sl 2 false (s.nexts.map cntA), aI s.stamp]] (aI (manyD s : Int)) := by
  exact spec_vc (F := Try.f18) 400 (
 .new fun b1 => .r 1 <| .r 1 <| .run 3 [b1 = b1] ⟨rfl, trivial⟩ <|
 .val 8 (show (aI ((s.l.map chnA).length : Int) : AV) = aI (s.l.length : Int) from by rw [List.length_map]) <| .r 1 <| let L1 : Lp (Nat) := ⟨fun a1 => ⟨[(7, .sl 2 false (s.l.map chnA)), (8, aI (s.l.length : Int)), (3, aI (manyK s a1 : Int)), (9, aI (a1 : Int))], []⟩, fun a1 => s.l.length - a1, fun a1 => a1 ≤ s.l.length⟩
 .loop L1 0 (show 0 ≤ s.l.length from Nat.zero_le _) ⟨[(7, .sl 2 false (s.l.map chnA)), (8, aI (s.l.length : Int)), (3, aI 0), (9, aI 0)], []⟩ ⟨Sub.refl _, Sub.refl _, Sub.of_eq (congrArg aI (by first | omega | rfl)), Sub.of_eq (congrArg aI (by first | omega | rfl)), trivial⟩ trivial fun a1 ha1 =>
 (fun (k : Nat) (hH1 : k ≤ s.l.length) => .r 1 <| .br 10 (decide ((k : Int) < (s.l.length : Int))) (fun q1 => have p1 := decT q1; .idxM s.l chnA k (m := (k : Int)) rfl (by omega) fun x1 hx1 =>
 have smx1 := manyK_le s (k + 1); have snx1 := manyK_step hx1; .r 1 <| .new fun b2 => .run 1 [b2 = b2] ⟨rfl, trivial⟩ <|
 .run 4 [b2 = b2] ⟨rfl, trivial⟩ <|
 .val 16 (show (aI ((x1.l.map verA).length : Int) : AV) = aI (x1.l.length : Int) from by rw [List.length_map]) <| .run 2 [rng .i64 ((manyK s k : Int) + (x1.l.length : Int))] ⟨rng64 (by omega) (by omega), trivial⟩ <|
 .run 2 [rng .i64 ((k : Int) + 1)] ⟨rng64 (by omega) (by omega), trivial⟩ <|
 .back L1 k (k + 1) (show (k + 1) ≤ s.l.length from (by show _ ≤ _; omega)) (show s.l.length - (k + 1) < s.l.length - k from (by omega)) ⟨[(7, .sl 2 false (s.l.map chnA)), (8, aI (s.l.length : Int)), (3, aI ((manyK s k : Int) + (x1.l.length : Int))), (9, aI ((k : Int) + 1))], []⟩ ⟨Sub.refl _, Sub.refl _, Sub.of_eq (congrArg aI (by rw [manyK_step hx1]; omega)), Sub.of_eq (congrArg aI (by first | omega | rfl)), trivial⟩ trivial)
 <| fun q1 => have p1 := decF q1; .r 2 <| .fin (x := aI (manyK s k : Int)) (r := aI (manyD s : Int)) [] trivial (by exact Sub.of_eq (congrArg aI (by rw [manyK_all (by omega)])))) a1 ha1) Try.func18 rfl (by kernel_rfl) (by kernel_rfl)
def wV (v : Ver) : Nat := v.n.l.length
def wC (c : Chn) : Nat := c.l.length + (c.l.map wV).sum
def few (s : Sto) : Prop := s.l.length + s.nexts.length + (s.l.map wC).sum ≤ 200 ∧ ∀ c ∈ s.l, ∀ v ∈ c.l, v.n.text.length ≤ 4096
def FewK (s : Sto) (k n : Nat) : Prop := k ≤ s.l.length ∧ n ≤ s.l.length + s.nexts.length + (s.l.map wC).sum ∧
  ((n = s.l.length + s.nexts.length + ((s.l.take k).map wC).sum ∧ ∀ c ∈ s.l.take k, ∀ v ∈ c.l, v.n.text.length ≤ 4096) ∨ 200 < n) ∧ n ≤ 100000000000000
def FewV (c : Chn) (n j m : Nat) : Prop := j ≤ c.l.length ∧ m ≤ 100000000000000 ∧ m = n + c.l.length + ((c.l.take j).map wV).sum ∧ (∀ v ∈ c.l.take j, v.n.text.length ≤ 4096)
theorem few0 (s : Sto) (h1 : s.l.length ≤ 8796093022207) (h2 : s.nexts.length ≤ 8796093022207) : FewK s 0 (s.l.length + s.nexts.length) :=
  ⟨Nat.zero_le _, by omega, .inl ⟨by simp, fun c h => by simp at h⟩, by omega⟩
theorem fewV0 (c : Chn) (n : Nat) (h1 : n ≤ 200) (h2 : c.l.length ≤ 8796093022207) : FewV c n 0 (n + c.l.length) := ⟨Nat.zero_le _, by omega, by simp, fun v h => by simp at h⟩
theorem fewV {c : Chn} {v : Ver} {n j m : Nat} (hv : c.l[j]? = some v) (h : FewV c n j m) (h0 : j < c.l.length) (h1 : m ≤ 200) (h2 : v.n.text.length ≤ 4096) (h3 : v.n.l.length ≤ 8796093022207) : FewV c n (j + 1) (m + v.n.l.length) := by
  obtain ⟨_, _, e, ht⟩ := h
  refine ⟨h0, by omega, by rw [sum_take wV hv, e]; simp only [wV]; omega, fun u hu => ?_⟩
  rcases mem_take_add hv hu with h | rfl
  · exact ht u h
  · exact h2
theorem few_out {s : Sto} {c : Chn} {k n j m : Nat} (hc : s.l[k]? = some c) (h : FewK s k n) (h0 : k < s.l.length) (hn : n ≤ 200) (h' : FewV c n j m) (h3 : ¬ (j : Int) < c.l.length ∨ ¬ (m : Int) ≤ 200) : FewK s (k + 1) m := by
  obtain ⟨_, _, h, _⟩ := h
  obtain ⟨hj, hm, e, ht⟩ := h'
  rcases h with ⟨h, htx⟩ | h
  · have h5 := sum_take wC hc
    have h6 := sum_take_le wC s.l (k + 1)
    have h7 := sum_take_le wV c.l j
    have h8 : wC c = c.l.length + (c.l.map wV).sum := rfl
    refine ⟨h0, by omega, ?_, hm⟩
    by_cases h9 : m ≤ 200
    · have hj' : c.l.length ≤ j := by omega
      rw [take_all hj'] at e ht
      refine .inl ⟨by omega, fun d hd => ?_⟩
      rcases mem_take_add hc hd with h | rfl
      · exact htx d h
      · exact ht
    · exact .inr (by omega)
  · omega
theorem few_text {s : Sto} {c : Chn} {v : Ver} {k j : Nat} (hc : s.l[k]? = some c) (hv : c.l[j]? = some v) (h : ¬ v.n.text.length ≤ 4096) : ¬ few s := fun hf => h (hf.2 c (List.mem_of_getElem? hc) v (List.mem_of_getElem? hv))
theorem few_end {s : Sto} {k n : Nat} (h : FewK s k n) (h3 : ¬ (k : Int) < s.l.length ∨ ¬ (n : Int) ≤ 200) : decide ((n : Int) ≤ 200) = true ↔ few s := by
  obtain ⟨hk, hle, h, _⟩ := h
  rw [decide_eq_true_iff]
  refine ⟨fun hn => ?_, fun hf => ?_⟩
  · have hk' : s.l.length ≤ k := by omega
    rcases h with ⟨h, ht⟩ | h
    · rw [take_all hk'] at h ht
      exact ⟨by omega, ht⟩
    · omega
  · have := hf.1
    omega
set_option maxRecDepth 100000 in
set_option maxHeartbeats 4000000 in
theorem few_spec (s : Sto) (oks : OkS s) : FSpec Try.prog 9 [.agg [.sl 2 false (s.l.map chnA), .sl 2 false (s.nexts.map cntA), aI s.stamp]] (aB (dP (few s))) := by
  have hs1 := oks.2.1
  have hs2 := oks.2.2.1
  exact spec_vc (F := Try.f9) 400 (
 .new fun b1 => .r 1 <| .run 3 [b1 = b1] ⟨rfl, trivial⟩ <|
 .val 8 (show (aI ((s.l.map chnA).length : Int) : AV) = aI (s.l.length : Int) from by rw [List.length_map]) <| .run 3 [b1 = b1] ⟨rfl, trivial⟩ <|
 .val 11 (show (aI ((s.nexts.map cntA).length : Int) : AV) = aI (s.nexts.length : Int) from by rw [List.length_map]) <| .run 2 [rng .i64 ((s.l.length : Int) + (s.nexts.length : Int))] ⟨rng64 (by omega) (by omega), trivial⟩ <|
 .r 1 <| let L1 : Lp (Nat × Nat) := ⟨fun a1 => ⟨[(1, .ptr 1 b1 0), (4, aI (a1.1 : Int)), (3, aI (a1.2 : Int))], [(1, .box b1 25 [.sl 2 false (s.l.map chnA), .sl 2 false (s.nexts.map cntA), aI s.stamp])]⟩, fun a1 => s.l.length - a1.1, fun a1 => FewK s a1.1 a1.2⟩
 .loop L1 (0, s.l.length + s.nexts.length) (show FewK s 0 (s.l.length + s.nexts.length) from few0 s hs1 hs2) ⟨[(1, .ptr 1 b1 0), (4, aI 0), (3, aI ((s.l.length : Int) + (s.nexts.length : Int)))], [(1, .box b1 25 [.sl 2 false (s.l.map chnA), .sl 2 false (s.nexts.map cntA), aI s.stamp])]⟩ ⟨Sub.refl _, Sub.of_eq (congrArg aI (by first | omega | rfl)), Sub.of_eq (congrArg aI (by first | omega | rfl)), trivial⟩ ⟨⟨_, rfl, SubB.refl _⟩, trivial⟩ fun a1 ha1 =>
 (fun (k : Nat) (n : Nat) (hH1 : FewK s k n) => .run 4 [b1 = b1] ⟨rfl, trivial⟩ <|
 .val 16 (show (aI ((s.l.map chnA).length : Int) : AV) = aI (s.l.length : Int) from by rw [List.length_map]) <| .r 2 <| .br 18 (decide ((k : Int) < (s.l.length : Int))) (fun q1 => have p1 := decT q1; .r 3 <| .br 21 (decide ((n : Int) ≤ 200)) (fun q2 => have p2 := decT q2; .run 4 [b1 = b1] ⟨rfl, trivial⟩ <|
 .idxM s.l chnA k (m := (k : Int)) rfl (by omega) fun x1 hx1 =>
 have okx1 := oks.2.2.2.1 x1 (List.mem_of_getElem? hx1); have blx1 := okx1.2.1; .r 3 <| .val 31 (show (aI ((x1.l.map verA).length : Int) : AV) = aI (x1.l.length : Int) from by rw [List.length_map]) <| .run 2 [rng .i64 ((n : Int) + (x1.l.length : Int))] ⟨rng64 (by omega) (by omega), trivial⟩ <|
 .r 1 <| let L2 : Lp (Nat × Nat) := ⟨fun a2 => ⟨[(1, .ptr 1 b1 0), (4, aI (k : Int)), (5, aI (a2.1 : Int)), (3, aI (a2.2 : Int))], [(1, .box b1 25 [.sl 2 false (s.l.map chnA), .sl 2 false (s.nexts.map cntA), aI s.stamp])]⟩, fun a2 => x1.l.length - a2.1, fun a2 => FewV x1 n a2.1 a2.2⟩
 .loop L2 (0, (n + x1.l.length)) (show FewV x1 n 0 (n + x1.l.length) from (fewV0 _ _ (by omega) (by omega))) ⟨[(1, .ptr 1 b1 0), (4, aI (k : Int)), (5, aI 0), (3, aI ((n : Int) + (x1.l.length : Int)))], [(1, .box b1 25 [.sl 2 false (s.l.map chnA), .sl 2 false (s.nexts.map cntA), aI s.stamp])]⟩ ⟨Sub.refl _, Sub.refl _, Sub.of_eq (congrArg aI (by first | omega | rfl)), Sub.of_eq (congrArg aI (by first | omega | rfl)), trivial⟩ ⟨⟨_, rfl, SubB.refl _⟩, trivial⟩ fun a2 ha2 =>
 (fun (j : Nat) (m : Nat) (hH2 : FewV x1 n j m) => .run 4 [b1 = b1] ⟨rfl, trivial⟩ <|
 .idx k (m := (k : Int)) (xs := s.l.map chnA) (e := chnA x1) rfl (map_some hx1) <|
 .r 3 <| .val 40 (show (aI ((x1.l.map verA).length : Int) : AV) = aI (x1.l.length : Int) from by rw [List.length_map]) <| .r 2 <| .br 42 (decide ((j : Int) < (x1.l.length : Int))) (fun q3 => have p3 := decT q3; .r 3 <| .br 45 (decide ((m : Int) ≤ 200)) (fun q4 => have p4 := decT q4; .run 4 [b1 = b1] ⟨rfl, trivial⟩ <|
 .idx k (m := (k : Int)) (xs := s.l.map chnA) (e := chnA x1) rfl (map_some hx1) <|
 .r 3 <| .idxM x1.l verA j (m := (j : Int)) rfl (by omega) fun x2 hx2 =>
 have okx2 := okx1.2.2 x2 (List.mem_of_getElem? hx2); have blx2 := okx2.2.2.2.2.2.1; .r 4 <| .val 60 (show (aI ((x2.n.l.map entA).length : Int) : AV) = aI (x2.n.l.length : Int) from by rw [List.length_map]) <| .run 2 [rng .i64 ((m : Int) + (x2.n.l.length : Int))] ⟨rng64 (by omega) (by omega), trivial⟩ <|
 .run 3 [b1 = b1] ⟨rfl, trivial⟩ <|
 .idx k (m := (k : Int)) (xs := s.l.map chnA) (e := chnA x1) rfl (map_some hx1) <|
 .r 3 <| .idx j (m := (j : Int)) (xs := x1.l.map verA) (e := verA x2) rfl (map_some hx2) <|
 .r 5 <| .br 74 (decide (((x2.n.text).length : Int) > 4096)) (fun q5 => have p5 := decT q5; .r 1 <| .fin (x := aB false) (r := aB (dP (few s))) [] trivial (by exact sF (few_text hx1 hx2 (by omega))))
 <| fun q5 => have p5 := decF q5; .run 3 [rng .i64 ((j : Int) + 1)] ⟨rng64 (by omega) (by omega), trivial⟩ <|
 .back L2 (j, m) ((j + 1), (m + x2.n.l.length)) (show FewV x1 n (j + 1) (m + x2.n.l.length) from (fewV hx2 hH2 (by omega) (by omega) (by omega) (by omega))) (show x1.l.length - (j + 1) < x1.l.length - j from (by omega)) ⟨[(1, .ptr 1 b1 0), (4, aI (k : Int)), (5, aI ((j : Int) + 1)), (3, aI ((m : Int) + (x2.n.l.length : Int)))], [(1, .box b1 25 [.sl 2 false (s.l.map chnA), .sl 2 false (s.nexts.map cntA), aI s.stamp])]⟩ ⟨Sub.refl _, Sub.refl _, Sub.of_eq (congrArg aI (by first | omega | rfl)), Sub.of_eq (congrArg aI (by first | omega | rfl)), trivial⟩ ⟨⟨_, rfl, SubB.refl _⟩, trivial⟩)
 <| fun q4 => have p4 := decF q4; .run 3 [rng .i64 ((k : Int) + 1)] ⟨rng64 (by omega) (by omega), trivial⟩ <|
 .back L1 (k, n) ((k + 1), m) (show FewK s (k + 1) m from (few_out hx1 hH1 (by omega) (by omega) hH2 (by omega))) (show s.l.length - (k + 1) < s.l.length - k from (by omega)) ⟨[(1, .ptr 1 b1 0), (4, aI ((k : Int) + 1)), (3, aI (m : Int))], [(1, .box b1 25 [.sl 2 false (s.l.map chnA), .sl 2 false (s.nexts.map cntA), aI s.stamp])]⟩ ⟨Sub.refl _, Sub.of_eq (congrArg aI (by first | omega | rfl)), Sub.refl _, trivial⟩ ⟨⟨_, rfl, SubB.refl _⟩, trivial⟩)
 <| fun q3 => have p3 := decF q3; .r 3 <| .run 3 [rng .i64 ((k : Int) + 1)] ⟨rng64 (by omega) (by omega), trivial⟩ <|
 .back L1 (k, n) ((k + 1), m) (show FewK s (k + 1) m from (few_out hx1 hH1 (by omega) (by omega) hH2 (by omega))) (show s.l.length - (k + 1) < s.l.length - k from (by omega)) ⟨[(1, .ptr 1 b1 0), (4, aI ((k : Int) + 1)), (3, aI (m : Int))], [(1, .box b1 25 [.sl 2 false (s.l.map chnA), .sl 2 false (s.nexts.map cntA), aI s.stamp])]⟩ ⟨Sub.refl _, Sub.of_eq (congrArg aI (by first | omega | rfl)), Sub.refl _, trivial⟩ ⟨⟨_, rfl, SubB.refl _⟩, trivial⟩) a2.1 a2.2 ha2)
 <| fun q2 => have p2 := decF q2; .r 3 <| .fin (x := aB (decide ((n : Int) ≤ 200))) (r := aB (dP (few s))) [] trivial (by exact sE (few_end hH1 (by omega))))
 <| fun q1 => have p1 := decF q1; .r 3 <| .r 3 <| .fin (x := aB (decide ((n : Int) ≤ 200))) (r := aB (dP (few s))) [] trivial (by exact sE (few_end hH1 (by omega)))) a1.1 a1.2 ha1) Try.func9 rfl (by kernel_rfl) (by kernel_rfl)
end Go.Proofs.Ytibcmgmlklehdaa
