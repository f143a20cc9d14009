/- slices.Concat of replies, and of what is over: pieces one behind the other. -/
import Derived.Test.YtpdedjbkfcaebaaCliBr
set_option linter.unusedVariables false
set_option linter.unusedSimpArgs false
namespace Go.Proofs.Ytpdedjbkfcaebaa
open Go.RowKit Copyhold
def pc6 (p : List (List AV)) : List AV := [.sl 6 false p]
def pc4 (p : List (List AV)) : List AV := [.sl 4 false p]
set_option maxRecDepth 100000 in
set_option maxHeartbeats 4000000 in
theorem concat_rep (ps : List (List (List AV))) (hl : ps.length ≤ 100000) (ht : ps.flatten.length ≤ 100000) : FSpec Try.prog 57 [.sl 1 false (ps.map pc6)] (.sl 6 false ps.flatten) := by
  refine spec_enter ⟨[(0, .sl 1 false (ps.map pc6))], []⟩ Try.func57 rfl (by kernel_rfl) (by kernel_rfl) rfl (fun t => match t with | 0 => rfl | _ + 1 => rfl) (fun c hc => ?_)
  replace hc : c.n = 36 := hc
  refine awp_seq_k (fun K1 hK1 => ?_)
  refine awp_region [0] (by rw [hc]; kernel_rfl) (by kernel_rfl) ?_
  refine seq_run (r := []) [0] (s' := ⟨[(0, .sl 1 false (ps.map pc6)), (2, aN)], []⟩) (ps := []) (by kernel_rfl) trivial ?_
  refine hK1 _ ?_
  try clear hK1 K1
  refine awp_seq_k (fun K2 hK2 => ?_)
  refine awp_region [0] (by rw [hc]; kernel_rfl) (by kernel_rfl) ?_
  refine seq_run (r := []) [0] (s' := ⟨[(0, .sl 1 false (ps.map pc6)), (2, aN), (3, aI 0)], []⟩) (ps := []) (by kernel_rfl) trivial ?_
  refine hK2 _ ?_
  try clear hK2 K2
  refine awp_seq_k (fun K3 hK3 => ?_)
  refine awp_seq_k (fun K4 hK4 => ?_)
  refine awp_region [0, 1, 2] (by rw [hc]; kernel_rfl) (by kernel_rfl) ?_
  refine seq_run (r := [2]) [0, 1] (s' := ⟨[(0, .sl 1 false (ps.map pc6)), (2, aN), (3, aI 0), (9, .sl 1 false (ps.map pc6)), (10, aI ((ps.map pc6).length : Int))], []⟩) (ps := []) (by kernel_rfl) trivial ?_
  refine seq_val (s' := ⟨[(0, .sl 1 false (ps.map pc6)), (2, aN), (3, aI 0), (9, .sl 1 false (ps.map pc6)), (10, aI (ps.length : Int))], []⟩) 10 (x := aI ((ps.map pc6).length : Int)) (y := aI (ps.length : Int)) (by rw [List.length_map]) (by kernel_rfl) (by kernel_rfl) ?_
  refine seq_run (r := []) [2] (s' := ⟨[(0, .sl 1 false (ps.map pc6)), (2, aN), (3, aI 0), (9, .sl 1 false (ps.map pc6)), (10, aI (ps.length : Int)), (11, aI 0)], []⟩) (ps := []) (by kernel_rfl) trivial ?_
  refine hK4 _ ?_
  try clear hK4 K4
  refine awp_block ?_
  refine awp_rounds (α := Nat) (fun a => ⟨[(0, .sl 1 false (ps.map pc6)), (3, aI ((ps.take a).flatten.length : Int)), (9, .sl 1 false (ps.map pc6)), (10, aI (ps.length : Int)), (11, aI (a : Int))], []⟩) (fun a => ps.length - a) (fun a => a ≤ ps.length) 0 (LS.le ⟨Sub.refl _, Sub.refl _, Sub.refl _, Sub.refl _, Sub.refl _, trivial⟩ trivial) (by omega) ?_
  rintro k hH1
  replace hH1 : k ≤ ps.length := hH1
  show AWp _ _ _ _ (LS.fs ⟨[(0, .sl 1 false (ps.map pc6)), (3, aI ((ps.take k).flatten.length : Int)), (9, .sl 1 false (ps.map pc6)), (10, aI (ps.length : Int)), (11, aI (k : Int))], []⟩)
  refine awp_seq_k (fun K5 hK5 => ?_)
  refine awp_region [0] (by rw [hc]; kernel_rfl) (by kernel_rfl) ?_
  refine seq_run (r := []) [0] (s' := ⟨[(0, .sl 1 false (ps.map pc6)), (3, aI ((ps.take k).flatten.length : Int)), (9, .sl 1 false (ps.map pc6)), (10, aI (ps.length : Int)), (11, aI (k : Int)), (12, aB (decide ((k : Int) < (ps.length : Int))))], []⟩) (ps := []) (by kernel_rfl) trivial ?_
  refine hK5 _ ?_
  try clear hK5 K5
  refine awp_seq_k (fun K6 hK6 => ?_)
  rcases decC ((k : Int) < (ps.length : Int)) with ⟨q1, p1⟩ | ⟨q1, p1⟩
  ·
    refine awp_if true (by omega) (by kernel_rfl) q1 ?_
    refine awp_skip ?_
    refine hK6 _ ?_
    try clear hK6 K6
    refine awp_seq_k (fun K7 hK7 => ?_)
    refine awp_block ?_
    refine awp_seq_k (fun K8 hK8 => ?_)
    refine awp_region [0, 1, 2] (by rw [hc]; kernel_rfl) (by kernel_rfl) ?_
    obtain ⟨x1, hx1⟩ := some_of (l := ps) (k := k) (by omega)
    have tx1 := take_flat_le ps (k + 1)
    rw [take_flat hx1, List.length_append] at tx1
    refine seq_idx (s' := ⟨[(0, .sl 1 false (ps.map pc6)), (3, aI ((ps.take k).flatten.length : Int)), (9, .sl 1 false (ps.map pc6)), (10, aI (ps.length : Int)), (11, aI (k : Int)), (12, aB (decide ((k : Int) < (ps.length : Int)))), (13, .dptr [.sl 6 false x1])], []⟩) (xs := ps.map pc6) (m := (k : Int)) (d := some 13) (e := [.sl 6 false x1]) (k) (by kernel_rfl) rfl (map_some hx1) (by kernel_rfl) ?_
    refine seq_run (r := []) [1, 2] (s' := ⟨[(0, .sl 1 false (ps.map pc6)), (3, aI ((ps.take k).flatten.length : Int)), (9, .sl 1 false (ps.map pc6)), (10, aI (ps.length : Int)), (11, aI (k : Int)), (12, aB (decide ((k : Int) < (ps.length : Int)))), (13, .dptr [.sl 6 false x1]), (14, .sl 6 false x1), (5, .sl 6 false x1)], []⟩) (ps := []) (by kernel_rfl) trivial ?_
    refine hK8 _ ?_
    try clear hK8 K8
    refine awp_seq_k (fun K9 hK9 => ?_)
    refine awp_region [0, 1, 2, 3, 4] (by rw [hc]; kernel_rfl) (by kernel_rfl) ?_
    refine seq_run (r := []) [0, 1, 2, 3, 4] (s' := ⟨[(0, .sl 1 false (ps.map pc6)), (3, aI (((ps.take k).flatten.length : Int) + ((x1).length : Int))), (9, .sl 1 false (ps.map pc6)), (10, aI (ps.length : Int)), (11, aI (k : Int)), (12, aB (decide ((k : Int) < (ps.length : Int)))), (13, .dptr [.sl 6 false x1]), (14, .sl 6 false x1), (5, .sl 6 false x1), (15, aI ((ps.take k).flatten.length : Int)), (16, .sl 6 false x1), (17, aI ((x1).length : Int)), (18, aI (((ps.take k).flatten.length : Int) + ((x1).length : Int)))], []⟩) (ps := [rng .i64 (((ps.take k).flatten.length : Int) + ((x1).length : Int))]) (by kernel_rfl) ⟨rng64 (by omega) (by omega), trivial⟩ ?_
    refine hK9 _ ?_
    try clear hK9 K9
    refine awp_seq_k (fun K10 hK10 => ?_)
    refine awp_region [0, 1] (by rw [hc]; kernel_rfl) (by kernel_rfl) ?_
    refine seq_run (r := []) [0, 1] (s' := ⟨[(0, .sl 1 false (ps.map pc6)), (3, aI (((ps.take k).flatten.length : Int) + ((x1).length : Int))), (9, .sl 1 false (ps.map pc6)), (10, aI (ps.length : Int)), (11, aI (k : Int)), (12, aB (decide ((k : Int) < (ps.length : Int)))), (13, .dptr [.sl 6 false x1]), (14, .sl 6 false x1), (5, .sl 6 false x1), (15, aI ((ps.take k).flatten.length : Int)), (16, .sl 6 false x1), (17, aI ((x1).length : Int)), (18, aI (((ps.take k).flatten.length : Int) + ((x1).length : Int))), (19, aI (((ps.take k).flatten.length : Int) + ((x1).length : Int))), (20, aB (decide ((((ps.take k).flatten.length : Int) + ((x1).length : Int)) < 0)))], []⟩) (ps := []) (by kernel_rfl) trivial ?_
    refine hK10 _ ?_
    try clear hK10 K10
    rcases decC ((((ps.take k).flatten.length : Int) + ((x1).length : Int)) < 0) with ⟨q2, p2⟩ | ⟨q2, p2⟩
    ·
      exfalso
      omega
    refine awp_if false (by omega) (by kernel_rfl) q2 ?_
    refine awp_skip ?_
    refine hK7 _ ?_
    try clear hK7 K7
    refine awp_region [0, 1] (by rw [hc]; kernel_rfl) (by kernel_rfl) ?_
    refine seq_run (r := []) [0, 1] (s' := ⟨[(0, .sl 1 false (ps.map pc6)), (3, aI (((ps.take k).flatten.length : Int) + ((x1).length : Int))), (9, .sl 1 false (ps.map pc6)), (10, aI (ps.length : Int)), (11, aI ((k : Int) + 1)), (12, aB (decide ((k : Int) < (ps.length : Int)))), (13, .dptr [.sl 6 false x1]), (14, .sl 6 false x1), (5, .sl 6 false x1), (15, aI ((ps.take k).flatten.length : Int)), (16, .sl 6 false x1), (17, aI ((x1).length : Int)), (18, aI (((ps.take k).flatten.length : Int) + ((x1).length : Int))), (19, aI (((ps.take k).flatten.length : Int) + ((x1).length : Int))), (20, aB (decide ((((ps.take k).flatten.length : Int) + ((x1).length : Int)) < 0))), (22, aI ((k : Int) + 1))], []⟩) (ps := [rng .i64 ((k : Int) + 1)]) (by kernel_rfl) ⟨rng64 (by omega) (by omega), trivial⟩ ?_
    exact ⟨(k + 1), (by omega), (by omega), LS.le ⟨Sub.refl _, Sub.of_eq (congrArg aI (by rw [take_flat hx1, List.length_append]; omega)), Sub.refl _, Sub.refl _, Sub.refl _, trivial⟩ trivial⟩
  refine awp_if false (by omega) (by kernel_rfl) q1 ?_
  refine awp_exit ?_
  refine hK3 _ ?_
  try clear hK3 K3
  refine awp_less ⟨[(0, .sl 1 false (ps.map pc6)), (3, aI ((ps.take k).flatten.length : Int))], []⟩ ⟨Sub.refl _, Sub.refl _, trivial⟩ trivial ?_
  refine awp_seq_k (fun K11 hK11 => ?_)
  refine awp_region [0, 1, 2] (by rw [hc]; kernel_rfl) (by kernel_rfl) ?_
  refine seq_run (r := [1, 2]) [0] (s' := ⟨[(0, .sl 1 false (ps.map pc6)), (3, aI ((ps.take k).flatten.length : Int)), (23, aI ((ps.take k).flatten.length : Int))], []⟩) (ps := []) (by kernel_rfl) trivial ?_
  refine seq_callRow (f := 59) (args := [aN, aI ((ps.take k).flatten.length : Int)]) (d := 24) (args' := [aN, aI ((ps.take k).flatten.length : Int)]) (e := 30) (k := 6) (xs := []) (g := fun V1 => ⟨[(0, .sl 1 false (ps.map pc6)), (3, aI ((ps.take k).flatten.length : Int)), (23, aI ((ps.take k).flatten.length : Int)), (24, .rw 24 V1 0)], [(24, .row V1 30 6 ([]))]⟩) (by kernel_rfl) (fun _ _ => rfl) ⟨Sub.refl _, Sub.refl _, trivial⟩ (by simp) (grow_row (fun w => grow_reps ((ps.take k).flatten.length) (by have := take_flat_le ps k; omega) w)) rfl (fun _ => by kernel_rfl) (fun V1 => ?_)
  refine seq_run (r := []) [2] (s' := ⟨[(0, .sl 1 false (ps.map pc6)), (3, aI ((ps.take k).flatten.length : Int)), (23, aI ((ps.take k).flatten.length : Int)), (24, .rw 24 V1 0), (6, .rw 24 V1 0)], [(24, .row V1 30 6 ([]))]⟩) (ps := []) (by kernel_rfl) trivial ?_
  refine hK11 _ ?_
  try clear hK11 K11
  refine awp_less ⟨[(0, .sl 1 false (ps.map pc6)), (6, .rw 24 V1 0)], [(24, .row V1 30 6 ([]))]⟩ ⟨Sub.refl _, Sub.refl _, trivial⟩ ⟨⟨_, rfl, SubB.refl _⟩, trivial⟩ ?_
  refine awp_seq_k (fun K12 hK12 => ?_)
  refine awp_seq_k (fun K13 hK13 => ?_)
  refine awp_region [0, 1, 2] (by rw [hc]; kernel_rfl) (by kernel_rfl) ?_
  refine seq_run (r := [2]) [0, 1] (s' := ⟨[(0, .sl 1 false (ps.map pc6)), (6, .rw 24 V1 0), (25, .sl 1 false (ps.map pc6)), (26, aI ((ps.map pc6).length : Int))], [(24, .row V1 30 6 ([]))]⟩) (ps := []) (by kernel_rfl) trivial ?_
  refine seq_val (s' := ⟨[(0, .sl 1 false (ps.map pc6)), (6, .rw 24 V1 0), (25, .sl 1 false (ps.map pc6)), (26, aI (ps.length : Int))], [(24, .row V1 30 6 ([]))]⟩) 26 (x := aI ((ps.map pc6).length : Int)) (y := aI (ps.length : Int)) (by rw [List.length_map]) (by kernel_rfl) (by kernel_rfl) ?_
  refine seq_run (r := []) [2] (s' := ⟨[(0, .sl 1 false (ps.map pc6)), (6, .rw 24 V1 0), (25, .sl 1 false (ps.map pc6)), (26, aI (ps.length : Int)), (27, aI 0)], [(24, .row V1 30 6 ([]))]⟩) (ps := []) (by kernel_rfl) trivial ?_
  refine hK13 _ ?_
  try clear hK13 K13
  refine awp_less ⟨[(6, .rw 24 V1 0), (25, .sl 1 false (ps.map pc6)), (26, aI (ps.length : Int)), (27, aI 0)], [(24, .row V1 30 6 ([]))]⟩ ⟨Sub.refl _, Sub.refl _, Sub.refl _, Sub.refl _, trivial⟩ ⟨⟨_, rfl, SubB.refl _⟩, trivial⟩ ?_
  refine awp_block ?_
  refine awp_rounds (α := Nat × Value) (fun a => ⟨[(6, .rw 24 a.2 ((ps.take a.1).flatten.length)), (25, .sl 1 false (ps.map pc6)), (26, aI (ps.length : Int)), (27, aI (a.1 : Int))], [(24, .row a.2 30 6 ((ps.take a.1).flatten))]⟩) (fun a => ps.length - a.1) (fun a => a.1 ≤ ps.length) (0, V1) (LS.le ⟨Sub.refl _, Sub.refl _, Sub.refl _, Sub.refl _, trivial⟩ ⟨⟨_, rfl, SubB.refl _⟩, trivial⟩) (by show 0 ≤ _; omega) ?_
  rintro ⟨j, V⟩ hH2
  replace hH2 : j ≤ ps.length := hH2
  show AWp _ _ _ _ (LS.fs ⟨[(6, .rw 24 V ((ps.take j).flatten.length)), (25, .sl 1 false (ps.map pc6)), (26, aI (ps.length : Int)), (27, aI (j : Int))], [(24, .row V 30 6 ((ps.take j).flatten))]⟩)
  refine awp_seq_k (fun K14 hK14 => ?_)
  refine awp_region [0] (by rw [hc]; kernel_rfl) (by kernel_rfl) ?_
  refine seq_run (r := []) [0] (s' := ⟨[(6, .rw 24 V ((ps.take j).flatten.length)), (25, .sl 1 false (ps.map pc6)), (26, aI (ps.length : Int)), (27, aI (j : Int)), (28, aB (decide ((j : Int) < (ps.length : Int))))], [(24, .row V 30 6 ((ps.take j).flatten))]⟩) (ps := []) (by kernel_rfl) trivial ?_
  refine hK14 _ ?_
  try clear hK14 K14
  refine awp_seq_k (fun K15 hK15 => ?_)
  rcases decC ((j : Int) < (ps.length : Int)) with ⟨q3, p3⟩ | ⟨q3, p3⟩
  ·
    refine awp_if true (by omega) (by kernel_rfl) q3 ?_
    refine awp_skip ?_
    refine hK15 _ ?_
    try clear hK15 K15
    refine awp_seq_k (fun K16 hK16 => ?_)
    refine awp_block ?_
    refine awp_seq_k (fun K17 hK17 => ?_)
    refine awp_region [0, 1, 2] (by rw [hc]; kernel_rfl) (by kernel_rfl) ?_
    obtain ⟨x2, hx2⟩ := some_of (l := ps) (k := j) (by omega)
    have tx2 := take_flat_le ps (j + 1)
    rw [take_flat hx2, List.length_append] at tx2
    refine seq_idx (s' := ⟨[(6, .rw 24 V ((ps.take j).flatten.length)), (25, .sl 1 false (ps.map pc6)), (26, aI (ps.length : Int)), (27, aI (j : Int)), (28, aB (decide ((j : Int) < (ps.length : Int)))), (29, .dptr [.sl 6 false x2])], [(24, .row V 30 6 ((ps.take j).flatten))]⟩) (xs := ps.map pc6) (m := (j : Int)) (d := some 29) (e := [.sl 6 false x2]) (j) (by kernel_rfl) rfl (map_some hx2) (by kernel_rfl) ?_
    refine seq_run (r := []) [1, 2] (s' := ⟨[(6, .rw 24 V ((ps.take j).flatten.length)), (25, .sl 1 false (ps.map pc6)), (26, aI (ps.length : Int)), (27, aI (j : Int)), (28, aB (decide ((j : Int) < (ps.length : Int)))), (29, .dptr [.sl 6 false x2]), (30, .sl 6 false x2), (8, .sl 6 false x2)], [(24, .row V 30 6 ((ps.take j).flatten))]⟩) (ps := []) (by kernel_rfl) trivial ?_
    refine hK17 _ ?_
    try clear hK17 K17
    refine awp_region [0, 1, 2, 3] (by rw [hc]; kernel_rfl) (by kernel_rfl) ?_
    refine seq_run (r := [2, 3]) [0, 1] (s' := ⟨[(6, .rw 24 V ((ps.take j).flatten.length)), (25, .sl 1 false (ps.map pc6)), (26, aI (ps.length : Int)), (27, aI (j : Int)), (28, aB (decide ((j : Int) < (ps.length : Int)))), (29, .dptr [.sl 6 false x2]), (30, .sl 6 false x2), (8, .sl 6 false x2), (31, .rw 24 V ((ps.take j).flatten.length)), (32, .sl 6 false x2)], [(24, .row V 30 6 ((ps.take j).flatten))]⟩) (ps := []) (by kernel_rfl) trivial ?_
    refine seq_append (t := 24) (e := 30) (id := 24) (k := 6) (n := ((ps.take j).flatten.length)) (bytes := 72) (d := 33) (V := V) (tt := false) (xs := (ps.take j).flatten) (ys := x2) (f := fun V2 => ⟨[(6, .rw 24 V ((ps.take j).flatten.length)), (25, .sl 1 false (ps.map pc6)), (26, aI (ps.length : Int)), (27, aI (j : Int)), (28, aB (decide ((j : Int) < (ps.length : Int)))), (29, .dptr [.sl 6 false x2]), (30, .sl 6 false x2), (8, .sl 6 false x2), (31, .rw 24 V ((ps.take j).flatten.length)), (32, .sl 6 false x2), (33, .rw 24 V2 (((ps.take j).flatten).length + x2.length))], [(24, .row V2 30 6 (((ps.take j).flatten) ++ x2))]⟩) (by kernel_rfl) (by kernel_rfl) (by kernel_rfl) (by omega) (by omega) (fun _ => by kernel_rfl) (fun V2 => ?_)
    refine seq_run (r := []) [3] (s' := ⟨[(6, .rw 24 V2 (((ps.take j).flatten).length + x2.length)), (25, .sl 1 false (ps.map pc6)), (26, aI (ps.length : Int)), (27, aI (j : Int)), (28, aB (decide ((j : Int) < (ps.length : Int)))), (29, .dptr [.sl 6 false x2]), (30, .sl 6 false x2), (8, .sl 6 false x2), (31, .rw 24 V ((ps.take j).flatten.length)), (32, .sl 6 false x2), (33, .rw 24 V2 (((ps.take j).flatten).length + x2.length))], [(24, .row V2 30 6 (((ps.take j).flatten) ++ x2))]⟩) (ps := []) (by kernel_rfl) trivial ?_
    refine hK16 _ ?_
    try clear hK16 K16
    refine awp_region [0, 1] (by rw [hc]; kernel_rfl) (by kernel_rfl) ?_
    refine seq_run (r := []) [0, 1] (s' := ⟨[(6, .rw 24 V2 (((ps.take j).flatten).length + x2.length)), (25, .sl 1 false (ps.map pc6)), (26, aI (ps.length : Int)), (27, aI ((j : Int) + 1)), (28, aB (decide ((j : Int) < (ps.length : Int)))), (29, .dptr [.sl 6 false x2]), (30, .sl 6 false x2), (8, .sl 6 false x2), (31, .rw 24 V ((ps.take j).flatten.length)), (32, .sl 6 false x2), (33, .rw 24 V2 (((ps.take j).flatten).length + x2.length)), (34, aI ((j : Int) + 1))], [(24, .row V2 30 6 (((ps.take j).flatten) ++ x2))]⟩) (ps := [rng .i64 ((j : Int) + 1)]) (by kernel_rfl) ⟨rng64 (by omega) (by omega), trivial⟩ ?_
    exact ⟨((j + 1), V2), (by omega), (by show _ < _; omega), LS.le ⟨Sub.of_eq (by rw [take_flat hx2, List.length_append]; rfl), Sub.refl _, Sub.refl _, Sub.refl _, trivial⟩ ⟨⟨_, rfl, SubB.of_eq (by rw [take_flat hx2])⟩, trivial⟩⟩
  refine awp_if false (by omega) (by kernel_rfl) q3 ?_
  refine awp_exit ?_
  refine hK12 _ ?_
  try clear hK12 K12
  refine awp_less ⟨[(6, .rw 24 V ((ps.take j).flatten.length))], [(24, .row V 30 6 ((ps.take j).flatten))]⟩ ⟨Sub.refl _, trivial⟩ ⟨⟨_, rfl, SubB.refl _⟩, trivial⟩ ?_
  refine awp_seq_k (fun K18 hK18 => ?_)
  refine awp_region [0, 1] (by rw [hc]; kernel_rfl) (by kernel_rfl) ?_
  refine seq_run (r := []) [0, 1] (s' := ⟨[(6, .rw 24 V ((ps.take j).flatten.length)), (35, .rw 24 V ((ps.take j).flatten.length)), (2, .rw 24 V ((ps.take j).flatten.length))], [(24, .row V 30 6 ((ps.take j).flatten))]⟩) (ps := []) (by kernel_rfl) trivial ?_
  refine hK18 _ ?_
  try clear hK18 K18
  refine awp_less ⟨[(2, .rw 24 V ((ps.take j).flatten.length))], [(24, .row V 30 6 ((ps.take j).flatten))]⟩ ⟨Sub.refl _, trivial⟩ ⟨⟨_, rfl, SubB.refl _⟩, trivial⟩ ?_
  refine awp_freeze 24 (.row V 30 6 ((ps.take j).flatten)) ⟨[(2, .sl 6 false ((ps.take j).flatten))], []⟩ rfl ⟨Fz.row _ _ _ _ _ _ (by first | rfl | (simp; done) | (simp; omega)), trivial⟩ trivial ?_
  refine awp_ret ?_
  refine fin_ret ⟨[], [.sl 6 false ((ps.take j).flatten)], by kernel_rfl, trivial, ?_⟩
  exact Sub.of_eq (by rw [List.take_of_length_le (by omega)]; rfl)
set_option maxRecDepth 100000 in
set_option maxHeartbeats 4000000 in
theorem concat_don (ps : List (List (List AV))) (hl : ps.length ≤ 100000) (ht : ps.flatten.length ≤ 100000) : FSpec Try.prog 58 [.sl 1 false (ps.map pc4)] (.sl 4 false ps.flatten) := by
  refine spec_enter ⟨[(0, .sl 1 false (ps.map pc4))], []⟩ Try.func58 rfl (by kernel_rfl) (by kernel_rfl) rfl (fun t => match t with | 0 => rfl | _ + 1 => rfl) (fun c hc => ?_)
  replace hc : c.n = 36 := hc
  refine awp_seq_k (fun K1 hK1 => ?_)
  refine awp_region [0] (by rw [hc]; kernel_rfl) (by kernel_rfl) ?_
  refine seq_run (r := []) [0] (s' := ⟨[(0, .sl 1 false (ps.map pc4)), (2, aN)], []⟩) (ps := []) (by kernel_rfl) trivial ?_
  refine hK1 _ ?_
  try clear hK1 K1
  refine awp_seq_k (fun K2 hK2 => ?_)
  refine awp_region [0] (by rw [hc]; kernel_rfl) (by kernel_rfl) ?_
  refine seq_run (r := []) [0] (s' := ⟨[(0, .sl 1 false (ps.map pc4)), (2, aN), (3, aI 0)], []⟩) (ps := []) (by kernel_rfl) trivial ?_
  refine hK2 _ ?_
  try clear hK2 K2
  refine awp_seq_k (fun K3 hK3 => ?_)
  refine awp_seq_k (fun K4 hK4 => ?_)
  refine awp_region [0, 1, 2] (by rw [hc]; kernel_rfl) (by kernel_rfl) ?_
  refine seq_run (r := [2]) [0, 1] (s' := ⟨[(0, .sl 1 false (ps.map pc4)), (2, aN), (3, aI 0), (9, .sl 1 false (ps.map pc4)), (10, aI ((ps.map pc4).length : Int))], []⟩) (ps := []) (by kernel_rfl) trivial ?_
  refine seq_val (s' := ⟨[(0, .sl 1 false (ps.map pc4)), (2, aN), (3, aI 0), (9, .sl 1 false (ps.map pc4)), (10, aI (ps.length : Int))], []⟩) 10 (x := aI ((ps.map pc4).length : Int)) (y := aI (ps.length : Int)) (by rw [List.length_map]) (by kernel_rfl) (by kernel_rfl) ?_
  refine seq_run (r := []) [2] (s' := ⟨[(0, .sl 1 false (ps.map pc4)), (2, aN), (3, aI 0), (9, .sl 1 false (ps.map pc4)), (10, aI (ps.length : Int)), (11, aI 0)], []⟩) (ps := []) (by kernel_rfl) trivial ?_
  refine hK4 _ ?_
  try clear hK4 K4
  refine awp_block ?_
  refine awp_rounds (α := Nat) (fun a => ⟨[(0, .sl 1 false (ps.map pc4)), (3, aI ((ps.take a).flatten.length : Int)), (9, .sl 1 false (ps.map pc4)), (10, aI (ps.length : Int)), (11, aI (a : Int))], []⟩) (fun a => ps.length - a) (fun a => a ≤ ps.length) 0 (LS.le ⟨Sub.refl _, Sub.refl _, Sub.refl _, Sub.refl _, Sub.refl _, trivial⟩ trivial) (by omega) ?_
  rintro k hH1
  replace hH1 : k ≤ ps.length := hH1
  show AWp _ _ _ _ (LS.fs ⟨[(0, .sl 1 false (ps.map pc4)), (3, aI ((ps.take k).flatten.length : Int)), (9, .sl 1 false (ps.map pc4)), (10, aI (ps.length : Int)), (11, aI (k : Int))], []⟩)
  refine awp_seq_k (fun K5 hK5 => ?_)
  refine awp_region [0] (by rw [hc]; kernel_rfl) (by kernel_rfl) ?_
  refine seq_run (r := []) [0] (s' := ⟨[(0, .sl 1 false (ps.map pc4)), (3, aI ((ps.take k).flatten.length : Int)), (9, .sl 1 false (ps.map pc4)), (10, aI (ps.length : Int)), (11, aI (k : Int)), (12, aB (decide ((k : Int) < (ps.length : Int))))], []⟩) (ps := []) (by kernel_rfl) trivial ?_
  refine hK5 _ ?_
  try clear hK5 K5
  refine awp_seq_k (fun K6 hK6 => ?_)
  rcases decC ((k : Int) < (ps.length : Int)) with ⟨q1, p1⟩ | ⟨q1, p1⟩
  ·
    refine awp_if true (by omega) (by kernel_rfl) q1 ?_
    refine awp_skip ?_
    refine hK6 _ ?_
    try clear hK6 K6
    refine awp_seq_k (fun K7 hK7 => ?_)
    refine awp_block ?_
    refine awp_seq_k (fun K8 hK8 => ?_)
    refine awp_region [0, 1, 2] (by rw [hc]; kernel_rfl) (by kernel_rfl) ?_
    obtain ⟨x1, hx1⟩ := some_of (l := ps) (k := k) (by omega)
    have tx1 := take_flat_le ps (k + 1)
    rw [take_flat hx1, List.length_append] at tx1
    refine seq_idx (s' := ⟨[(0, .sl 1 false (ps.map pc4)), (3, aI ((ps.take k).flatten.length : Int)), (9, .sl 1 false (ps.map pc4)), (10, aI (ps.length : Int)), (11, aI (k : Int)), (12, aB (decide ((k : Int) < (ps.length : Int)))), (13, .dptr [.sl 4 false x1])], []⟩) (xs := ps.map pc4) (m := (k : Int)) (d := some 13) (e := [.sl 4 false x1]) (k) (by kernel_rfl) rfl (map_some hx1) (by kernel_rfl) ?_
    refine seq_run (r := []) [1, 2] (s' := ⟨[(0, .sl 1 false (ps.map pc4)), (3, aI ((ps.take k).flatten.length : Int)), (9, .sl 1 false (ps.map pc4)), (10, aI (ps.length : Int)), (11, aI (k : Int)), (12, aB (decide ((k : Int) < (ps.length : Int)))), (13, .dptr [.sl 4 false x1]), (14, .sl 4 false x1), (5, .sl 4 false x1)], []⟩) (ps := []) (by kernel_rfl) trivial ?_
    refine hK8 _ ?_
    try clear hK8 K8
    refine awp_seq_k (fun K9 hK9 => ?_)
    refine awp_region [0, 1, 2, 3, 4] (by rw [hc]; kernel_rfl) (by kernel_rfl) ?_
    refine seq_run (r := []) [0, 1, 2, 3, 4] (s' := ⟨[(0, .sl 1 false (ps.map pc4)), (3, aI (((ps.take k).flatten.length : Int) + ((x1).length : Int))), (9, .sl 1 false (ps.map pc4)), (10, aI (ps.length : Int)), (11, aI (k : Int)), (12, aB (decide ((k : Int) < (ps.length : Int)))), (13, .dptr [.sl 4 false x1]), (14, .sl 4 false x1), (5, .sl 4 false x1), (15, aI ((ps.take k).flatten.length : Int)), (16, .sl 4 false x1), (17, aI ((x1).length : Int)), (18, aI (((ps.take k).flatten.length : Int) + ((x1).length : Int)))], []⟩) (ps := [rng .i64 (((ps.take k).flatten.length : Int) + ((x1).length : Int))]) (by kernel_rfl) ⟨rng64 (by omega) (by omega), trivial⟩ ?_
    refine hK9 _ ?_
    try clear hK9 K9
    refine awp_seq_k (fun K10 hK10 => ?_)
    refine awp_region [0, 1] (by rw [hc]; kernel_rfl) (by kernel_rfl) ?_
    refine seq_run (r := []) [0, 1] (s' := ⟨[(0, .sl 1 false (ps.map pc4)), (3, aI (((ps.take k).flatten.length : Int) + ((x1).length : Int))), (9, .sl 1 false (ps.map pc4)), (10, aI (ps.length : Int)), (11, aI (k : Int)), (12, aB (decide ((k : Int) < (ps.length : Int)))), (13, .dptr [.sl 4 false x1]), (14, .sl 4 false x1), (5, .sl 4 false x1), (15, aI ((ps.take k).flatten.length : Int)), (16, .sl 4 false x1), (17, aI ((x1).length : Int)), (18, aI (((ps.take k).flatten.length : Int) + ((x1).length : Int))), (19, aI (((ps.take k).flatten.length : Int) + ((x1).length : Int))), (20, aB (decide ((((ps.take k).flatten.length : Int) + ((x1).length : Int)) < 0)))], []⟩) (ps := []) (by kernel_rfl) trivial ?_
    refine hK10 _ ?_
    try clear hK10 K10
    rcases decC ((((ps.take k).flatten.length : Int) + ((x1).length : Int)) < 0) with ⟨q2, p2⟩ | ⟨q2, p2⟩
    ·
      exfalso
      omega
    refine awp_if false (by omega) (by kernel_rfl) q2 ?_
    refine awp_skip ?_
    refine hK7 _ ?_
    try clear hK7 K7
    refine awp_region [0, 1] (by rw [hc]; kernel_rfl) (by kernel_rfl) ?_
    refine seq_run (r := []) [0, 1] (s' := ⟨[(0, .sl 1 false (ps.map pc4)), (3, aI (((ps.take k).flatten.length : Int) + ((x1).length : Int))), (9, .sl 1 false (ps.map pc4)), (10, aI (ps.length : Int)), (11, aI ((k : Int) + 1)), (12, aB (decide ((k : Int) < (ps.length : Int)))), (13, .dptr [.sl 4 false x1]), (14, .sl 4 false x1), (5, .sl 4 false x1), (15, aI ((ps.take k).flatten.length : Int)), (16, .sl 4 false x1), (17, aI ((x1).length : Int)), (18, aI (((ps.take k).flatten.length : Int) + ((x1).length : Int))), (19, aI (((ps.take k).flatten.length : Int) + ((x1).length : Int))), (20, aB (decide ((((ps.take k).flatten.length : Int) + ((x1).length : Int)) < 0))), (22, aI ((k : Int) + 1))], []⟩) (ps := [rng .i64 ((k : Int) + 1)]) (by kernel_rfl) ⟨rng64 (by omega) (by omega), trivial⟩ ?_
    exact ⟨(k + 1), (by omega), (by omega), LS.le ⟨Sub.refl _, Sub.of_eq (congrArg aI (by rw [take_flat hx1, List.length_append]; omega)), Sub.refl _, Sub.refl _, Sub.refl _, trivial⟩ trivial⟩
  refine awp_if false (by omega) (by kernel_rfl) q1 ?_
  refine awp_exit ?_
  refine hK3 _ ?_
  try clear hK3 K3
  refine awp_less ⟨[(0, .sl 1 false (ps.map pc4)), (3, aI ((ps.take k).flatten.length : Int))], []⟩ ⟨Sub.refl _, Sub.refl _, trivial⟩ trivial ?_
  refine awp_seq_k (fun K11 hK11 => ?_)
  refine awp_region [0, 1, 2] (by rw [hc]; kernel_rfl) (by kernel_rfl) ?_
  refine seq_run (r := [1, 2]) [0] (s' := ⟨[(0, .sl 1 false (ps.map pc4)), (3, aI ((ps.take k).flatten.length : Int)), (23, aI ((ps.take k).flatten.length : Int))], []⟩) (ps := []) (by kernel_rfl) trivial ?_
  refine seq_callRow (f := 60) (args := [aN, aI ((ps.take k).flatten.length : Int)]) (d := 24) (args' := [aN, aI ((ps.take k).flatten.length : Int)]) (e := 53) (k := 4) (xs := []) (g := fun V1 => ⟨[(0, .sl 1 false (ps.map pc4)), (3, aI ((ps.take k).flatten.length : Int)), (23, aI ((ps.take k).flatten.length : Int)), (24, .rw 24 V1 0)], [(24, .row V1 53 4 ([]))]⟩) (by kernel_rfl) (fun _ _ => rfl) ⟨Sub.refl _, Sub.refl _, trivial⟩ (by simp) (grow_row (fun w => grow_dons ((ps.take k).flatten.length) (by have := take_flat_le ps k; omega) w)) rfl (fun _ => by kernel_rfl) (fun V1 => ?_)
  refine seq_run (r := []) [2] (s' := ⟨[(0, .sl 1 false (ps.map pc4)), (3, aI ((ps.take k).flatten.length : Int)), (23, aI ((ps.take k).flatten.length : Int)), (24, .rw 24 V1 0), (6, .rw 24 V1 0)], [(24, .row V1 53 4 ([]))]⟩) (ps := []) (by kernel_rfl) trivial ?_
  refine hK11 _ ?_
  try clear hK11 K11
  refine awp_less ⟨[(0, .sl 1 false (ps.map pc4)), (6, .rw 24 V1 0)], [(24, .row V1 53 4 ([]))]⟩ ⟨Sub.refl _, Sub.refl _, trivial⟩ ⟨⟨_, rfl, SubB.refl _⟩, trivial⟩ ?_
  refine awp_seq_k (fun K12 hK12 => ?_)
  refine awp_seq_k (fun K13 hK13 => ?_)
  refine awp_region [0, 1, 2] (by rw [hc]; kernel_rfl) (by kernel_rfl) ?_
  refine seq_run (r := [2]) [0, 1] (s' := ⟨[(0, .sl 1 false (ps.map pc4)), (6, .rw 24 V1 0), (25, .sl 1 false (ps.map pc4)), (26, aI ((ps.map pc4).length : Int))], [(24, .row V1 53 4 ([]))]⟩) (ps := []) (by kernel_rfl) trivial ?_
  refine seq_val (s' := ⟨[(0, .sl 1 false (ps.map pc4)), (6, .rw 24 V1 0), (25, .sl 1 false (ps.map pc4)), (26, aI (ps.length : Int))], [(24, .row V1 53 4 ([]))]⟩) 26 (x := aI ((ps.map pc4).length : Int)) (y := aI (ps.length : Int)) (by rw [List.length_map]) (by kernel_rfl) (by kernel_rfl) ?_
  refine seq_run (r := []) [2] (s' := ⟨[(0, .sl 1 false (ps.map pc4)), (6, .rw 24 V1 0), (25, .sl 1 false (ps.map pc4)), (26, aI (ps.length : Int)), (27, aI 0)], [(24, .row V1 53 4 ([]))]⟩) (ps := []) (by kernel_rfl) trivial ?_
  refine hK13 _ ?_
  try clear hK13 K13
  refine awp_less ⟨[(6, .rw 24 V1 0), (25, .sl 1 false (ps.map pc4)), (26, aI (ps.length : Int)), (27, aI 0)], [(24, .row V1 53 4 ([]))]⟩ ⟨Sub.refl _, Sub.refl _, Sub.refl _, Sub.refl _, trivial⟩ ⟨⟨_, rfl, SubB.refl _⟩, trivial⟩ ?_
  refine awp_block ?_
  refine awp_rounds (α := Nat × Value) (fun a => ⟨[(6, .rw 24 a.2 ((ps.take a.1).flatten.length)), (25, .sl 1 false (ps.map pc4)), (26, aI (ps.length : Int)), (27, aI (a.1 : Int))], [(24, .row a.2 53 4 ((ps.take a.1).flatten))]⟩) (fun a => ps.length - a.1) (fun a => a.1 ≤ ps.length) (0, V1) (LS.le ⟨Sub.refl _, Sub.refl _, Sub.refl _, Sub.refl _, trivial⟩ ⟨⟨_, rfl, SubB.refl _⟩, trivial⟩) (by show 0 ≤ _; omega) ?_
  rintro ⟨j, V⟩ hH2
  replace hH2 : j ≤ ps.length := hH2
  show AWp _ _ _ _ (LS.fs ⟨[(6, .rw 24 V ((ps.take j).flatten.length)), (25, .sl 1 false (ps.map pc4)), (26, aI (ps.length : Int)), (27, aI (j : Int))], [(24, .row V 53 4 ((ps.take j).flatten))]⟩)
  refine awp_seq_k (fun K14 hK14 => ?_)
  refine awp_region [0] (by rw [hc]; kernel_rfl) (by kernel_rfl) ?_
  refine seq_run (r := []) [0] (s' := ⟨[(6, .rw 24 V ((ps.take j).flatten.length)), (25, .sl 1 false (ps.map pc4)), (26, aI (ps.length : Int)), (27, aI (j : Int)), (28, aB (decide ((j : Int) < (ps.length : Int))))], [(24, .row V 53 4 ((ps.take j).flatten))]⟩) (ps := []) (by kernel_rfl) trivial ?_
  refine hK14 _ ?_
  try clear hK14 K14
  refine awp_seq_k (fun K15 hK15 => ?_)
  rcases decC ((j : Int) < (ps.length : Int)) with ⟨q3, p3⟩ | ⟨q3, p3⟩
  ·
    refine awp_if true (by omega) (by kernel_rfl) q3 ?_
    refine awp_skip ?_
    refine hK15 _ ?_
    try clear hK15 K15
    refine awp_seq_k (fun K16 hK16 => ?_)
    refine awp_block ?_
    refine awp_seq_k (fun K17 hK17 => ?_)
    refine awp_region [0, 1, 2] (by rw [hc]; kernel_rfl) (by kernel_rfl) ?_
    obtain ⟨x2, hx2⟩ := some_of (l := ps) (k := j) (by omega)
    have tx2 := take_flat_le ps (j + 1)
    rw [take_flat hx2, List.length_append] at tx2
    refine seq_idx (s' := ⟨[(6, .rw 24 V ((ps.take j).flatten.length)), (25, .sl 1 false (ps.map pc4)), (26, aI (ps.length : Int)), (27, aI (j : Int)), (28, aB (decide ((j : Int) < (ps.length : Int)))), (29, .dptr [.sl 4 false x2])], [(24, .row V 53 4 ((ps.take j).flatten))]⟩) (xs := ps.map pc4) (m := (j : Int)) (d := some 29) (e := [.sl 4 false x2]) (j) (by kernel_rfl) rfl (map_some hx2) (by kernel_rfl) ?_
    refine seq_run (r := []) [1, 2] (s' := ⟨[(6, .rw 24 V ((ps.take j).flatten.length)), (25, .sl 1 false (ps.map pc4)), (26, aI (ps.length : Int)), (27, aI (j : Int)), (28, aB (decide ((j : Int) < (ps.length : Int)))), (29, .dptr [.sl 4 false x2]), (30, .sl 4 false x2), (8, .sl 4 false x2)], [(24, .row V 53 4 ((ps.take j).flatten))]⟩) (ps := []) (by kernel_rfl) trivial ?_
    refine hK17 _ ?_
    try clear hK17 K17
    refine awp_region [0, 1, 2, 3] (by rw [hc]; kernel_rfl) (by kernel_rfl) ?_
    refine seq_run (r := [2, 3]) [0, 1] (s' := ⟨[(6, .rw 24 V ((ps.take j).flatten.length)), (25, .sl 1 false (ps.map pc4)), (26, aI (ps.length : Int)), (27, aI (j : Int)), (28, aB (decide ((j : Int) < (ps.length : Int)))), (29, .dptr [.sl 4 false x2]), (30, .sl 4 false x2), (8, .sl 4 false x2), (31, .rw 24 V ((ps.take j).flatten.length)), (32, .sl 4 false x2)], [(24, .row V 53 4 ((ps.take j).flatten))]⟩) (ps := []) (by kernel_rfl) trivial ?_
    refine seq_append (t := 23) (e := 53) (id := 24) (k := 4) (n := ((ps.take j).flatten.length)) (bytes := 48) (d := 33) (V := V) (tt := false) (xs := (ps.take j).flatten) (ys := x2) (f := fun V2 => ⟨[(6, .rw 24 V ((ps.take j).flatten.length)), (25, .sl 1 false (ps.map pc4)), (26, aI (ps.length : Int)), (27, aI (j : Int)), (28, aB (decide ((j : Int) < (ps.length : Int)))), (29, .dptr [.sl 4 false x2]), (30, .sl 4 false x2), (8, .sl 4 false x2), (31, .rw 24 V ((ps.take j).flatten.length)), (32, .sl 4 false x2), (33, .rw 24 V2 (((ps.take j).flatten).length + x2.length))], [(24, .row V2 53 4 (((ps.take j).flatten) ++ x2))]⟩) (by kernel_rfl) (by kernel_rfl) (by kernel_rfl) (by omega) (by omega) (fun _ => by kernel_rfl) (fun V2 => ?_)
    refine seq_run (r := []) [3] (s' := ⟨[(6, .rw 24 V2 (((ps.take j).flatten).length + x2.length)), (25, .sl 1 false (ps.map pc4)), (26, aI (ps.length : Int)), (27, aI (j : Int)), (28, aB (decide ((j : Int) < (ps.length : Int)))), (29, .dptr [.sl 4 false x2]), (30, .sl 4 false x2), (8, .sl 4 false x2), (31, .rw 24 V ((ps.take j).flatten.length)), (32, .sl 4 false x2), (33, .rw 24 V2 (((ps.take j).flatten).length + x2.length))], [(24, .row V2 53 4 (((ps.take j).flatten) ++ x2))]⟩) (ps := []) (by kernel_rfl) trivial ?_
    refine hK16 _ ?_
    try clear hK16 K16
    refine awp_region [0, 1] (by rw [hc]; kernel_rfl) (by kernel_rfl) ?_
    refine seq_run (r := []) [0, 1] (s' := ⟨[(6, .rw 24 V2 (((ps.take j).flatten).length + x2.length)), (25, .sl 1 false (ps.map pc4)), (26, aI (ps.length : Int)), (27, aI ((j : Int) + 1)), (28, aB (decide ((j : Int) < (ps.length : Int)))), (29, .dptr [.sl 4 false x2]), (30, .sl 4 false x2), (8, .sl 4 false x2), (31, .rw 24 V ((ps.take j).flatten.length)), (32, .sl 4 false x2), (33, .rw 24 V2 (((ps.take j).flatten).length + x2.length)), (34, aI ((j : Int) + 1))], [(24, .row V2 53 4 (((ps.take j).flatten) ++ x2))]⟩) (ps := [rng .i64 ((j : Int) + 1)]) (by kernel_rfl) ⟨rng64 (by omega) (by omega), trivial⟩ ?_
    exact ⟨((j + 1), V2), (by omega), (by show _ < _; omega), LS.le ⟨Sub.of_eq (by rw [take_flat hx2, List.length_append]; rfl), Sub.refl _, Sub.refl _, Sub.refl _, trivial⟩ ⟨⟨_, rfl, SubB.of_eq (by rw [take_flat hx2])⟩, trivial⟩⟩
  refine awp_if false (by omega) (by kernel_rfl) q3 ?_
  refine awp_exit ?_
  refine hK12 _ ?_
  try clear hK12 K12
  refine awp_less ⟨[(6, .rw 24 V ((ps.take j).flatten.length))], [(24, .row V 53 4 ((ps.take j).flatten))]⟩ ⟨Sub.refl _, trivial⟩ ⟨⟨_, rfl, SubB.refl _⟩, trivial⟩ ?_
  refine awp_seq_k (fun K18 hK18 => ?_)
  refine awp_region [0, 1] (by rw [hc]; kernel_rfl) (by kernel_rfl) ?_
  refine seq_run (r := []) [0, 1] (s' := ⟨[(6, .rw 24 V ((ps.take j).flatten.length)), (35, .rw 24 V ((ps.take j).flatten.length)), (2, .rw 24 V ((ps.take j).flatten.length))], [(24, .row V 53 4 ((ps.take j).flatten))]⟩) (ps := []) (by kernel_rfl) trivial ?_
  refine hK18 _ ?_
  try clear hK18 K18
  refine awp_less ⟨[(2, .rw 24 V ((ps.take j).flatten.length))], [(24, .row V 53 4 ((ps.take j).flatten))]⟩ ⟨Sub.refl _, trivial⟩ ⟨⟨_, rfl, SubB.refl _⟩, trivial⟩ ?_
  refine awp_freeze 24 (.row V 53 4 ((ps.take j).flatten)) ⟨[(2, .sl 4 false ((ps.take j).flatten))], []⟩ rfl ⟨Fz.row _ _ _ _ _ _ (by first | rfl | (simp; done) | (simp; omega)), trivial⟩ trivial ?_
  refine awp_ret ?_
  refine fin_ret ⟨[], [.sl 4 false ((ps.take j).flatten)], by kernel_rfl, trivial, ?_⟩
  exact Sub.of_eq (by rw [List.take_of_length_le (by omega)]; rfl)
end Go.Proofs.Ytpdedjbkfcaebaa
