/- law18.shown. -/
import Derived.Test.YtpdedjbkfcaebaaCliN8
set_option linter.unusedVariables false
set_option linter.unusedSimpArgs false
namespace Go.Proofs.Ytpdedjbkfcaebaa
open Go.RowKit Copyhold
def cal15 : Cal := ⟨15, 0, 0, 0, 0, [], [], []⟩
def rep0 : Rep := ⟨0, 0, 0, 0, [], []⟩
def rspk (x : Cli) (me ep sq : Int) : Rsp := ⟨(sayD x).1.kind, me, ep, sq, (sayD x).1.n, rep0⟩
def stk : Nat → Cli
  | 0 => (newD 1 1 [[cal15]]).1
  | k + 1 => hearD (stk k) (rspk (stk k) 1 1 1)
theorem rep0_ok : OkRep rep0 := ⟨⟨i64z, i64z, i64z, i64z⟩, by show (0 : Nat) ≤ _; omega, by show (0 : Nat) ≤ _; omega, fun l h => by cases h⟩
theorem say_n {x : Cli} {B : Nat} (h : Fit B x) (hB : B ≤ 100000) : I64 (sayD x).1.kind ∧ I64 (sayD x).1.n := by
  have hn := h.n
  unfold sayD
  repeat' split
  all_goals exact ⟨⟨by simp [msg0], by simp [msg0]⟩, ⟨by simp [msg0] <;> omega, by simp [msg0] <;> omega⟩⟩
theorem rspk_ok {x : Cli} {me ep sq : Int} {B : Nat} (h : Fit B x) (hB : B ≤ 100000) (h1 : I64 me) (h2 : I64 ep) (h3 : I64 sq) : OkRsp (rspk x me ep sq) :=
  ⟨⟨(say_n h hB).1, h1, h2, h3, (say_n h hB).2⟩, rep0_ok⟩
theorem cal15_ok : OkJob [cal15] := ⟨by show (1 : Nat) ≤ _; omega, fun c h => by
  simp at h; subst h
  exact ⟨⟨⟨by decide, by decide⟩, i64z, i64z, i64z, i64z⟩, by show (0 : Nat) ≤ _; omega, by show (0 : Nat) ≤ _; omega, by show (0 : Nat) ≤ _; omega⟩⟩
theorem stk_fit : ∀ k, k ≤ 800 → Fit k (stk k)
  | 0, _ => new_fit (by omega) ⟨by decide, by decide⟩ ⟨by decide, by decide⟩ (by show (1 : Nat) ≤ _; omega) (fun j h => by simp at h; subst h; exact cal15_ok)
  | k + 1, h => hear_fit (stk_fit k (by omega)) (by omega) (rspk_ok (stk_fit k (by omega)) (by omega) ⟨by decide, by decide⟩ ⟨by decide, by decide⟩ ⟨by decide, by decide⟩)
theorem kinds_at {t : Bool} : ∀ k, k < 4 → ([[aI 1], [aI 2], [aI 3], [aI 6]] : List (List AV))[k]? = some [aI (sayD (stk k)).1.kind] ∧ (sayD (stk k)).2 = true
  | 0, _ => ⟨rfl, rfl⟩
  | 1, _ => ⟨rfl, rfl⟩
  | 2, _ => ⟨rfl, rfl⟩
  | 3, _ => ⟨rfl, rfl⟩
  | k + 4, h => by omega
theorem stk4 {k : Nat} (h : k ≤ 4) (h' : 4 ≤ (k : Int)) : stk k = ⟨1, 1, 2, [[cal15]], 4, 0, 0, [⟨1, true, 0, [rep0]⟩], []⟩ := by
  obtain rfl : k = 4 := by omega
  rfl
theorem pcj {t t1 : Bool} (c : Cal) : Sub (.sl 1 t [[.sl 8 t1 [calA c]]]) (.sl 1 false ([[c]].map jobA)) :=
  have h1 : Sub (.sl 1 t [[.sl 8 t1 [calA c]]]) (.sl 1 t [[.sl 8 false [calA c]]]) := Sub.sl2 rfl (fun i e e' h h' => by
    match i, h, h' with
    | 0, h, h' => simp at h h'; subst h h'; exact ⟨Sub.loose _ _ _, trivial⟩
    | i + 1, h, _ => simp at h)
  h1.trans (Sub.loose _ _ _)
def zN91 (k : Nat) : List AV := [aI ((sayD (stk k)).1.kind), aI ((sayD (stk k)).1.client), aI ((sayD (stk k)).1.epoch), aI ((sayD (stk k)).1.seq), aI ((sayD (stk k)).1.n), aI ((sayD (stk k)).1.stamp), aI ((sayD (stk k)).1.c.kind), aI ((sayD (stk k)).1.c.ino), aI ((sayD (stk k)).1.c.dest), aI ((sayD (stk k)).1.c.pos), aI ((sayD (stk k)).1.c.many), aS ((sayD (stk k)).1.c.name), aS ((sayD (stk k)).1.c.name2), aS ((sayD (stk k)).1.c.text)]
def zN92 (k : Nat) : List AV := [aI ((stk k).me), aI ((stk k).epoch), aI ((stk k).seq), .sl 1 false ((stk k).jobs.map jobA), aI ((stk k).phase), aI ((stk k).n), aI ((stk k).stamp), .sl 4 false ((stk k).told.map donA), .sl 6 false ((stk k).now.map repA)]
def zN93 : List AV := [aI ((newD 1 1 [[cal15]]).1.me), aI ((newD 1 1 [[cal15]]).1.epoch), aI ((newD 1 1 [[cal15]]).1.seq), .sl 1 false ((newD 1 1 [[cal15]]).1.jobs.map jobA), aI ((newD 1 1 [[cal15]]).1.phase), aI ((newD 1 1 [[cal15]]).1.n), aI ((newD 1 1 [[cal15]]).1.stamp), .sl 4 false ((newD 1 1 [[cal15]]).1.told.map donA), .sl 6 false ((newD 1 1 [[cal15]]).1.now.map repA)]
def zN94 (b1 : Nat) (k : Nat) (b2 : Nat) : List (Nat × AV) := [(1, .ptr 1 b1 0), (2, aI ((newD 1 1 [[cal15]]).2)), (3, .sl 1 true ([[aI 1], [aI 2], [aI 3], [aI 6]])), (4, aI (k : Int)), (17, aI (k : Int)), (18, aB (decide ((k : Int) < 4))), (22, .agg (zN92 k)), (23, .tup [.agg (zN91 k), aB ((sayD (stk k)).2)]), (21, .tup [.agg (zN91 k), aB ((sayD (stk k)).2)]), (24, .agg (zN91 k)), (25, aB ((sayD (stk k)).2)), (5, .ptr 5 b2 0), (6, aB ((sayD (stk k)).2)), (26, aB ((sayD (stk k)).2)), (27, aB (!((sayD (stk k)).2))), (28, aB false), (29, .ptr 5 b2 0), (30, aI ((sayD (stk k)).1.kind)), (31, .sl 1 true ([[aI 1], [aI 2], [aI 3], [aI 6]])), (32, aI (k : Int)), (33, .dptr [aI ((sayD (stk k)).1.kind)]), (34, aI ((sayD (stk k)).1.kind)), (35, aB (((sayD (stk k)).1.kind) != ((sayD (stk k)).1.kind))), (36, aB (((sayD (stk k)).1.kind) != ((sayD (stk k)).1.kind))), (37, .agg (zN92 k)), (38, .ptr 5 b2 0), (39, aI ((sayD (stk k)).1.kind)), (40, .ptr 5 b2 4), (41, aI ((sayD (stk k)).1.n)), (42, .agg [aI ((sayD (stk k)).1.kind), aI 1, aI 1, aI 1, aI ((sayD (stk k)).1.n), aI 0, aI 0, aI 0, aI 0, aS ([]), aN]), (43, .agg [aI ((stk (k + 1)).me), aI ((stk (k + 1)).epoch), aI ((stk (k + 1)).seq), .sl 1 false ((stk (k + 1)).jobs.map jobA), aI ((stk (k + 1)).phase), aI ((stk (k + 1)).n), aI ((stk (k + 1)).stamp), .sl 4 false ((stk (k + 1)).told.map donA), .sl 6 false ((stk (k + 1)).now.map repA)])]
def zN95 : List AV := [aI 15, aI 0, aI 0, aI 0, aI 0, aS ([]), aS ([]), aS ([])]
def zN96 (k : Nat) : List AV := [.agg (zN91 k), aB ((sayD (stk k)).2)]
def zN97 (k : Nat) : List AV := [aI ((stk (k + 1)).me), aI ((stk (k + 1)).epoch), aI ((stk (k + 1)).seq), .sl 1 false ((stk (k + 1)).jobs.map jobA), aI ((stk (k + 1)).phase), aI ((stk (k + 1)).n), aI ((stk (k + 1)).stamp), .sl 4 false ((stk (k + 1)).told.map donA), .sl 6 false ((stk (k + 1)).now.map repA)]
def zN98 : List AV := [aI 1, aB true, aI 0, .sl 6 false ([rep0].map repA)]
def zN99 (b1 : Nat) (k : Nat) (b2 : Nat) : List (Nat × Bx) := [(1, .box b1 26 (zN92 k)), (5, .box b2 38 (zN91 k))]
def zN910 : List AV := [.agg zN93, aI ((newD 1 1 [[cal15]]).2)]
def zN911 (k : Nat) : List AV := [aI ((sayD (stk k)).1.kind), aI 1, aI 1, aI 1, aI ((sayD (stk k)).1.n), aI 0, aI 0, aI 0, aI 0, aS ([]), aN]
def zN912 : List AV := [aB true, aI 0, .sl 6 false ([rep0].map repA)]
set_option maxRecDepth 100000 in
set_option maxHeartbeats 4000000 in
theorem shown_spec  : FSpec Try.prog 10 [] (aB true) := by
  refine spec_enter ⟨[], []⟩ Try.func10 rfl (by kernel_rfl) (by kernel_rfl) rfl (fun t => match t with | _ + 0 => rfl) (fun c hc => ?_)
  replace hc : c.n = 77 := hc
  refine awp_seq_k (fun K1 hK1 => ?_)
  refine awp_region [0] (by rw [hc]; kernel_rfl) (by kernel_rfl) ?_
  refine seq_run (r := []) [0] (s' := ⟨[(0, aB false)], []⟩) (ps := []) (by kernel_rfl) trivial ?_
  refine hK1 _ ?_
  try clear hK1 K1
  refine awp_seq_k (fun K2 hK2 => ?_)
  refine awp_region [0, 1, 2, 3, 4, 5, 6, 7, 8, 9] (by rw [hc]; kernel_rfl) (by kernel_rfl) ?_
  refine seq_run (r := [3, 4, 5, 6, 7, 8, 9]) [0, 1, 2] (s' := ⟨[(0, aB false), (10, .agg zN95), (11, .sl 8 true ([zN95])), (12, .sl 1 true ([[.sl 8 true ([zN95])]]))], []⟩) (ps := []) (by kernel_rfl) trivial ?_
  refine seq_call (f := 21) (args := [aI 1, aI 1, .sl 1 true ([[.sl 8 true ([zN95])]])]) (d := some 13) (args' := [aI 1, aI 1, .sl 1 false ([[cal15]].map jobA)]) (s' := ⟨[(0, aB false), (10, .agg zN95), (11, .sl 8 true ([zN95])), (12, .sl 1 true ([[.sl 8 true ([zN95])]])), (13, .tup zN910)], []⟩) (by kernel_rfl) (fun _ _ => rfl) ⟨Sub.refl _, Sub.refl _, pcj cal15, trivial⟩ (new_spec 1 1 [[cal15]] (by simp) (by simp)) (by kernel_rfl) ?_
  refine seq_run (r := [7, 8, 9]) [4, 5, 6] (s' := ⟨[(0, aB false), (10, .agg zN95), (11, .sl 8 true ([zN95])), (12, .sl 1 true ([[.sl 8 true ([zN95])]])), (13, .tup zN910), (9, .tup zN910), (14, .agg zN93), (15, aI ((newD 1 1 [[cal15]]).2))], []⟩) (ps := []) (by kernel_rfl) trivial ?_
  refine seq_new (f := fun b1 => ⟨[(0, aB false), (10, .agg zN95), (11, .sl 8 true ([zN95])), (12, .sl 1 true ([[.sl 8 true ([zN95])]])), (13, .tup zN910), (9, .tup zN910), (14, .agg zN93), (15, aI ((newD 1 1 [[cal15]]).2)), (1, .ptr 1 b1 0)], [(1, .box b1 26 [aI 0, aI 0, aI 0, aN, aI 0, aI 0, aI 0, aN, aN])]⟩) (by kernel_rfl) (fun b1 => ?_)
  refine seq_run (r := []) [8, 9] (s' := ⟨[(0, aB false), (10, .agg zN95), (11, .sl 8 true ([zN95])), (12, .sl 1 true ([[.sl 8 true ([zN95])]])), (13, .tup zN910), (9, .tup zN910), (14, .agg zN93), (15, aI ((newD 1 1 [[cal15]]).2)), (1, .ptr 1 b1 0), (2, aI ((newD 1 1 [[cal15]]).2))], [(1, .box b1 26 zN93)]⟩) (ps := [b1 = b1]) (by kernel_rfl) ⟨rfl, trivial⟩ ?_
  refine hK2 _ ?_
  try clear hK2 K2
  refine awp_less ⟨[(0, aB false), (1, .ptr 1 b1 0), (2, aI ((newD 1 1 [[cal15]]).2))], [(1, .box b1 26 zN93)]⟩ ⟨Sub.refl _, Sub.refl _, Sub.refl _, trivial⟩ ⟨⟨_, rfl, SubB.refl _⟩, trivial⟩ ?_
  refine awp_seq_k (fun K3 hK3 => ?_)
  refine awp_region [0, 1] (by rw [hc]; kernel_rfl) (by kernel_rfl) ?_
  refine seq_run (r := []) [0, 1] (s' := ⟨[(0, aB false), (1, .ptr 1 b1 0), (2, aI ((newD 1 1 [[cal15]]).2)), (16, .sl 1 true ([[aI 1], [aI 2], [aI 3], [aI 6]])), (3, .sl 1 true ([[aI 1], [aI 2], [aI 3], [aI 6]]))], [(1, .box b1 26 zN93)]⟩) (ps := []) (by kernel_rfl) trivial ?_
  refine hK3 _ ?_
  try clear hK3 K3
  refine awp_less ⟨[(0, aB false), (1, .ptr 1 b1 0), (2, aI ((newD 1 1 [[cal15]]).2)), (3, .sl 1 true ([[aI 1], [aI 2], [aI 3], [aI 6]]))], [(1, .box b1 26 zN93)]⟩ ⟨Sub.refl _, Sub.refl _, Sub.refl _, Sub.refl _, trivial⟩ ⟨⟨_, rfl, SubB.refl _⟩, trivial⟩ ?_
  refine awp_seq_k (fun K4 hK4 => ?_)
  refine awp_seq_k (fun K5 hK5 => ?_)
  refine awp_region [0] (by rw [hc]; kernel_rfl) (by kernel_rfl) ?_
  refine seq_run (r := []) [0] (s' := ⟨[(0, aB false), (1, .ptr 1 b1 0), (2, aI ((newD 1 1 [[cal15]]).2)), (3, .sl 1 true ([[aI 1], [aI 2], [aI 3], [aI 6]])), (4, aI 0)], [(1, .box b1 26 zN93)]⟩) (ps := []) (by kernel_rfl) trivial ?_
  refine hK5 _ ?_
  try clear hK5 K5
  refine awp_block ?_
  refine awp_rounds (α := Nat) (fun a => ⟨[(1, .ptr 1 b1 0), (2, aI ((newD 1 1 [[cal15]]).2)), (3, .sl 1 true ([[aI 1], [aI 2], [aI 3], [aI 6]])), (4, aI (a : Int))], [(1, .box b1 26 [aI ((stk a).me), aI ((stk a).epoch), aI ((stk a).seq), .sl 1 false ((stk a).jobs.map jobA), aI ((stk a).phase), aI ((stk a).n), aI ((stk a).stamp), .sl 4 false ((stk a).told.map donA), .sl 6 false ((stk a).now.map repA)])]⟩) (fun a => 4 - a) (fun a => a ≤ 4) 0 (LS.le ⟨Sub.refl _, Sub.refl _, Sub.refl _, Sub.refl _, trivial⟩ ⟨⟨_, rfl, SubB.boxs ⟨Sub.refl _, Sub.refl _, Sub.refl _, Sub.refl _, Sub.refl _, Sub.refl _, Sub.refl _, Sub.refl _, Sub.refl _, trivial⟩⟩, trivial⟩) (by omega) ?_
  rintro k hH1
  replace hH1 : k ≤ 4 := hH1
  show AWp _ _ _ _ (LS.fs ⟨[(1, .ptr 1 b1 0), (2, aI ((newD 1 1 [[cal15]]).2)), (3, .sl 1 true ([[aI 1], [aI 2], [aI 3], [aI 6]])), (4, aI (k : Int))], [(1, .box b1 26 (zN92 k))]⟩)
  refine awp_seq_k (fun K6 hK6 => ?_)
  refine awp_seq_k (fun K7 hK7 => ?_)
  refine awp_region [0, 1] (by rw [hc]; kernel_rfl) (by kernel_rfl) ?_
  refine seq_run (r := []) [0, 1] (s' := ⟨[(1, .ptr 1 b1 0), (2, aI ((newD 1 1 [[cal15]]).2)), (3, .sl 1 true ([[aI 1], [aI 2], [aI 3], [aI 6]])), (4, aI (k : Int)), (17, aI (k : Int)), (18, aB (decide ((k : Int) < 4)))], [(1, .box b1 26 (zN92 k))]⟩) (ps := []) (by kernel_rfl) trivial ?_
  refine hK7 _ ?_
  try clear hK7 K7
  rcases decC ((k : Int) < 4) with ⟨q1, p1⟩ | ⟨q1, p1⟩
  ·
    refine awp_if true (by omega) (by kernel_rfl) q1 ?_
    refine awp_skip ?_
    refine hK6 _ ?_
    try clear hK6 K6
    refine awp_seq_k (fun K8 hK8 => ?_)
    refine awp_block ?_
    refine awp_seq_k (fun K9 hK9 => ?_)
    refine awp_region [0, 1, 2, 3, 4, 5, 6, 7] (by rw [hc]; kernel_rfl) (by kernel_rfl) ?_
    refine seq_run (r := [1, 2, 3, 4, 5, 6, 7]) [0] (s' := ⟨[(1, .ptr 1 b1 0), (2, aI ((newD 1 1 [[cal15]]).2)), (3, .sl 1 true ([[aI 1], [aI 2], [aI 3], [aI 6]])), (4, aI (k : Int)), (17, aI (k : Int)), (18, aB (decide ((k : Int) < 4))), (22, .agg (zN92 k))], [(1, .box b1 26 (zN92 k))]⟩) (ps := [b1 = b1]) (by kernel_rfl) ⟨rfl, trivial⟩ ?_
    refine seq_call (f := 12) (args := [.agg (zN92 k)]) (d := some 23) (args' := [.agg (zN92 k)]) (s' := ⟨[(1, .ptr 1 b1 0), (2, aI ((newD 1 1 [[cal15]]).2)), (3, .sl 1 true ([[aI 1], [aI 2], [aI 3], [aI 6]])), (4, aI (k : Int)), (17, aI (k : Int)), (18, aB (decide ((k : Int) < 4))), (22, .agg (zN92 k)), (23, .tup (zN96 k))], [(1, .box b1 26 (zN92 k))]⟩) (by kernel_rfl) (fun _ _ => rfl) ⟨Sub.refl _, trivial⟩ (fsay_spec (stk_fit k (by omega)) (by omega)) (by kernel_rfl) ?_
    refine seq_run (r := [5, 6, 7]) [2, 3, 4] (s' := ⟨[(1, .ptr 1 b1 0), (2, aI ((newD 1 1 [[cal15]]).2)), (3, .sl 1 true ([[aI 1], [aI 2], [aI 3], [aI 6]])), (4, aI (k : Int)), (17, aI (k : Int)), (18, aB (decide ((k : Int) < 4))), (22, .agg (zN92 k)), (23, .tup (zN96 k)), (21, .tup (zN96 k)), (24, .agg (zN91 k)), (25, aB ((sayD (stk k)).2))], [(1, .box b1 26 (zN92 k))]⟩) (ps := []) (by kernel_rfl) trivial ?_
    refine seq_new (f := fun b2 => ⟨[(1, .ptr 1 b1 0), (2, aI ((newD 1 1 [[cal15]]).2)), (3, .sl 1 true ([[aI 1], [aI 2], [aI 3], [aI 6]])), (4, aI (k : Int)), (17, aI (k : Int)), (18, aB (decide ((k : Int) < 4))), (22, .agg (zN92 k)), (23, .tup (zN96 k)), (21, .tup (zN96 k)), (24, .agg (zN91 k)), (25, aB ((sayD (stk k)).2)), (5, .ptr 5 b2 0)], [(1, .box b1 26 (zN92 k)), (5, .box b2 38 [aI 0, aI 0, aI 0, aI 0, aI 0, aI 0, aI 0, aI 0, aI 0, aI 0, aI 0, aS ([]), aS ([]), aS ([])])]⟩) (by kernel_rfl) (fun b2 => ?_)
    refine seq_run (r := []) [6, 7] (s' := ⟨[(1, .ptr 1 b1 0), (2, aI ((newD 1 1 [[cal15]]).2)), (3, .sl 1 true ([[aI 1], [aI 2], [aI 3], [aI 6]])), (4, aI (k : Int)), (17, aI (k : Int)), (18, aB (decide ((k : Int) < 4))), (22, .agg (zN92 k)), (23, .tup (zN96 k)), (21, .tup (zN96 k)), (24, .agg (zN91 k)), (25, aB ((sayD (stk k)).2)), (5, .ptr 5 b2 0), (6, aB ((sayD (stk k)).2))], (zN99 b1 k b2)⟩) (ps := [b2 = b2]) (by kernel_rfl) ⟨rfl, trivial⟩ ?_
    refine hK9 _ ?_
    try clear hK9 K9
    refine awp_seq_k (fun K10 hK10 => ?_)
    refine awp_seq_k (fun K11 hK11 => ?_)
    refine awp_region_draw [0, 1, 2, 3, 4, 5, 6, 7, 8, 9, 10] (by kernel_rfl) (by rw [hc]; kernel_rfl) (by kernel_rfl) ?_
    refine seq_run (r := [3, 4, 5, 6, 7, 8, 9, 10]) [0, 1, 2] (s' := ⟨[(1, .ptr 1 b1 0), (2, aI ((newD 1 1 [[cal15]]).2)), (3, .sl 1 true ([[aI 1], [aI 2], [aI 3], [aI 6]])), (4, aI (k : Int)), (17, aI (k : Int)), (18, aB (decide ((k : Int) < 4))), (22, .agg (zN92 k)), (23, .tup (zN96 k)), (21, .tup (zN96 k)), (24, .agg (zN91 k)), (25, aB ((sayD (stk k)).2)), (5, .ptr 5 b2 0), (6, aB ((sayD (stk k)).2)), (26, aB ((sayD (stk k)).2)), (27, aB (!((sayD (stk k)).2))), (28, aB (!((sayD (stk k)).2)))], (zN99 b1 k b2)⟩) (ps := []) (by kernel_rfl) trivial ?_
    refine seq_bool (s' := ⟨[(1, .ptr 1 b1 0), (2, aI ((newD 1 1 [[cal15]]).2)), (3, .sl 1 true ([[aI 1], [aI 2], [aI 3], [aI 6]])), (4, aI (k : Int)), (17, aI (k : Int)), (18, aB (decide ((k : Int) < 4))), (22, .agg (zN92 k)), (23, .tup (zN96 k)), (21, .tup (zN96 k)), (24, .agg (zN91 k)), (25, aB ((sayD (stk k)).2)), (5, .ptr 5 b2 0), (6, aB ((sayD (stk k)).2)), (26, aB ((sayD (stk k)).2)), (27, aB (!((sayD (stk k)).2))), (28, aB false)], (zN99 b1 k b2)⟩) 28 (b := !((sayD (stk k)).2)) (v := false) (show (!((sayD (stk k)).2)) = false from by rw [(show ((sayD (stk k)).2) = true from (kinds_at (t := true) k (by omega)).2)]; rfl) (by kernel_rfl) (by kernel_rfl) ?_
    refine seq_run (r := [7, 8, 9, 10]) [3, 4, 5, 6] (s' := ⟨[(1, .ptr 1 b1 0), (2, aI ((newD 1 1 [[cal15]]).2)), (3, .sl 1 true ([[aI 1], [aI 2], [aI 3], [aI 6]])), (4, aI (k : Int)), (17, aI (k : Int)), (18, aB (decide ((k : Int) < 4))), (22, .agg (zN92 k)), (23, .tup (zN96 k)), (21, .tup (zN96 k)), (24, .agg (zN91 k)), (25, aB ((sayD (stk k)).2)), (5, .ptr 5 b2 0), (6, aB ((sayD (stk k)).2)), (26, aB ((sayD (stk k)).2)), (27, aB (!((sayD (stk k)).2))), (28, aB false), (29, .ptr 5 b2 0), (30, aI ((sayD (stk k)).1.kind)), (31, .sl 1 true ([[aI 1], [aI 2], [aI 3], [aI 6]])), (32, aI (k : Int))], (zN99 b1 k b2)⟩) (ps := [b2 = b2]) (by kernel_rfl) ⟨rfl, trivial⟩ ?_
    refine seq_idx (s' := ⟨[(1, .ptr 1 b1 0), (2, aI ((newD 1 1 [[cal15]]).2)), (3, .sl 1 true ([[aI 1], [aI 2], [aI 3], [aI 6]])), (4, aI (k : Int)), (17, aI (k : Int)), (18, aB (decide ((k : Int) < 4))), (22, .agg (zN92 k)), (23, .tup (zN96 k)), (21, .tup (zN96 k)), (24, .agg (zN91 k)), (25, aB ((sayD (stk k)).2)), (5, .ptr 5 b2 0), (6, aB ((sayD (stk k)).2)), (26, aB ((sayD (stk k)).2)), (27, aB (!((sayD (stk k)).2))), (28, aB false), (29, .ptr 5 b2 0), (30, aI ((sayD (stk k)).1.kind)), (31, .sl 1 true ([[aI 1], [aI 2], [aI 3], [aI 6]])), (32, aI (k : Int)), (33, .dptr [aI ((sayD (stk k)).1.kind)])], (zN99 b1 k b2)⟩) (xs := [[aI 1], [aI 2], [aI 3], [aI 6]]) (m := (k : Int)) (d := some 33) (e := [aI ((sayD (stk k)).1.kind)]) (k) (by kernel_rfl) rfl (kinds_at (t := true) k (by omega)).1 (by kernel_rfl) ?_
    refine seq_run (r := []) [8, 9, 10] (s' := ⟨[(1, .ptr 1 b1 0), (2, aI ((newD 1 1 [[cal15]]).2)), (3, .sl 1 true ([[aI 1], [aI 2], [aI 3], [aI 6]])), (4, aI (k : Int)), (17, aI (k : Int)), (18, aB (decide ((k : Int) < 4))), (22, .agg (zN92 k)), (23, .tup (zN96 k)), (21, .tup (zN96 k)), (24, .agg (zN91 k)), (25, aB ((sayD (stk k)).2)), (5, .ptr 5 b2 0), (6, aB ((sayD (stk k)).2)), (26, aB ((sayD (stk k)).2)), (27, aB (!((sayD (stk k)).2))), (28, aB false), (29, .ptr 5 b2 0), (30, aI ((sayD (stk k)).1.kind)), (31, .sl 1 true ([[aI 1], [aI 2], [aI 3], [aI 6]])), (32, aI (k : Int)), (33, .dptr [aI ((sayD (stk k)).1.kind)]), (34, aI ((sayD (stk k)).1.kind)), (35, aB (((sayD (stk k)).1.kind) != ((sayD (stk k)).1.kind))), (36, aB (((sayD (stk k)).1.kind) != ((sayD (stk k)).1.kind)))], (zN99 b1 k b2)⟩) (ps := []) (by kernel_rfl) trivial ?_
    refine hK11 _ ?_
    try clear hK11 K11
    refine awp_if false (by omega) (by kernel_rfl) (show (((sayD (stk k)).1.kind) != ((sayD (stk k)).1.kind)) = false from (by simp)) ?_
    refine awp_skip ?_
    refine hK10 _ ?_
    try clear hK10 K10
    refine awp_region [0, 1, 2, 3, 4, 5, 6, 7] (by rw [hc]; kernel_rfl) (by kernel_rfl) ?_
    refine seq_run (r := [6, 7]) [0, 1, 2, 3, 4, 5] (s' := ⟨[(1, .ptr 1 b1 0), (2, aI ((newD 1 1 [[cal15]]).2)), (3, .sl 1 true ([[aI 1], [aI 2], [aI 3], [aI 6]])), (4, aI (k : Int)), (17, aI (k : Int)), (18, aB (decide ((k : Int) < 4))), (22, .agg (zN92 k)), (23, .tup (zN96 k)), (21, .tup (zN96 k)), (24, .agg (zN91 k)), (25, aB ((sayD (stk k)).2)), (5, .ptr 5 b2 0), (6, aB ((sayD (stk k)).2)), (26, aB ((sayD (stk k)).2)), (27, aB (!((sayD (stk k)).2))), (28, aB false), (29, .ptr 5 b2 0), (30, aI ((sayD (stk k)).1.kind)), (31, .sl 1 true ([[aI 1], [aI 2], [aI 3], [aI 6]])), (32, aI (k : Int)), (33, .dptr [aI ((sayD (stk k)).1.kind)]), (34, aI ((sayD (stk k)).1.kind)), (35, aB (((sayD (stk k)).1.kind) != ((sayD (stk k)).1.kind))), (36, aB (((sayD (stk k)).1.kind) != ((sayD (stk k)).1.kind))), (37, .agg (zN92 k)), (38, .ptr 5 b2 0), (39, aI ((sayD (stk k)).1.kind)), (40, .ptr 5 b2 4), (41, aI ((sayD (stk k)).1.n)), (42, .agg (zN911 k))], (zN99 b1 k b2)⟩) (ps := [b1 = b1, b2 = b2, b2 = b2]) (by kernel_rfl) ⟨rfl, rfl, rfl, trivial⟩ ?_
    refine seq_call (f := 17) (args := [.agg (zN92 k), .agg (zN911 k)]) (d := some 43) (args' := [.agg (zN92 k), .agg [aI ((sayD (stk k)).1.kind), aI 1, aI 1, aI 1, aI ((sayD (stk k)).1.n), aI 0, aI 0, aI 0, aI 0, aS ([]), .sl 1 false (([] : List Txt).map txA)]]) (s' := ⟨(zN94 b1 k b2), (zN99 b1 k b2)⟩) (by kernel_rfl) (fun _ _ => rfl) ⟨Sub.refl _, Sub.aggs ⟨Sub.refl _, Sub.refl _, Sub.refl _, Sub.refl _, Sub.refl _, Sub.refl _, Sub.refl _, Sub.refl _, Sub.refl _, Sub.refl _, Sub.nil _ _, trivial⟩, trivial⟩ (fhear_spec (r := rspk (stk k) 1 1 1) (stk_fit k (by omega)) (by omega)) (by kernel_rfl) ?_
    refine seq_run (r := []) [7] (s' := ⟨(zN94 b1 k b2), [(1, .box b1 26 (zN97 k)), (5, .box b2 38 (zN91 k))]⟩) (ps := [b1 = b1]) (by kernel_rfl) ⟨rfl, trivial⟩ ?_
    refine hK8 _ ?_
    try clear hK8 K8
    refine awp_region [0, 1, 2] (by rw [hc]; kernel_rfl) (by kernel_rfl) ?_
    refine seq_run (r := []) [0, 1, 2] (s' := ⟨[(1, .ptr 1 b1 0), (2, aI ((newD 1 1 [[cal15]]).2)), (3, .sl 1 true ([[aI 1], [aI 2], [aI 3], [aI 6]])), (4, aI ((k : Int) + 1)), (17, aI (k : Int)), (18, aB (decide ((k : Int) < 4))), (22, .agg (zN92 k)), (23, .tup (zN96 k)), (21, .tup (zN96 k)), (24, .agg (zN91 k)), (25, aB ((sayD (stk k)).2)), (5, .ptr 5 b2 0), (6, aB ((sayD (stk k)).2)), (26, aB ((sayD (stk k)).2)), (27, aB (!((sayD (stk k)).2))), (28, aB false), (29, .ptr 5 b2 0), (30, aI ((sayD (stk k)).1.kind)), (31, .sl 1 true ([[aI 1], [aI 2], [aI 3], [aI 6]])), (32, aI (k : Int)), (33, .dptr [aI ((sayD (stk k)).1.kind)]), (34, aI ((sayD (stk k)).1.kind)), (35, aB (((sayD (stk k)).1.kind) != ((sayD (stk k)).1.kind))), (36, aB (((sayD (stk k)).1.kind) != ((sayD (stk k)).1.kind))), (37, .agg (zN92 k)), (38, .ptr 5 b2 0), (39, aI ((sayD (stk k)).1.kind)), (40, .ptr 5 b2 4), (41, aI ((sayD (stk k)).1.n)), (42, .agg (zN911 k)), (43, .agg (zN97 k)), (19, aI (k : Int)), (20, aI ((k : Int) + 1))], [(1, .box b1 26 (zN97 k)), (5, .box b2 38 (zN91 k))]⟩) (ps := [rng .i64 ((k : Int) + 1)]) (by kernel_rfl) ⟨rng64 (by omega) (by omega), trivial⟩ ?_
    exact ⟨(k + 1), (by omega), (by omega), LS.le ⟨Sub.refl _, Sub.refl _, Sub.refl _, Sub.refl _, trivial⟩ ⟨⟨_, rfl, SubB.refl _⟩, trivial⟩⟩
  refine awp_if false (by omega) (by kernel_rfl) q1 ?_
  refine awp_exit ?_
  refine hK4 _ ?_
  try clear hK4 K4
  refine awp_less ⟨[(1, .ptr 1 b1 0), (2, aI ((newD 1 1 [[cal15]]).2))], [(1, .box b1 26 (zN92 k))]⟩ ⟨Sub.refl _, Sub.refl _, trivial⟩ ⟨⟨_, rfl, SubB.refl _⟩, trivial⟩ ?_
  refine awp_seq_k (fun K12 hK12 => ?_)
  refine awp_region [0, 1, 2, 3, 4, 5, 6, 7] (by rw [hc]; kernel_rfl) (by kernel_rfl) ?_
  refine seq_run (r := [1, 2, 3, 4, 5, 6, 7]) [0] (s' := ⟨[(1, .ptr 1 b1 0), (2, aI ((newD 1 1 [[cal15]]).2)), (45, .agg (zN92 k))], [(1, .box b1 26 (zN92 k))]⟩) (ps := [b1 = b1]) (by kernel_rfl) ⟨rfl, trivial⟩ ?_
  refine seq_call (f := 12) (args := [.agg (zN92 k)]) (d := some 46) (args' := [.agg (zN92 k)]) (s' := ⟨[(1, .ptr 1 b1 0), (2, aI ((newD 1 1 [[cal15]]).2)), (45, .agg (zN92 k)), (46, .tup (zN96 k))], [(1, .box b1 26 (zN92 k))]⟩) (by kernel_rfl) (fun _ _ => rfl) ⟨Sub.refl _, trivial⟩ (fsay_spec (stk_fit k (by omega)) (by omega)) (by kernel_rfl) ?_
  refine seq_run (r := [5, 6, 7]) [2, 3, 4] (s' := ⟨[(1, .ptr 1 b1 0), (2, aI ((newD 1 1 [[cal15]]).2)), (45, .agg (zN92 k)), (46, .tup (zN96 k)), (44, .tup (zN96 k)), (47, .agg (zN91 k)), (48, aB ((sayD (stk k)).2))], [(1, .box b1 26 (zN92 k))]⟩) (ps := []) (by kernel_rfl) trivial ?_
  refine seq_new (f := fun b3 => ⟨[(1, .ptr 1 b1 0), (2, aI ((newD 1 1 [[cal15]]).2)), (45, .agg (zN92 k)), (46, .tup (zN96 k)), (44, .tup (zN96 k)), (47, .agg (zN91 k)), (48, aB ((sayD (stk k)).2)), (7, .ptr 7 b3 0)], [(1, .box b1 26 (zN92 k)), (7, .box b3 38 [aI 0, aI 0, aI 0, aI 0, aI 0, aI 0, aI 0, aI 0, aI 0, aI 0, aI 0, aS ([]), aS ([]), aS ([])])]⟩) (by kernel_rfl) (fun b3 => ?_)
  refine seq_run (r := []) [6, 7] (s' := ⟨[(1, .ptr 1 b1 0), (2, aI ((newD 1 1 [[cal15]]).2)), (45, .agg (zN92 k)), (46, .tup (zN96 k)), (44, .tup (zN96 k)), (47, .agg (zN91 k)), (48, aB ((sayD (stk k)).2)), (7, .ptr 7 b3 0), (8, aB ((sayD (stk k)).2))], [(1, .box b1 26 (zN92 k)), (7, .box b3 38 (zN91 k))]⟩) (ps := [b3 = b3]) (by kernel_rfl) ⟨rfl, trivial⟩ ?_
  refine hK12 _ ?_
  try clear hK12 K12
  refine awp_less ⟨[(1, .ptr 1 b1 0), (2, aI ((newD 1 1 [[cal15]]).2)), (8, aB ((sayD (stk k)).2))], [(1, .box b1 26 (zN92 k))]⟩ ⟨Sub.refl _, Sub.refl _, Sub.refl _, trivial⟩ ⟨⟨_, rfl, SubB.refl _⟩, trivial⟩ ?_
  refine awp_seq_k (fun K13 hK13 => ?_)
  refine awp_region [0, 1, 2, 3, 4, 5, 6, 7, 8, 9, 10, 11, 12, 13, 14, 15, 16, 17, 18, 19, 20, 21, 22, 23, 24, 25, 26, 27, 28] (by rw [hc]; kernel_rfl) (by kernel_rfl) ?_
  refine seq_run (r := [3, 4, 5, 6, 7, 8, 9, 10, 11, 12, 13, 14, 15, 16, 17, 18, 19, 20, 21, 22, 23, 24, 25, 26, 27, 28]) [0, 1, 2] (s' := ⟨[(1, .ptr 1 b1 0), (2, aI ((newD 1 1 [[cal15]]).2)), (8, aB ((sayD (stk k)).2)), (49, aI ((newD 1 1 [[cal15]]).2)), (50, aB (((newD 1 1 [[cal15]]).2) == 0)), (51, aB (((newD 1 1 [[cal15]]).2) == 0))], [(1, .box b1 26 (zN92 k))]⟩) (ps := []) (by kernel_rfl) trivial ?_
  refine seq_bool (s' := ⟨[(1, .ptr 1 b1 0), (2, aI ((newD 1 1 [[cal15]]).2)), (8, aB ((sayD (stk k)).2)), (49, aI ((newD 1 1 [[cal15]]).2)), (50, aB (((newD 1 1 [[cal15]]).2) == 0)), (51, aB true)], [(1, .box b1 26 (zN92 k))]⟩) 51 (b := ((newD 1 1 [[cal15]]).2) == 0) (v := true) (show (((newD 1 1 [[cal15]]).2) == 0) = true from rfl) (by kernel_rfl) (by kernel_rfl) ?_
  refine seq_run (r := [7, 8, 9, 10, 11, 12, 13, 14, 15, 16, 17, 18, 19, 20, 21, 22, 23, 24, 25, 26, 27, 28]) [3, 4, 5, 6] (s' := ⟨[(1, .ptr 1 b1 0), (2, aI ((newD 1 1 [[cal15]]).2)), (8, aB ((sayD (stk k)).2)), (49, aI ((newD 1 1 [[cal15]]).2)), (50, aB (((newD 1 1 [[cal15]]).2) == 0)), (51, aB true), (52, aB ((sayD (stk k)).2)), (53, aB (!((sayD (stk k)).2))), (54, aB (!((sayD (stk k)).2))), (55, aB (!((sayD (stk k)).2)))], [(1, .box b1 26 (zN92 k))]⟩) (ps := []) (by kernel_rfl) trivial ?_
  refine seq_bool (s' := ⟨[(1, .ptr 1 b1 0), (2, aI ((newD 1 1 [[cal15]]).2)), (8, aB ((sayD (stk k)).2)), (49, aI ((newD 1 1 [[cal15]]).2)), (50, aB (((newD 1 1 [[cal15]]).2) == 0)), (51, aB true), (52, aB ((sayD (stk k)).2)), (53, aB (!((sayD (stk k)).2))), (54, aB (!((sayD (stk k)).2))), (55, aB true)], [(1, .box b1 26 (zN92 k))]⟩) 55 (b := !((sayD (stk k)).2)) (v := true) (show (!((sayD (stk k)).2)) = true from by rw [(show ((sayD (stk k)).2) = false from (by rw [stk4 (by omega) (by omega)]; rfl))]; rfl) (by kernel_rfl) (by kernel_rfl) ?_
  refine seq_run (r := [10, 11, 12, 13, 14, 15, 16, 17, 18, 19, 20, 21, 22, 23, 24, 25, 26, 27, 28]) [7, 8, 9] (s' := ⟨[(1, .ptr 1 b1 0), (2, aI ((newD 1 1 [[cal15]]).2)), (8, aB ((sayD (stk k)).2)), (49, aI ((newD 1 1 [[cal15]]).2)), (50, aB (((newD 1 1 [[cal15]]).2) == 0)), (51, aB true), (52, aB ((sayD (stk k)).2)), (53, aB (!((sayD (stk k)).2))), (54, aB (!((sayD (stk k)).2))), (55, aB true), (56, .ptr 1 b1 7), (57, .sl 4 false ((stk k).told.map donA)), (58, aI (((stk k).told.map donA).length : Int))], [(1, .box b1 26 (zN92 k))]⟩) (ps := [b1 = b1]) (by kernel_rfl) ⟨rfl, trivial⟩ ?_
  refine seq_val (s' := ⟨[(1, .ptr 1 b1 0), (2, aI ((newD 1 1 [[cal15]]).2)), (8, aB ((sayD (stk k)).2)), (49, aI ((newD 1 1 [[cal15]]).2)), (50, aB (((newD 1 1 [[cal15]]).2) == 0)), (51, aB true), (52, aB ((sayD (stk k)).2)), (53, aB (!((sayD (stk k)).2))), (54, aB (!((sayD (stk k)).2))), (55, aB true), (56, .ptr 1 b1 7), (57, .sl 4 false ((stk k).told.map donA)), (58, aI (((stk k).told).length : Int))], [(1, .box b1 26 (zN92 k))]⟩) 58 (x := aI (((stk k).told.map donA).length : Int)) (y := aI (((stk k).told).length : Int)) (by rw [List.length_map]) (by kernel_rfl) (by kernel_rfl) ?_
  refine seq_run (r := [13, 14, 15, 16, 17, 18, 19, 20, 21, 22, 23, 24, 25, 26, 27, 28]) [10, 11, 12] (s' := ⟨[(1, .ptr 1 b1 0), (2, aI ((newD 1 1 [[cal15]]).2)), (8, aB ((sayD (stk k)).2)), (49, aI ((newD 1 1 [[cal15]]).2)), (50, aB (((newD 1 1 [[cal15]]).2) == 0)), (51, aB true), (52, aB ((sayD (stk k)).2)), (53, aB (!((sayD (stk k)).2))), (54, aB (!((sayD (stk k)).2))), (55, aB true), (56, .ptr 1 b1 7), (57, .sl 4 false ((stk k).told.map donA)), (58, aI (((stk k).told).length : Int)), (59, aB ((((stk k).told).length : Int) == 1)), (60, aB ((((stk k).told).length : Int) == 1)), (61, aB ((((stk k).told).length : Int) == 1))], [(1, .box b1 26 (zN92 k))]⟩) (ps := []) (by kernel_rfl) trivial ?_
  refine seq_bool (s' := ⟨[(1, .ptr 1 b1 0), (2, aI ((newD 1 1 [[cal15]]).2)), (8, aB ((sayD (stk k)).2)), (49, aI ((newD 1 1 [[cal15]]).2)), (50, aB (((newD 1 1 [[cal15]]).2) == 0)), (51, aB true), (52, aB ((sayD (stk k)).2)), (53, aB (!((sayD (stk k)).2))), (54, aB (!((sayD (stk k)).2))), (55, aB true), (56, .ptr 1 b1 7), (57, .sl 4 false ((stk k).told.map donA)), (58, aI (((stk k).told).length : Int)), (59, aB ((((stk k).told).length : Int) == 1)), (60, aB ((((stk k).told).length : Int) == 1)), (61, aB true)], [(1, .box b1 26 (zN92 k))]⟩) 61 (b := (((stk k).told).length : Int) == 1) (v := true) (show ((((stk k).told).length : Int) == 1) = true from (by rw [stk4 (by omega) (by omega)]; rfl)) (by kernel_rfl) (by kernel_rfl) ?_
  refine seq_run (r := [15, 16, 17, 18, 19, 20, 21, 22, 23, 24, 25, 26, 27, 28]) [13, 14] (s' := ⟨[(1, .ptr 1 b1 0), (2, aI ((newD 1 1 [[cal15]]).2)), (8, aB ((sayD (stk k)).2)), (49, aI ((newD 1 1 [[cal15]]).2)), (50, aB (((newD 1 1 [[cal15]]).2) == 0)), (51, aB true), (52, aB ((sayD (stk k)).2)), (53, aB (!((sayD (stk k)).2))), (54, aB (!((sayD (stk k)).2))), (55, aB true), (56, .ptr 1 b1 7), (57, .sl 4 false ((stk k).told.map donA)), (58, aI (((stk k).told).length : Int)), (59, aB ((((stk k).told).length : Int) == 1)), (60, aB ((((stk k).told).length : Int) == 1)), (61, aB true), (62, .ptr 1 b1 7), (63, .sl 4 false ((stk k).told.map donA))], [(1, .box b1 26 (zN92 k))]⟩) (ps := [b1 = b1]) (by kernel_rfl) ⟨rfl, trivial⟩ ?_
  refine seq_idx (s' := ⟨[(1, .ptr 1 b1 0), (2, aI ((newD 1 1 [[cal15]]).2)), (8, aB ((sayD (stk k)).2)), (49, aI ((newD 1 1 [[cal15]]).2)), (50, aB (((newD 1 1 [[cal15]]).2) == 0)), (51, aB true), (52, aB ((sayD (stk k)).2)), (53, aB (!((sayD (stk k)).2))), (54, aB (!((sayD (stk k)).2))), (55, aB true), (56, .ptr 1 b1 7), (57, .sl 4 false ((stk k).told.map donA)), (58, aI (((stk k).told).length : Int)), (59, aB ((((stk k).told).length : Int) == 1)), (60, aB ((((stk k).told).length : Int) == 1)), (61, aB true), (62, .ptr 1 b1 7), (63, .sl 4 false ((stk k).told.map donA)), (64, .dptr zN98)], [(1, .box b1 26 (zN92 k))]⟩) (xs := (stk k).told.map donA) (m := 0) (d := some 64) (e := zN98) (0) (by kernel_rfl) rfl (by rw [stk4 (by omega) (by omega)]; rfl) (by kernel_rfl) ?_
  refine seq_run (r := [22, 23, 24, 25, 26, 27, 28]) [16, 17, 18, 19, 20, 21] (s' := ⟨[(1, .ptr 1 b1 0), (2, aI ((newD 1 1 [[cal15]]).2)), (8, aB ((sayD (stk k)).2)), (49, aI ((newD 1 1 [[cal15]]).2)), (50, aB (((newD 1 1 [[cal15]]).2) == 0)), (51, aB true), (52, aB ((sayD (stk k)).2)), (53, aB (!((sayD (stk k)).2))), (54, aB (!((sayD (stk k)).2))), (55, aB true), (56, .ptr 1 b1 7), (57, .sl 4 false ((stk k).told.map donA)), (58, aI (((stk k).told).length : Int)), (59, aB ((((stk k).told).length : Int) == 1)), (60, aB ((((stk k).told).length : Int) == 1)), (61, aB true), (62, .ptr 1 b1 7), (63, .sl 4 false ((stk k).told.map donA)), (64, .dptr zN98), (65, .dptr zN912), (66, aB true), (67, aB true), (68, aB true), (69, .ptr 1 b1 7), (70, .sl 4 false ((stk k).told.map donA))], [(1, .box b1 26 (zN92 k))]⟩) (ps := [b1 = b1]) (by kernel_rfl) ⟨rfl, trivial⟩ ?_
  refine seq_idx (s' := ⟨[(1, .ptr 1 b1 0), (2, aI ((newD 1 1 [[cal15]]).2)), (8, aB ((sayD (stk k)).2)), (49, aI ((newD 1 1 [[cal15]]).2)), (50, aB (((newD 1 1 [[cal15]]).2) == 0)), (51, aB true), (52, aB ((sayD (stk k)).2)), (53, aB (!((sayD (stk k)).2))), (54, aB (!((sayD (stk k)).2))), (55, aB true), (56, .ptr 1 b1 7), (57, .sl 4 false ((stk k).told.map donA)), (58, aI (((stk k).told).length : Int)), (59, aB ((((stk k).told).length : Int) == 1)), (60, aB ((((stk k).told).length : Int) == 1)), (61, aB true), (62, .ptr 1 b1 7), (63, .sl 4 false ((stk k).told.map donA)), (64, .dptr zN98), (65, .dptr zN912), (66, aB true), (67, aB true), (68, aB true), (69, .ptr 1 b1 7), (70, .sl 4 false ((stk k).told.map donA)), (71, .dptr zN98)], [(1, .box b1 26 (zN92 k))]⟩) (xs := (stk k).told.map donA) (m := 0) (d := some 71) (e := zN98) (0) (by kernel_rfl) rfl (by rw [stk4 (by omega) (by omega)]; rfl) (by kernel_rfl) ?_
  refine seq_run (r := [26, 27, 28]) [23, 24, 25] (s' := ⟨[(1, .ptr 1 b1 0), (2, aI ((newD 1 1 [[cal15]]).2)), (8, aB ((sayD (stk k)).2)), (49, aI ((newD 1 1 [[cal15]]).2)), (50, aB (((newD 1 1 [[cal15]]).2) == 0)), (51, aB true), (52, aB ((sayD (stk k)).2)), (53, aB (!((sayD (stk k)).2))), (54, aB (!((sayD (stk k)).2))), (55, aB true), (56, .ptr 1 b1 7), (57, .sl 4 false ((stk k).told.map donA)), (58, aI (((stk k).told).length : Int)), (59, aB ((((stk k).told).length : Int) == 1)), (60, aB ((((stk k).told).length : Int) == 1)), (61, aB true), (62, .ptr 1 b1 7), (63, .sl 4 false ((stk k).told.map donA)), (64, .dptr zN98), (65, .dptr zN912), (66, aB true), (67, aB true), (68, aB true), (69, .ptr 1 b1 7), (70, .sl 4 false ((stk k).told.map donA)), (71, .dptr zN98), (72, .dptr [.sl 6 false ([rep0].map repA)]), (73, .sl 6 false ([rep0].map repA)), (74, aI (([rep0].map repA).length : Int))], [(1, .box b1 26 (zN92 k))]⟩) (ps := []) (by kernel_rfl) trivial ?_
  refine seq_val (s' := ⟨[(1, .ptr 1 b1 0), (2, aI ((newD 1 1 [[cal15]]).2)), (8, aB ((sayD (stk k)).2)), (49, aI ((newD 1 1 [[cal15]]).2)), (50, aB (((newD 1 1 [[cal15]]).2) == 0)), (51, aB true), (52, aB ((sayD (stk k)).2)), (53, aB (!((sayD (stk k)).2))), (54, aB (!((sayD (stk k)).2))), (55, aB true), (56, .ptr 1 b1 7), (57, .sl 4 false ((stk k).told.map donA)), (58, aI (((stk k).told).length : Int)), (59, aB ((((stk k).told).length : Int) == 1)), (60, aB ((((stk k).told).length : Int) == 1)), (61, aB true), (62, .ptr 1 b1 7), (63, .sl 4 false ((stk k).told.map donA)), (64, .dptr zN98), (65, .dptr zN912), (66, aB true), (67, aB true), (68, aB true), (69, .ptr 1 b1 7), (70, .sl 4 false ((stk k).told.map donA)), (71, .dptr zN98), (72, .dptr [.sl 6 false ([rep0].map repA)]), (73, .sl 6 false ([rep0].map repA)), (74, aI (([rep0]).length : Int))], [(1, .box b1 26 (zN92 k))]⟩) 74 (x := aI (([rep0].map repA).length : Int)) (y := aI (([rep0]).length : Int)) (by rw [List.length_map]) (by kernel_rfl) (by kernel_rfl) ?_
  refine seq_run (r := []) [26, 27, 28] (s' := ⟨[(1, .ptr 1 b1 0), (2, aI ((newD 1 1 [[cal15]]).2)), (8, aB ((sayD (stk k)).2)), (49, aI ((newD 1 1 [[cal15]]).2)), (50, aB (((newD 1 1 [[cal15]]).2) == 0)), (51, aB true), (52, aB ((sayD (stk k)).2)), (53, aB (!((sayD (stk k)).2))), (54, aB (!((sayD (stk k)).2))), (55, aB true), (56, .ptr 1 b1 7), (57, .sl 4 false ((stk k).told.map donA)), (58, aI (((stk k).told).length : Int)), (59, aB ((((stk k).told).length : Int) == 1)), (60, aB ((((stk k).told).length : Int) == 1)), (61, aB true), (62, .ptr 1 b1 7), (63, .sl 4 false ((stk k).told.map donA)), (64, .dptr zN98), (65, .dptr zN912), (66, aB true), (67, aB true), (68, aB true), (69, .ptr 1 b1 7), (70, .sl 4 false ((stk k).told.map donA)), (71, .dptr zN98), (72, .dptr [.sl 6 false ([rep0].map repA)]), (73, .sl 6 false ([rep0].map repA)), (74, aI (([rep0]).length : Int)), (75, aB ((([rep0]).length : Int) == 1)), (76, aB ((([rep0]).length : Int) == 1)), (0, aB ((([rep0]).length : Int) == 1))], [(1, .box b1 26 (zN92 k))]⟩) (ps := []) (by kernel_rfl) trivial ?_
  refine hK13 _ ?_
  try clear hK13 K13
  refine awp_less ⟨[(0, aB ((([rep0]).length : Int) == 1))], []⟩ ⟨Sub.refl _, trivial⟩ trivial ?_
  refine awp_ret ?_
  refine fin_ret ⟨[], [aB ((([rep0]).length : Int) == 1)], by kernel_rfl, trivial, ?_⟩
  exact Sub.of_eq rfl
end Go.Proofs.Ytpdedjbkfcaebaa
