import Derived.Test.YtkhnialfkndiiaaGreatMrgAE
import Derived.Test.YtkhnialfkndiiaaGreatMrgH
import Derived.Test.YtkhnialfkndiiaaGreatMrgJ
import Derived.Test.YtkhnialfkndiiaaGreatRows
import Derived.Test.YtkhnialfkndiiaaGreatMrgAB
set_option maxRecDepth 100000
set_option maxHeartbeats 8000000
set_option linter.unusedVariables false
set_option linter.unusedSimpArgs false
namespace Go.Proofs.YtkhnialfkndiiaaGreat
open Go Go.RowKit Copyhold
theorem midF_ofN {f g : Fsy} {k : Nat} (hf : fewF f) (hk : k ≤ 30) (K : KeptN f g k) : midF g := by
 have h := K.few
 rw [wF_eq, wF_eq] at h
 have := hf.1
 unfold midF
 omega
theorem pl_len_take {f : Fsy} {l : List Cal} {k : Nat} (h : k ≤ l.length) : (plR f (l.take k)).length = k := by rw [plR_len, List.length_take]; omega
theorem rplay_spec (f : Fsy) (l : List Cal) (okf : OkF f) (T : TreeP f) (hf : fewF f) (hl : l.length ≤ 30) (ok : ∀ c ∈ l, OkCal c) (htx : ∀ c ∈ l, c.text.length ≤ 500000) (hx : f.next < 1152921504606847976) : FSpec Tryz.prog 25 [.agg (fsyA f), .sl 8 false (l.map calA)] (.tup [.agg (fsyA (plF f l)), .sl 6 false ((plR f l).map repA)]) := by
 exact spec_vc (F := Tryz.f25) 400 (
 .new fun b1 => .new fun b2 => .r 1 <| .r 1 <| .rowNil 6 6 30 6 <| .r 1 <| let L1 : Lp (Nat × Value) := ⟨fun a1 => ⟨[(1, .sl 8 false (l.map calA)), (2, .ptr 2 b1 0), (4, .ptr 4 b2 0), (7, aI (a1.1 : Int)), (6, .rw 6 a1.2 ((plR f (l.take a1.1)).length))], [(2, .box b1 24 [.sl 5 false ((plF f (l.take a1.1)).l.map nodA), aI ((plF f (l.take a1.1)).next)]), (4, .box b2 24 [aN, aI 0]), (6, .row a1.2 30 6 ((plR f (l.take a1.1)).map repA))]⟩, fun a1 => l.length - a1.1, fun a1 => a1.1 ≤ l.length⟩
 .loop L1 (0, .slice none 0 0) (show 0 ≤ l.length from Nat.zero_le _) ⟨[(1, .sl 8 false (l.map calA)), (2, .ptr 2 b1 0), (4, .ptr 4 b2 0), (7, aI 0), (6, .rw 6 (.slice none 0 0) 0)], [(2, .box b1 24 (fsyA f)), (4, .box b2 24 [aN, aI 0]), (6, .row (.slice none 0 0) 30 6 ([]))]⟩ ⟨sR, sR, sR, Sub.of_eq (congrArg aI (by first | omega | rfl)), Sub.of_eq rfl, trivial⟩ ⟨⟨_, rfl, SubB.of_eq rfl⟩, ⟨_, rfl, SubB.refl _⟩, ⟨_, rfl, SubB.of_eq rfl⟩, trivial⟩ fun a1 ha1 =>
 (fun (k : Nat) (V : Value) (hH1 : k ≤ l.length) => have kp := kept_pl okf T (by omega) ok hx k (by omega); have kp2 := kp.next; .r 3 <| .val 12 (show (aI ((l.map calA).length : Int) : AV) = aI (l.length : Int) from by rw [List.length_map]) <| .r 1 <| .br 13 (decide ((k : Int) < (l.length : Int))) (fun q1 => have p1 := decT q1; .pick [0, 1, 2, 3, 4] <| .run 3 [b1 = b1] rt1 <|
 .idxM l calA k (m := (k : Int)) rfl (by omega) fun x1 hx1 =>
 have okx1 := ok x1 (List.mem_of_getElem? hx1); have txx1 := htx x1 (List.mem_of_getElem? hx1); .r 1 <| .fork <| .alt (.call (rdo_spec (plF f (l.take k)) x1 kp.ok okx1 kp.tree.rows (by omega) kp.tree (midF_ofN hf (by omega) kp) txx1) <|
 .pick [6, 7, 8] <| .r 3 <| .fork <| .alt (.new fun b3 => .pick [10, 11, 12] <| .new fun b4 => .run 2 [b3 = b3, b4 = b4] rt2 <|
 .run 2 [b3 = b3, b1 = b1] rt2 <|
 .run 3 [b4 = b4] rt1 <|
 .app 72 V ((plR f (l.take k)).map repA) ([[aI ((doF (plF f (l.take k)) x1).2.e), aI ((doF (plF f (l.take k)) x1).2.a), aI ((doF (plF f (l.take k)) x1).2.b), aI ((doF (plF f (l.take k)) x1).2.n), aS ((doF (plF f (l.take k)) x1).2.text), .sl 1 false ((doF (plF f (l.take k)) x1).2.names.map txA)]]) (by have hw := pl_len_take (f := f) (l := l) (k := k) (by omega); simp only [List.length_map, List.length_cons, List.length_nil]; omega) (by have hw := pl_len_take (f := f) (l := l) (k := k) (by omega); simp only [List.length_map, List.length_cons, List.length_nil]; omega) fun V1 =>
 .r 1 <| .run 3 [rng .i64 ((k : Int) + 1)] ⟨rng64 (by omega) (by omega), trivial⟩ <|
 .back L1 (k, V) ((k + 1), V1) (show (k + 1) ≤ l.length from (by show _ ≤ _; omega)) (show l.length - (k + 1) < l.length - k from (by omega)) ⟨[(1, .sl 8 false (l.map calA)), (2, .ptr 2 b1 0), (4, .ptr 4 b2 0), (7, aI ((k : Int) + 1)), (6, .rw 6 V1 (((plR f (l.take k)).map repA).length + ([[aI ((doF (plF f (l.take k)) x1).2.e), aI ((doF (plF f (l.take k)) x1).2.a), aI ((doF (plF f (l.take k)) x1).2.b), aI ((doF (plF f (l.take k)) x1).2.n), aS ((doF (plF f (l.take k)) x1).2.text), .sl 1 false ((doF (plF f (l.take k)) x1).2.names.map txA)]] : List (List AV)).length))], [(2, .box b1 24 [.sl 5 false ((doF (plF f (l.take k)) x1).1.l.map nodA), aI ((doF (plF f (l.take k)) x1).1.next)]), (4, .box b2 24 [aN, aI 0]), (6, .row V1 30 6 (((plR f (l.take k)).map repA) ++ ([[aI ((doF (plF f (l.take k)) x1).2.e), aI ((doF (plF f (l.take k)) x1).2.a), aI ((doF (plF f (l.take k)) x1).2.b), aI ((doF (plF f (l.take k)) x1).2.n), aS ((doF (plF f (l.take k)) x1).2.text), .sl 1 false ((doF (plF f (l.take k)) x1).2.names.map txA)]])))]⟩ ⟨sR, sR, sR, Sub.of_eq (congrArg aI (by first | omega | rfl)), Sub.of_eq (congrArg (AV.rw 6 V1) (by rw [plR_step hx1]; simp)), trivial⟩ ⟨⟨_, rfl, SubB.of_eq (by rw [plF_step hx1])⟩, ⟨_, rfl, SubB.refl _⟩, ⟨_, rfl, SubB.of_eq (by rw [plR_step hx1]; simp [repA])⟩, trivial⟩)
 <| .new fun b5 => .pick [9, 11, 12] <| .new fun b6 => .run 2 [b6 = b6, b5 = b5] rt2 <|
 .run 2 [b6 = b6, b1 = b1] rt2 <|
 .run 3 [b5 = b5] rt1 <|
 .app 72 V ((plR f (l.take k)).map repA) ([[aI ((doF (plF f (l.take k)) x1).2.e), aI ((doF (plF f (l.take k)) x1).2.a), aI ((doF (plF f (l.take k)) x1).2.b), aI ((doF (plF f (l.take k)) x1).2.n), aS ((doF (plF f (l.take k)) x1).2.text), .sl 1 false ((doF (plF f (l.take k)) x1).2.names.map txA)]]) (by have hw := pl_len_take (f := f) (l := l) (k := k) (by omega); simp only [List.length_map, List.length_cons, List.length_nil]; omega) (by have hw := pl_len_take (f := f) (l := l) (k := k) (by omega); simp only [List.length_map, List.length_cons, List.length_nil]; omega) fun V2 =>
 .r 1 <| .run 3 [rng .i64 ((k : Int) + 1)] ⟨rng64 (by omega) (by omega), trivial⟩ <|
 .back L1 (k, V) ((k + 1), V2) (show (k + 1) ≤ l.length from (by show _ ≤ _; omega)) (show l.length - (k + 1) < l.length - k from (by omega)) ⟨[(1, .sl 8 false (l.map calA)), (2, .ptr 2 b1 0), (4, .ptr 4 b2 0), (7, aI ((k : Int) + 1)), (6, .rw 6 V2 (((plR f (l.take k)).map repA).length + ([[aI ((doF (plF f (l.take k)) x1).2.e), aI ((doF (plF f (l.take k)) x1).2.a), aI ((doF (plF f (l.take k)) x1).2.b), aI ((doF (plF f (l.take k)) x1).2.n), aS ((doF (plF f (l.take k)) x1).2.text), .sl 1 false ((doF (plF f (l.take k)) x1).2.names.map txA)]] : List (List AV)).length))], [(2, .box b1 24 [.sl 5 false ((doF (plF f (l.take k)) x1).1.l.map nodA), aI ((doF (plF f (l.take k)) x1).1.next)]), (4, .box b2 24 [aN, aI 0]), (6, .row V2 30 6 (((plR f (l.take k)).map repA) ++ ([[aI ((doF (plF f (l.take k)) x1).2.e), aI ((doF (plF f (l.take k)) x1).2.a), aI ((doF (plF f (l.take k)) x1).2.b), aI ((doF (plF f (l.take k)) x1).2.n), aS ((doF (plF f (l.take k)) x1).2.text), .sl 1 false ((doF (plF f (l.take k)) x1).2.names.map txA)]])))]⟩ ⟨sR, sR, sR, Sub.of_eq (congrArg aI (by first | omega | rfl)), Sub.of_eq (congrArg (AV.rw 6 V2) (by rw [plR_step hx1]; simp)), trivial⟩ ⟨⟨_, rfl, SubB.of_eq (by rw [plF_step hx1])⟩, ⟨_, rfl, SubB.refl _⟩, ⟨_, rfl, SubB.of_eq (by rw [plR_step hx1]; simp [repA])⟩, trivial⟩)
 <| .alt (.new fun b7 => .fork <| .alt (.call (rdo_spec (plF f (l.take k)) x1 kp.ok okx1 kp.tree.rows (by omega) kp.tree (midF_ofN hf (by omega) kp) txx1) <|
 .pick [6, 7, 8, 10, 11, 12] <| .r 3 <| .new fun b8 => .run 2 [b7 = b7, b8 = b8] rt2 <|
 .run 2 [b7 = b7, b1 = b1] rt2 <|
 .run 3 [b8 = b8] rt1 <|
 .app 72 V ((plR f (l.take k)).map repA) ([[aI ((doF (plF f (l.take k)) x1).2.e), aI ((doF (plF f (l.take k)) x1).2.a), aI ((doF (plF f (l.take k)) x1).2.b), aI ((doF (plF f (l.take k)) x1).2.n), aS ((doF (plF f (l.take k)) x1).2.text), .sl 1 false ((doF (plF f (l.take k)) x1).2.names.map txA)]]) (by have hw := pl_len_take (f := f) (l := l) (k := k) (by omega); simp only [List.length_map, List.length_cons, List.length_nil]; omega) (by have hw := pl_len_take (f := f) (l := l) (k := k) (by omega); simp only [List.length_map, List.length_cons, List.length_nil]; omega) fun V3 =>
 .r 1 <| .run 3 [rng .i64 ((k : Int) + 1)] ⟨rng64 (by omega) (by omega), trivial⟩ <|
 .back L1 (k, V) ((k + 1), V3) (show (k + 1) ≤ l.length from (by show _ ≤ _; omega)) (show l.length - (k + 1) < l.length - k from (by omega)) ⟨[(1, .sl 8 false (l.map calA)), (2, .ptr 2 b1 0), (4, .ptr 4 b2 0), (7, aI ((k : Int) + 1)), (6, .rw 6 V3 (((plR f (l.take k)).map repA).length + ([[aI ((doF (plF f (l.take k)) x1).2.e), aI ((doF (plF f (l.take k)) x1).2.a), aI ((doF (plF f (l.take k)) x1).2.b), aI ((doF (plF f (l.take k)) x1).2.n), aS ((doF (plF f (l.take k)) x1).2.text), .sl 1 false ((doF (plF f (l.take k)) x1).2.names.map txA)]] : List (List AV)).length))], [(2, .box b1 24 [.sl 5 false ((doF (plF f (l.take k)) x1).1.l.map nodA), aI ((doF (plF f (l.take k)) x1).1.next)]), (4, .box b2 24 [aN, aI 0]), (6, .row V3 30 6 (((plR f (l.take k)).map repA) ++ ([[aI ((doF (plF f (l.take k)) x1).2.e), aI ((doF (plF f (l.take k)) x1).2.a), aI ((doF (plF f (l.take k)) x1).2.b), aI ((doF (plF f (l.take k)) x1).2.n), aS ((doF (plF f (l.take k)) x1).2.text), .sl 1 false ((doF (plF f (l.take k)) x1).2.names.map txA)]])))]⟩ ⟨sR, sR, sR, Sub.of_eq (congrArg aI (by first | omega | rfl)), Sub.of_eq (congrArg (AV.rw 6 V3) (by rw [plR_step hx1]; simp)), trivial⟩ ⟨⟨_, rfl, SubB.of_eq (by rw [plF_step hx1])⟩, ⟨_, rfl, SubB.refl _⟩, ⟨_, rfl, SubB.of_eq (by rw [plR_step hx1]; simp [repA])⟩, trivial⟩)
 <| .new fun b9 => .pick [5, 6, 7, 8, 11, 12] <| .call (rdo_spec (plF f (l.take k)) x1 kp.ok okx1 kp.tree.rows (by omega) kp.tree (midF_ofN hf (by omega) kp) txx1) <|
 .run 5 [b7 = b7, b9 = b9] rt2 <|
 .run 2 [b7 = b7, b1 = b1] rt2 <|
 .run 3 [b9 = b9] rt1 <|
 .app 72 V ((plR f (l.take k)).map repA) ([[aI ((doF (plF f (l.take k)) x1).2.e), aI ((doF (plF f (l.take k)) x1).2.a), aI ((doF (plF f (l.take k)) x1).2.b), aI ((doF (plF f (l.take k)) x1).2.n), aS ((doF (plF f (l.take k)) x1).2.text), .sl 1 false ((doF (plF f (l.take k)) x1).2.names.map txA)]]) (by have hw := pl_len_take (f := f) (l := l) (k := k) (by omega); simp only [List.length_map, List.length_cons, List.length_nil]; omega) (by have hw := pl_len_take (f := f) (l := l) (k := k) (by omega); simp only [List.length_map, List.length_cons, List.length_nil]; omega) fun V4 =>
 .r 1 <| .run 3 [rng .i64 ((k : Int) + 1)] ⟨rng64 (by omega) (by omega), trivial⟩ <|
 .back L1 (k, V) ((k + 1), V4) (show (k + 1) ≤ l.length from (by show _ ≤ _; omega)) (show l.length - (k + 1) < l.length - k from (by omega)) ⟨[(1, .sl 8 false (l.map calA)), (2, .ptr 2 b1 0), (4, .ptr 4 b2 0), (7, aI ((k : Int) + 1)), (6, .rw 6 V4 (((plR f (l.take k)).map repA).length + ([[aI ((doF (plF f (l.take k)) x1).2.e), aI ((doF (plF f (l.take k)) x1).2.a), aI ((doF (plF f (l.take k)) x1).2.b), aI ((doF (plF f (l.take k)) x1).2.n), aS ((doF (plF f (l.take k)) x1).2.text), .sl 1 false ((doF (plF f (l.take k)) x1).2.names.map txA)]] : List (List AV)).length))], [(2, .box b1 24 [.sl 5 false ((doF (plF f (l.take k)) x1).1.l.map nodA), aI ((doF (plF f (l.take k)) x1).1.next)]), (4, .box b2 24 [aN, aI 0]), (6, .row V4 30 6 (((plR f (l.take k)).map repA) ++ ([[aI ((doF (plF f (l.take k)) x1).2.e), aI ((doF (plF f (l.take k)) x1).2.a), aI ((doF (plF f (l.take k)) x1).2.b), aI ((doF (plF f (l.take k)) x1).2.n), aS ((doF (plF f (l.take k)) x1).2.text), .sl 1 false ((doF (plF f (l.take k)) x1).2.names.map txA)]])))]⟩ ⟨sR, sR, sR, Sub.of_eq (congrArg aI (by first | omega | rfl)), Sub.of_eq (congrArg (AV.rw 6 V4) (by rw [plR_step hx1]; simp)), trivial⟩ ⟨⟨_, rfl, SubB.of_eq (by rw [plF_step hx1])⟩, ⟨_, rfl, SubB.refl _⟩, ⟨_, rfl, SubB.of_eq (by rw [plR_step hx1]; simp [repA])⟩, trivial⟩)
 <| .new fun b10 => .fork <| .alt (.call (rdo_spec (plF f (l.take k)) x1 kp.ok okx1 kp.tree.rows (by omega) kp.tree (midF_ofN hf (by omega) kp) txx1) <|
 .pick [6, 7, 8, 9, 11, 12] <| .r 3 <| .new fun b11 => .run 2 [b11 = b11, b10 = b10] rt2 <|
 .run 2 [b11 = b11, b1 = b1] rt2 <|
 .run 3 [b10 = b10] rt1 <|
 .app 72 V ((plR f (l.take k)).map repA) ([[aI ((doF (plF f (l.take k)) x1).2.e), aI ((doF (plF f (l.take k)) x1).2.a), aI ((doF (plF f (l.take k)) x1).2.b), aI ((doF (plF f (l.take k)) x1).2.n), aS ((doF (plF f (l.take k)) x1).2.text), .sl 1 false ((doF (plF f (l.take k)) x1).2.names.map txA)]]) (by have hw := pl_len_take (f := f) (l := l) (k := k) (by omega); simp only [List.length_map, List.length_cons, List.length_nil]; omega) (by have hw := pl_len_take (f := f) (l := l) (k := k) (by omega); simp only [List.length_map, List.length_cons, List.length_nil]; omega) fun V5 =>
 .r 1 <| .run 3 [rng .i64 ((k : Int) + 1)] ⟨rng64 (by omega) (by omega), trivial⟩ <|
 .back L1 (k, V) ((k + 1), V5) (show (k + 1) ≤ l.length from (by show _ ≤ _; omega)) (show l.length - (k + 1) < l.length - k from (by omega)) ⟨[(1, .sl 8 false (l.map calA)), (2, .ptr 2 b1 0), (4, .ptr 4 b2 0), (7, aI ((k : Int) + 1)), (6, .rw 6 V5 (((plR f (l.take k)).map repA).length + ([[aI ((doF (plF f (l.take k)) x1).2.e), aI ((doF (plF f (l.take k)) x1).2.a), aI ((doF (plF f (l.take k)) x1).2.b), aI ((doF (plF f (l.take k)) x1).2.n), aS ((doF (plF f (l.take k)) x1).2.text), .sl 1 false ((doF (plF f (l.take k)) x1).2.names.map txA)]] : List (List AV)).length))], [(2, .box b1 24 [.sl 5 false ((doF (plF f (l.take k)) x1).1.l.map nodA), aI ((doF (plF f (l.take k)) x1).1.next)]), (4, .box b2 24 [aN, aI 0]), (6, .row V5 30 6 (((plR f (l.take k)).map repA) ++ ([[aI ((doF (plF f (l.take k)) x1).2.e), aI ((doF (plF f (l.take k)) x1).2.a), aI ((doF (plF f (l.take k)) x1).2.b), aI ((doF (plF f (l.take k)) x1).2.n), aS ((doF (plF f (l.take k)) x1).2.text), .sl 1 false ((doF (plF f (l.take k)) x1).2.names.map txA)]])))]⟩ ⟨sR, sR, sR, Sub.of_eq (congrArg aI (by first | omega | rfl)), Sub.of_eq (congrArg (AV.rw 6 V5) (by rw [plR_step hx1]; simp)), trivial⟩ ⟨⟨_, rfl, SubB.of_eq (by rw [plF_step hx1])⟩, ⟨_, rfl, SubB.refl _⟩, ⟨_, rfl, SubB.of_eq (by rw [plR_step hx1]; simp [repA])⟩, trivial⟩)
 <| .new fun b12 => .pick [5, 6, 7, 8, 11, 12] <| .call (rdo_spec (plF f (l.take k)) x1 kp.ok okx1 kp.tree.rows (by omega) kp.tree (midF_ofN hf (by omega) kp) txx1) <|
 .run 5 [b12 = b12, b10 = b10] rt2 <|
 .run 2 [b12 = b12, b1 = b1] rt2 <|
 .run 3 [b10 = b10] rt1 <|
 .app 72 V ((plR f (l.take k)).map repA) ([[aI ((doF (plF f (l.take k)) x1).2.e), aI ((doF (plF f (l.take k)) x1).2.a), aI ((doF (plF f (l.take k)) x1).2.b), aI ((doF (plF f (l.take k)) x1).2.n), aS ((doF (plF f (l.take k)) x1).2.text), .sl 1 false ((doF (plF f (l.take k)) x1).2.names.map txA)]]) (by have hw := pl_len_take (f := f) (l := l) (k := k) (by omega); simp only [List.length_map, List.length_cons, List.length_nil]; omega) (by have hw := pl_len_take (f := f) (l := l) (k := k) (by omega); simp only [List.length_map, List.length_cons, List.length_nil]; omega) fun V6 =>
 .r 1 <| .run 3 [rng .i64 ((k : Int) + 1)] ⟨rng64 (by omega) (by omega), trivial⟩ <|
 .back L1 (k, V) ((k + 1), V6) (show (k + 1) ≤ l.length from (by show _ ≤ _; omega)) (show l.length - (k + 1) < l.length - k from (by omega)) ⟨[(1, .sl 8 false (l.map calA)), (2, .ptr 2 b1 0), (4, .ptr 4 b2 0), (7, aI ((k : Int) + 1)), (6, .rw 6 V6 (((plR f (l.take k)).map repA).length + ([[aI ((doF (plF f (l.take k)) x1).2.e), aI ((doF (plF f (l.take k)) x1).2.a), aI ((doF (plF f (l.take k)) x1).2.b), aI ((doF (plF f (l.take k)) x1).2.n), aS ((doF (plF f (l.take k)) x1).2.text), .sl 1 false ((doF (plF f (l.take k)) x1).2.names.map txA)]] : List (List AV)).length))], [(2, .box b1 24 [.sl 5 false ((doF (plF f (l.take k)) x1).1.l.map nodA), aI ((doF (plF f (l.take k)) x1).1.next)]), (4, .box b2 24 [aN, aI 0]), (6, .row V6 30 6 (((plR f (l.take k)).map repA) ++ ([[aI ((doF (plF f (l.take k)) x1).2.e), aI ((doF (plF f (l.take k)) x1).2.a), aI ((doF (plF f (l.take k)) x1).2.b), aI ((doF (plF f (l.take k)) x1).2.n), aS ((doF (plF f (l.take k)) x1).2.text), .sl 1 false ((doF (plF f (l.take k)) x1).2.names.map txA)]])))]⟩ ⟨sR, sR, sR, Sub.of_eq (congrArg aI (by first | omega | rfl)), Sub.of_eq (congrArg (AV.rw 6 V6) (by rw [plR_step hx1]; simp)), trivial⟩ ⟨⟨_, rfl, SubB.of_eq (by rw [plF_step hx1])⟩, ⟨_, rfl, SubB.refl _⟩, ⟨_, rfl, SubB.of_eq (by rw [plR_step hx1]; simp [repA])⟩, trivial⟩)
 <| fun q1 => have p1 := decF q1; .run 4 [b1 = b1, b2 = b2] rt2 <|
 .frz 6 [4, 5] [4] [V = V, (plR f (l.take k)).length = ((plR f (l.take k)).map repA).length] ⟨rfl, (by first | rfl | (simp; done) | (simp; omega)), trivial⟩ <|
 .fin (x := .tup [.agg [.sl 5 false ((plF f (l.take k)).l.map nodA), aI ((plF f (l.take k)).next)], .sl 6 false ((plR f (l.take k)).map repA)]) (r := .tup [.agg (fsyA (plF f l)), .sl 6 false ((plR f l).map repA)]) [b2 = b2] rt1 (by
  rw [show l.take k = l from take_all (by omega)]
  first | exact sR | exact Sub.tups ⟨sR, Sub.loose _ _ _, trivial⟩)) a1.1 a1.2 ha1) Tryz.func25 rfl (by kernel_rfl) (by kernel_rfl)
structure Pls where
 f : Fsy
 l : List Cal
 g : Fsy
 next : Int
def plsA (a : Pls) : List AV := [.sl 5 false (a.f.l.map nodA), aI a.f.next, .sl 8 false (a.l.map calA), .sl 5 false (a.g.l.map nodA), aI a.g.next, aI a.next]
structure OkPls (a : Pls) : Prop where
 f : OkF a.f
 len : a.l.length ≤ 8796093022207
 l : ∀ c ∈ a.l, OkC0 c
 g : OkF a.g
 next : I64 a.next
theorem opsPlays_data (f : Fsy) (l : List Cal) (g : Fsy) (next : Int) (okf : OkF f) (hll : l.length ≤ 8796093022207) (okl : ∀ c ∈ l, OkC0 c) (okg : OkF g) (hnx : I64 next) : FSpec Tryz.prog 4 [.agg [.sl 5 false (f.l.map nodA), aI f.next, .sl 8 false (l.map calA), .sl 5 false (g.l.map nodA), aI g.next, aI next]] (aB true) := by
 exact spec_vc (F := Tryz.f4) 400 (
 .new fun b1 => .r 1 <| .run 2 [b1 = b1] rt1 <|
 .new fun b2 => .run 1 [b2 = b2] rt1 <|
 .run 3 [b1 = b1] rt1 <|
 .run 2 [b1 = b1] rt1 <|
 .new fun b3 => .run 1 [b3 = b3] rt1 <|
 .run 3 [b1 = b1] rt1 <|
 .call (shown11) <|
 .r 1 <| .run 1 [b2 = b2] rt1 <|
 .call (few11 f okf) <|
 .r 1 <| .r 3 <| .br 29 (!(dP (fewF f ∧ rightP f ∧ f.next < 1152921504606846976))) (fun q1 => have q1 := notT q1; have p1 := booF q1; .r 19 <| .r 2 <| .fin (x := aB true) (r := aB true) [] trivial (by exact Sub.of_eq (by first | rfl | exact congrArg aB (dP_true.2 rfl) | (refine congrArg aB ?_; simp; done))))
 <| fun q1 => have q1 := notF q1; have p1 := booT q1; have hfr := dP_true.1 q1; have hp := hfr.2.1.1; have hrf := rows_rise hp; have hlf := hp.1; have hx := hfr.2.2; have T := rightP_tree hfr.1 hfr.2.1; .r 1 <| .call (small_spec l hll okl) <|
 .r 3 <| .br 34 (!(dP (smallP l))) (fun q2 => have q2 := notT q2; have p2 := booF q2; .r 14 <| .r 2 <| .fin (x := aB true) (r := aB true) [] trivial (by exact Sub.of_eq (by first | rfl | exact congrArg aB (dP_true.2 rfl) | (refine congrArg aB ?_; simp; done))))
 <| fun q2 => have q2 := notF q2; have p2 := booT q2; have hsm := dP_true.1 q2; have hsl := hsm.2; have oka : ∀ c ∈ l, OkCal c := (fun c hc => small_ok hsm hc (okl c hc)); have otx : ∀ c ∈ l, c.text.length ≤ 500000 := (fun c hc => Nat.le_trans (small_txt hsm hc).2.2 (by decide)); have kp0 := kept_pl okf T (l := l) (by omega) oka (by omega) l.length (Nat.le_refl _); have kp : KeptN f (plF f l) l.length := (by rwa [List.take_length] at kp0); have nr0 := pl_names okf T oka (by omega); have nrr : ∀ r ∈ plR f l, r.names.length ≤ 1000000 := (fun r hr => Nat.le_trans (nr0 r hr) (by decide)); .run 1 [b3 = b3] rt1 <|
 .call (few_spec g okg) <|
 .r 3 <| .br 39 (!(dP (fewF g))) (fun q3 => have q3 := notT q3; have p3 := booF q3; .r 9 <| .r 2 <| .fin (x := aB true) (r := aB true) [] trivial (by exact Sub.of_eq (by first | rfl | exact congrArg aB (dP_true.2 rfl) | (refine congrArg aB ?_; simp; done))))
 <| fun q3 => have q3 := notF q3; have p3 := booT q3; .run 1 [b3 = b3] rt1 <|
 .call (rrows_spec g okg) <|
 .r 3 <| .br 44 (!(dP (rowsP g))) (fun q4 => have q4 := notT q4; have p4 := booF q4; .r 4 <| .r 2 <| .fin (x := aB true) (r := aB true) [] trivial (by exact Sub.of_eq (by first | rfl | exact congrArg aB (dP_true.2 rfl) | (refine congrArg aB ?_; simp; done))))
 <| fun q4 => have q4 := notF q4; have p4 := booT q4; have hpg := dP_true.1 q4; have hlg := hpg.1; have hrg := rows_rise hpg; have hgn : ∀ n ∈ g.l, n.ino < g.next := fun n hn => ((rowsP_iff.1 hpg).2.2.1 n hn).2; .run 4 [b3 = b3] rt1 <|
 .br 48 (decide (g.next ≥ 1152921504606846976)) (fun q5 => have p5 := decT q5; .r 2 <| .fin (x := aB true) (r := aB true) [] trivial (by exact Sub.of_eq (by first | rfl | exact congrArg aB (dP_true.2 rfl) | (refine congrArg aB ?_; simp; done))))
 <| fun q5 => have p5 := decF q5; have hgb : ¬ g.next ≥ 1152921504606846976 := (by omega); have hap := changes_ap (f := f) okg (fun n hn => by have := hgn n hn; omega); have hlen : (plF f l).l.length + (changesD f g).length ≤ 80000 := (by have := changes_len f g; have := kp.tree.rows.1; omega); have apo := (apply_ok kp.ok (rows_rise kp.tree.rows) hlen hap hnx).1; .run 2 [b2 = b2] rt1 <|
 .call (play_spec f l okf T (by omega) oka (by omega)) <|
 .r 3 <| .new fun b4 => .run 2 [b4 = b4] rt1 <|
 .run 2 [b2 = b2] rt1 <|
 .call (rplay_spec f l okf T hfr.1 (by omega) oka otx (by omega)) <|
 .r 3 <| .new fun b5 => .run 2 [b5 = b5] rt1 <|
 .run 2 [b2 = b2, b3 = b3] rt2 <|
 .call (ochanges_spec f g okf okg (by omega) (by omega) hrf hrg) <|
 .r 1 <| .run 2 [b2 = b2, b3 = b3] rt2 <|
 .call (rchanges_spec f g okf okg (by omega) (by omega)) <|
 .r 1 <| .run 2 [b4 = b4, b5 = b5] rt2 <|
 .call (fsame_spec (plF f l) (plF f l) kp.ok kp.ok) <|
 .r 1 <| .is 71 (show (dP ((plF f l) = (plF f l))) = true from (dP_true.2 rfl)) <| .r 2 <| .call (all_spec (plR f l) (plR f l) (by rw [plR_len]; omega) (by rw [plR_len]; omega) nrr nrr) <|
 .r 2 <| .is 76 (show (dP ((plR f l) = (plR f l))) = true from (dP_true.2 rfl)) <| .r 2 <| .call (turns_spec (changesD f g) (changesD f g) (by have := changes_len f g; omega) (by have := changes_len f g; omega) hap hap) <|
 .r 2 <| .ord [0, 1, 2, 3, 4, 5, 6, 7, 9, 10, 11, 8, 12, 13, 14, 15] <| .r 5 <| .is 85 (show (dP ((changesD f g) = (changesD f g))) = true from (dP_true.2 rfl)) <| .run 6 [b4 = b4, b4 = b4] rt2 <|
 .call (oapply_spec (plF f l) (changesD f g) next kp.ok (rows_rise kp.tree.rows) hlen hap hnx) <|
 .call (rapply_spec (plF f l) (changesD f g) next kp.ok (rows_rise kp.tree.rows) hlen hap hnx) <|
 .call (fsame_spec (applyD (plF f l) (changesD f g) next) (applyD (plF f l) (changesD f g) next) apo apo) <|
 .r 2 <| .fin (x := aB (dP ((applyD (plF f l) (changesD f g) next) = (applyD (plF f l) (changesD f g) next)))) (r := aB true) [] trivial (by exact Sub.of_eq (by first | rfl | exact congrArg aB (dP_true.2 rfl) | (refine congrArg aB ?_; simp; done)))) Tryz.func4 rfl (by kernel_rfl) (by kernel_rfl)
theorem opsPlays_spec (a : Pls) (h : OkPls a) : FSpec Tryz.prog 4 [.agg (plsA a)] (aB true) := opsPlays_data a.f a.l a.g a.next h.f h.len h.l h.g h.next
end Go.Proofs.YtkhnialfkndiiaaGreat

namespace Copyhold
open Go Go.RowKit Go.ChangeShapes Go.WideShapes Go.ChangeAt Go.Deep
structure Opn {α : Type} (P : Program) (W : World) (t : TypeId) (en : α → List AV) (ok : α → Prop) : Prop where
 run : ∀ (H : Type) (enc : TypeId × Value → H) (fuel : Nat) (cs : List Value) (x : DataW H × List MemPlace),
  DataW.trod enc P W 0 (fun _ => true) true fuel t cs = some x → (∀ p ∈ x.2, p.block < W.heap.size) → (∀ n ∈ DataW.weights P t x.1, n ≤ 140737488351232) →
  ∃ a, CellsR (· < W.heap.size) W (en a) cs ∧ (∀ u ∈ cs, u.oneCell' = true) ∧ ok a
section
variable {P : Program} {W : World} {t : TypeId}
theorem Opn.map {α β : Type} {en : α → List AV} {ok : α → Prop} {en' : β → List AV} {ok' : β → Prop} (h : Opn P W t en ok) (f : α → β) (he : ∀ a, en' (f a) = en a) (ho : ∀ a, ok a → ok' (f a)) : Opn P W t en' ok' := Opn.mk fun H enc fuel cs x h1 h2 h3 => by
 obtain ⟨a, g1, g2, g3⟩ := h.run H enc fuel cs x h1 h2 h3
 exact ⟨f a, by rw [he]; exact g1, g2, ho a g3⟩
theorem cells_one {D : Nat → Prop} {w : World} {a : AV} {v : Value} (h : Ra D w a v) : CellsR D w [a] [v] := ⟨rfl, fun j x u hx hu => by
 match j, hx, hu with
 | 0, hx, hu => simp at hx hu; subst hx hu; exact h
 | j + 1, hx, _ => simp at hx⟩
theorem wf_i64 {z : Int} (w : (Lit.int .i64 z).wf = true) : -9223372036854775808 ≤ z ∧ z ≤ 9223372036854775807 := by
 simpa [Lit.wf, IntKind.min, IntKind.max, IntKind.signed, IntKind.bits] using w
theorem opn_int (hu : P.underlying t = some (.int .i64)) : Opn P W t (fun n : Int => [aI n]) (fun n => -9223372036854775808 ≤ n ∧ n ≤ 9223372036854775807) := Opn.mk fun H enc fuel cs x h1 h2 h3 => by
 obtain ⟨n, rfl, rfl, hw⟩ := DataW.trod_int hu h1
 exact ⟨n, cells_one (.val _), fun u hu => by obtain rfl := List.mem_singleton.1 hu; rfl, wf_i64 hw⟩
theorem opn_string (hu : P.underlying t = some .string) : Opn P W t (fun n : List UInt8 => [aS n]) (fun n => n.length ≤ 140737488351232) := Opn.mk fun H enc fuel cs x h1 h2 h3 => by
 obtain ⟨s, rfl, rfl, _⟩ := DataW.trod_string hu h1
 exact ⟨s.data.toList, cells_one (.val _), fun u hu => by obtain rfl := List.mem_singleton.1 hu; rfl, h3 _ (by simp [DataW.weights])⟩
theorem opn_slice {α : Type} {en : α → List AV} {ok : α → Prop} {e : TypeId} {k : Nat} (h : Opn P W e en ok) (a0 : α) (hu : P.underlying t = some (.slice e)) (hc : P.cellsOf e = k) (hk : 0 < k) (hb : 16 ≤ P.bytesOf e) :
  Opn P W t (fun l : List α => [.sl k false (l.map en)]) (fun l => l.length ≤ 8796093022207 ∧ ∀ a ∈ l, ok a) := Opn.mk fun H enc fuel cs x h1 h2 h3 => by
 obtain ⟨v, rs, rfl, hr, hd⟩ := open_slice_of (k := k) (R := fun a cs => CellsR (· < W.heap.size) W (en a) cs ∧ (∀ u ∈ cs, u.oneCell' = true) ∧ ok a) hu hc hk a0 (fun n cs' y hy hl hcl hww => h.run H enc n cs' y hy hl hww) h1 h2 h3
 have hsz := rows_sized hu hd h3
 have := Nat.le_trans (Nat.mul_le_mul_left rs.length hb) hsz
 have hra : Ra (· < W.heap.size) W (.sl k false (rs.map en)) v := ra_of_slOf hr (· < W.heap.size) (fun _ h => h) (fun a _ cs _ hR => ⟨hR.2.1, hR.1⟩)
 obtain ⟨A, c, rfl⟩ := hr.shape
 refine ⟨rs, cells_one hra, fun u hu => by obtain rfl := List.mem_singleton.1 hu; rfl, by omega, fun a ha => ?_⟩
 obtain ⟨css, g1, g2, g3⟩ := hr
 obtain ⟨i, hi, rfl⟩ := List.mem_iff_getElem.1 ha
 exact (g3 i _ _ (List.getElem?_eq_getElem (by omega)) (List.getElem?_eq_getElem hi)).2.2.2
structure OpnFs {γ : Type} (P : Program) (W : World) (N : Nat) (fs : List Field) (off : Nat) (en : γ → List AV) (ok : γ → Prop) : Prop where
 run : ∀ (H : Type) (enc : TypeId × Value → H) (m : Nat) (cs : List Value) (xs : List (DataW H × List MemPlace)), cs.length = N → xs.length = fs.length →
  (∀ (i : Nat) (f : Field), fs[i]? = some f → DataW.trod enc P W 0 (fun _ => true) true m f.type ((cs.drop f.offset).take (P.cellsOf f.type)) = xs[i]?) →
  (∀ x ∈ xs, ∀ p ∈ x.2, p.block < W.heap.size) → (∀ n ∈ DataW.weightsEach P (fs.map (·.type)) (xs.map (·.1)), n ≤ 140737488351232) →
  ∃ g, CellsR (· < W.heap.size) W (en g) (cs.drop off) ∧ (∀ u ∈ cs.drop off, u.oneCell' = true) ∧ ok g
theorem opnF_nil (N : Nat) : OpnFs P W N [] N (fun _ : Unit => []) (fun _ => True) := OpnFs.mk fun H enc m cs xs h1 h2 h3 h4 h5 => by
 have : cs.drop N = [] := List.drop_eq_nil_of_le (by omega)
 rw [this]
 exact ⟨(), ⟨rfl, fun j a u ha => by simp at ha⟩, fun u hu => by simp at hu, trivial⟩
theorem cells_append {D : Nat → Prop} {w : World} {xs ys : List AV} {cs ds : List Value} (h : CellsR D w xs cs) (k : CellsR D w ys ds) : CellsR D w (xs ++ ys) (cs ++ ds) := by
 refine ⟨by simp [h.1, k.1], fun j a u ha hu => ?_⟩
 by_cases hj : j < xs.length
 ·rw [List.getElem?_append_left hj] at ha
  rw [List.getElem?_append_left (by rw [h.1]; exact hj)] at hu
  exact h.2 j a u ha hu
 ·rw [List.getElem?_append_right (by omega)] at ha
  rw [List.getElem?_append_right (by rw [h.1]; omega), h.1] at hu
  exact k.2 _ a u ha hu
theorem opnF_cons {α γ : Type} {N off k : Nat} {f : Field} {fs : List Field} {en : α → List AV} {ok : α → Prop} {en2 : γ → List AV} {ok2 : γ → Prop} (h : Opn P W f.type en ok) (ho : f.offset = off) (hk : P.cellsOf f.type = k)
  (hr : OpnFs P W N fs (off + k) en2 ok2) : OpnFs P W N (f :: fs) off (fun g : α × γ => en g.1 ++ en2 g.2) (fun g => ok g.1 ∧ ok2 g.2) := OpnFs.mk fun H enc m cs xs h1 h2 h3 h4 h5 => by
 obtain ⟨x0, xr, rfl⟩ : ∃ a r, xs = a :: r := by
  cases xs with
  | nil => simp at h2
  | cons a r => exact ⟨a, r, rfl⟩
 have g0 := h3 0 f rfl
 rw [ho, hk] at g0
 simp only [List.map_cons, DataW.weightsEach] at h5
 obtain ⟨a, ha, ha2, ha3⟩ := h.run H enc m _ x0 (by simpa using g0) (h4 x0 (by simp)) (fun n hn => h5 n (by simp [hn]))
 obtain ⟨g, hg, hg2, hg3⟩ := hr.run H enc m cs xr h1 (by simpa using h2) (fun i f' hf => by have := h3 (i + 1) f' (by simpa using hf); simpa using this) (fun x hx => h4 x (by simp [hx])) (fun n hn => h5 n (by simp [hn]))
 have e : cs.drop off = (cs.drop off).take k ++ cs.drop (off + k) := by
  rw [← List.drop_drop, List.take_append_drop]
 refine ⟨(a, g), ?_, ?_, ha3, hg3⟩
 ·rw [e]; exact cells_append ha hg
 ·intro u hu
  rw [e] at hu
  rcases List.mem_append.1 hu with h | h
  ·exact ha2 u h
  ·exact hg2 u h
theorem opn_struct {γ : Type} {N : Nat} {fs : Array Field} {en : γ → List AV} {ok : γ → Prop} (hu : P.underlying t = some (.struct fs)) (hc : P.cellsOf t = N) (h : OpnFs P W N fs.toList 0 en ok) : Opn P W t en ok := Opn.mk fun H enc fuel cs x h1 h2 h3 => by
 obtain ⟨xs, m, _, rfl, hl, hlen, hfl⟩ := DataW.trod_struct hu h1
 obtain ⟨g, g1, g2, g3⟩ := h.run H enc m cs xs (by rw [hl, hc]) (by simpa using hlen) (fun i f hf => hfl i f (by simpa using hf)) (fun x hx p hp => h2 p (by simp only [List.mem_flatMap]; exact ⟨x, hx, hp⟩))
  (fun n hn => h3 n (by simp only [DataW.weights, hu]; exact hn))
 exact ⟨g, by simpa using g1, by simpa using g2, g3⟩
theorem arg_struct {α : Type} {en : α → List AV} {ok : α → Prop} {fs : Array Field} {H : Type} {enc : TypeId × Value → H} {base : Nat} {v : Value} {d : DataW H} {p : List MemPlace} (h : Opn P W t en ok) (hu : P.underlying t = some (.struct fs)) (hv : Value.okWide P W .any base t v)
  (ht : ∃ fuel, DataW.trod enc P W 0 (fun _ => true) true fuel t v.cells.toList = some (d, p)) (hlt : ∀ x ∈ p, x.block < W.heap.size) (hw : ∀ n ∈ DataW.weights P t d, n ≤ 140737488351232) : ∃ a, Ra (· < W.heap.size) W (.agg (en a)) v ∧ ok a := by
 obtain ⟨cs, rfl, _⟩ := okWide_struct hu hv
 obtain ⟨fuel, ht⟩ := ht
 obtain ⟨a, g1, g2, g3⟩ := h.run H enc fuel _ _ ht hlt hw
 refine ⟨a, .agg _ _ (by have := g1.1; simp [Value.cells] at this; omega) (fun j u hj => g2 u (by have := Array.mem_of_getElem? hj; simpa [Value.cells] using this)) (fun j x u hx hj => g1.2 j x u hx (by simpa [Value.cells] using hj)), g3⟩
def RaL (D : Nat → Prop) (w : World) : List AV → List Value → Prop
 | [], [] => True
 | x :: xs, v :: vs => Ra D w x v ∧ RaL D w xs vs
 | _, _ => False
theorem raAllL {D : Nat → Prop} {w : World} : ∀ (xs : List AV) (vs : List Value), RaL D w xs vs → RaAll D w xs vs.toArray
 | [], [], _ => ⟨rfl, fun j a u ha => by simp at ha⟩
 | x :: xs, v :: vs, h => by
  have ih := raAllL xs vs h.2
  refine ⟨by have := ih.1; simp at this ⊢; exact this, fun j a u ha hu => ?_⟩
  cases j with
  | zero => simp at ha hu; subst ha hu; exact h.1
  | succ j => exact ih.2 j a u (by simpa using ha) (by simpa using hu)
 | [], _ :: _, h => h.elim
 | _ :: _, [], h => h.elim
theorem law_callsV {f : FuncId} {args : List AV} {vs : Array Value} {w : World} (h : FSpec P f args (aB true)) (hv : RaAll (· < w.heap.size) w args vs) :
  Calls P f vs w (fun e w' => e = .returned (.bool true) ∧ Below w.heap.size w w') := by
 refine (h _ w vs (fun _ h => h) hv).mono ?_
 rintro e w' ⟨v, D', rfl, hb, _, _, hr⟩
 cases hr
 exact ⟨rfl, hb⟩
end
end Copyhold

namespace Go.Proofs.YtkhnialfkndiiaaGreat
open Go Go.RowKit Copyhold
theorem opv_ent (W : World) : Opn Tryz.prog W 101 entA OkE :=
 (opn_struct (N := 2) Tryz.underlying101 (by kernel_rfl) (opnF_cons (k := 1) (opn_string Tryz.underlying9) rfl (by kernel_rfl) (opnF_cons (k := 1) (opn_int Tryz.underlying3) rfl (by kernel_rfl) (opnF_nil 2)))).map (fun g => ⟨g.1, g.2.1⟩) (fun _ => rfl) (fun a h => ⟨h.1, h.2.1⟩)
theorem opv_ents (W : World) : Opn Tryz.prog W 57 (fun l : List (Ent) => [.sl 2 false (l.map entA)]) (fun l => l.length ≤ 8796093022207 ∧ ∀ a ∈ l, OkE a) := opn_slice (opv_ent W) (⟨[], 0⟩) Tryz.underlying57 (by kernel_rfl) (by decide) (Nat.le_of_ble_eq_true (by kernel_rfl))
theorem opv_nod (W : World) : Opn Tryz.prog W 59 nodA OkN :=
 (opn_struct (N := 5) Tryz.underlying59 (by kernel_rfl) (opnF_cons (k := 1) (opn_int Tryz.underlying3) rfl (by kernel_rfl) (opnF_cons (k := 1) (opn_int Tryz.underlying3) rfl (by kernel_rfl) (opnF_cons (k := 1) (opn_int Tryz.underlying3) rfl (by kernel_rfl) (opnF_cons (k := 1) (opn_string Tryz.underlying9) rfl (by kernel_rfl) (opnF_cons (k := 1) (opv_ents W) rfl (by kernel_rfl) (opnF_nil 5))))))).map (fun g => ⟨g.1, g.2.1, g.2.2.1, g.2.2.2.1, g.2.2.2.2.1⟩) (fun _ => rfl) (fun a h => ⟨h.1, h.2.1, h.2.2.1, h.2.2.2.1, h.2.2.2.2.1.1, h.2.2.2.2.1.2⟩)
theorem opv_nods (W : World) : Opn Tryz.prog W 22 (fun l : List (Nod) => [.sl 5 false (l.map nodA)]) (fun l => l.length ≤ 8796093022207 ∧ ∀ a ∈ l, OkN a) := opn_slice (opv_nod W) (⟨0, 0, 0, [], []⟩) Tryz.underlying22 (by kernel_rfl) (by decide) (Nat.le_of_ble_eq_true (by kernel_rfl))
theorem opv_fsy (W : World) : Opn Tryz.prog W 24 fsyA OkF :=
 (opn_struct (N := 2) Tryz.underlying24 (by kernel_rfl) (opnF_cons (k := 1) (opv_nods W) rfl (by kernel_rfl) (opnF_cons (k := 1) (opn_int Tryz.underlying3) rfl (by kernel_rfl) (opnF_nil 2)))).map (fun g => ⟨g.1, g.2.1⟩) (fun _ => rfl) (fun a h => ⟨h.2.1, h.1.1, h.1.2⟩)
end Go.Proofs.YtkhnialfkndiiaaGreat

namespace Go.Proofs.YtkhnialfkndiiaaGreat
open Go Go.RowKit Copyhold
theorem opv_cal (W : World) : Opn Tryz.prog W 26 calA OkC0 :=
 (opn_struct (N := 8) Tryz.underlying26 (by kernel_rfl) (opnF_cons (k := 1) (opn_int Tryz.underlying3) rfl (by kernel_rfl) (opnF_cons (k := 1) (opn_int Tryz.underlying3) rfl (by kernel_rfl) (opnF_cons (k := 1) (opn_int Tryz.underlying3) rfl (by kernel_rfl) (opnF_cons (k := 1) (opn_int Tryz.underlying3) rfl (by kernel_rfl) (opnF_cons (k := 1) (opn_int Tryz.underlying3) rfl (by kernel_rfl) (opnF_cons (k := 1) (opn_string Tryz.underlying9) rfl (by kernel_rfl) (opnF_cons (k := 1) (opn_string Tryz.underlying9) rfl (by kernel_rfl) (opnF_cons (k := 1) (opn_string Tryz.underlying9) rfl (by kernel_rfl) (opnF_nil 8)))))))))).map (fun g => ⟨g.1, g.2.1, g.2.2.1, g.2.2.2.1, g.2.2.2.2.1, g.2.2.2.2.2.1, g.2.2.2.2.2.2.1, g.2.2.2.2.2.2.2.1⟩) (fun _ => rfl) (fun a h => ⟨h.1, h.2.1, h.2.2.1, h.2.2.2.1, h.2.2.2.2.1, h.2.2.2.2.2.1, h.2.2.2.2.2.2.1, h.2.2.2.2.2.2.2.1⟩)
theorem opv_cals (W : World) : Opn Tryz.prog W 34 (fun l : List (Cal) => [.sl 8 false (l.map calA)]) (fun l => l.length ≤ 8796093022207 ∧ ∀ a ∈ l, OkC0 a) := opn_slice (opv_cal W) (⟨0, 0, 0, 0, 0, [], [], []⟩) Tryz.underlying34 (by kernel_rfl) (by decide) (Nat.le_of_ble_eq_true (by kernel_rfl))
theorem opv_pls (W : World) : Opn Tryz.prog W 44 plsA OkPls :=
 (opn_struct (N := 6) Tryz.underlying44 (by kernel_rfl) (opnF_cons (k := 2) (opv_fsy W) rfl (by kernel_rfl) (opnF_cons (k := 1) (opv_cals W) rfl (by kernel_rfl) (opnF_cons (k := 2) (opv_fsy W) rfl (by kernel_rfl) (opnF_cons (k := 1) (opn_int Tryz.underlying3) rfl (by kernel_rfl) (opnF_nil 6)))))).map (fun g => ⟨g.1, g.2.1, g.2.2.1, g.2.2.2.1⟩) (fun _ => rfl) (fun a h => ⟨h.1, h.2.1.1, h.2.1.2, h.2.2.1, h.2.2.2.1⟩)
end Go.Proofs.YtkhnialfkndiiaaGreat
