/- ref18.Right, law18.good. -/
import Derived.Test.YtpdedjbkfcaebaaCliN2
set_option linter.unusedVariables false
set_option linter.unusedSimpArgs false
namespace Go.Proofs.Ytpdedjbkfcaebaa
open Go.RowKit Copyhold
def goodB (x : Cli) : Bool := fewB x && decide (RightP x)
def SeqsK (l : List Don) (k : Nat) : Prop := ∀ i (h : i < l.length), i < k → l[i].seq = (i : Int) + 1
theorem seqs_more {l : List Don} {k : Nat} {d : Don} (h : SeqsK l k) (hd : l[k]? = some d) (he : d.seq = (k : Int) + 1) : SeqsK l (k + 1) := fun i hi hk => by
  by_cases hik : i < k
  · exact h i hi hik
  · obtain rfl : i = k := by omega
    obtain ⟨h1, h2⟩ := List.getElem?_eq_some_iff.1 hd
    rw [h2]; exact he
theorem seqs_all {l : List Don} {k : Nat} (h : SeqsK l k) (hk : l.length ≤ k) : Seqs l := fun i hi => h i hi (by omega)
def zRg1 (x : Cli) : List AV := [aI x.me, aI x.epoch, aI x.seq, .sl 1 false (x.jobs.map jobA), aI x.phase, aI x.n, aI x.stamp, .sl 4 false (x.told.map donA), .sl 6 false (x.now.map repA)]
def zRg2 (b1 : Nat) (x : Cli) : LS := ⟨[(1, .ptr 1 b1 0), (2, aB false)], [(1, .box b1 26 (zRg1 x))]⟩
def zRg3 (b1 : Nat) (x : Cli) : LS := ⟨[(1, .ptr 1 b1 0), (2, aB (x.n == ((jobOf x).length : Int))), (116, .ptr 1 b1 4), (117, aI x.phase), (118, aB (x.phase == 0)), (119, aB true), (120, .ptr 1 b1 5), (121, aI x.n), (122, aB (x.n == 0)), (123, aB (x.n == 0)), (124, aB false), (125, .ptr 1 b1 4), (126, aI x.phase), (127, aB (x.phase == 1)), (128, aB true), (129, .ptr 1 b1 5), (130, aI x.n), (131, .agg (zRg1 x)), (132, aI ((jobOf x).length : Int)), (133, aB (decide (x.n < ((jobOf x).length : Int)))), (134, aB (decide (x.n < ((jobOf x).length : Int)))), (135, aB (decide (x.n < ((jobOf x).length : Int)))), (136, aB false), (137, .ptr 1 b1 4), (138, aI x.phase), (139, aB (x.phase == 2)), (140, aB true), (141, .ptr 1 b1 5), (142, aI x.n), (143, .agg (zRg1 x)), (144, aI ((jobOf x).length : Int)), (145, aB (x.n == ((jobOf x).length : Int))), (146, aB (x.n == ((jobOf x).length : Int))), (147, aB (x.n == ((jobOf x).length : Int)))], [(1, .box b1 26 (zRg1 x))]⟩
def zRg4 (b1 : Nat) (x : Cli) : LS := ⟨[(1, .ptr 1 b1 0), (2, aB (x.n == ((jobOf x).length : Int))), (116, .ptr 1 b1 4), (117, aI x.phase), (118, aB (x.phase == 0)), (119, aB false), (120, .val undef), (121, .val undef), (122, .val undef), (123, aB false), (124, aB false), (125, .ptr 1 b1 4), (126, aI x.phase), (127, aB (x.phase == 1)), (128, aB true), (129, .ptr 1 b1 5), (130, aI x.n), (131, .agg (zRg1 x)), (132, aI ((jobOf x).length : Int)), (133, aB (decide (x.n < ((jobOf x).length : Int)))), (134, aB (decide (x.n < ((jobOf x).length : Int)))), (135, aB (decide (x.n < ((jobOf x).length : Int)))), (136, aB false), (137, .ptr 1 b1 4), (138, aI x.phase), (139, aB (x.phase == 2)), (140, aB true), (141, .ptr 1 b1 5), (142, aI x.n), (143, .agg (zRg1 x)), (144, aI ((jobOf x).length : Int)), (145, aB (x.n == ((jobOf x).length : Int))), (146, aB (x.n == ((jobOf x).length : Int))), (147, aB (x.n == ((jobOf x).length : Int)))], [(1, .box b1 26 (zRg1 x))]⟩
def zRg5 (b1 : Nat) (x : Cli) : LS := ⟨[(1, .ptr 1 b1 0), (2, aB (x.n == ((jobOf x).length : Int))), (116, .ptr 1 b1 4), (117, aI x.phase), (118, aB (x.phase == 0)), (119, aB true), (120, .ptr 1 b1 5), (121, aI x.n), (122, aB (x.n == 0)), (123, aB (x.n == 0)), (124, aB false), (125, .ptr 1 b1 4), (126, aI x.phase), (127, aB (x.phase == 1)), (128, aB false), (129, .val undef), (130, .val undef), (131, .val undef), (132, .val undef), (133, .val undef), (134, aB false), (135, aB false), (136, aB false), (137, .ptr 1 b1 4), (138, aI x.phase), (139, aB (x.phase == 2)), (140, aB true), (141, .ptr 1 b1 5), (142, aI x.n), (143, .agg (zRg1 x)), (144, aI ((jobOf x).length : Int)), (145, aB (x.n == ((jobOf x).length : Int))), (146, aB (x.n == ((jobOf x).length : Int))), (147, aB (x.n == ((jobOf x).length : Int)))], [(1, .box b1 26 (zRg1 x))]⟩
def zRg6 (b1 : Nat) (x : Cli) : LS := ⟨[(1, .ptr 1 b1 0), (2, aB false), (116, .ptr 1 b1 4), (117, aI x.phase), (118, aB (x.phase == 0)), (119, aB true), (120, .ptr 1 b1 5), (121, aI x.n), (122, aB (x.n == 0)), (123, aB (x.n == 0)), (124, aB false), (125, .ptr 1 b1 4), (126, aI x.phase), (127, aB (x.phase == 1)), (128, aB true), (129, .ptr 1 b1 5), (130, aI x.n), (131, .agg (zRg1 x)), (132, aI ((jobOf x).length : Int)), (133, aB (decide (x.n < ((jobOf x).length : Int)))), (134, aB (decide (x.n < ((jobOf x).length : Int)))), (135, aB (decide (x.n < ((jobOf x).length : Int)))), (136, aB false), (137, .ptr 1 b1 4), (138, aI x.phase), (139, aB (x.phase == 2)), (140, aB false), (141, .val undef), (142, .val undef), (143, .val undef), (144, .val undef), (145, .val undef), (146, aB false), (147, aB false)], [(1, .box b1 26 (zRg1 x))]⟩
def zRg7 (b1 : Nat) (x : Cli) : LS := ⟨[(1, .ptr 1 b1 0), (2, aB (x.n == ((jobOf x).length : Int))), (116, .ptr 1 b1 4), (117, aI x.phase), (118, aB (x.phase == 0)), (119, aB false), (120, .val undef), (121, .val undef), (122, .val undef), (123, aB false), (124, aB false), (125, .ptr 1 b1 4), (126, aI x.phase), (127, aB (x.phase == 1)), (128, aB false), (129, .val undef), (130, .val undef), (131, .val undef), (132, .val undef), (133, .val undef), (134, aB false), (135, aB false), (136, aB false), (137, .ptr 1 b1 4), (138, aI x.phase), (139, aB (x.phase == 2)), (140, aB true), (141, .ptr 1 b1 5), (142, aI x.n), (143, .agg (zRg1 x)), (144, aI ((jobOf x).length : Int)), (145, aB (x.n == ((jobOf x).length : Int))), (146, aB (x.n == ((jobOf x).length : Int))), (147, aB (x.n == ((jobOf x).length : Int)))], [(1, .box b1 26 (zRg1 x))]⟩
def zRg8 (b1 : Nat) (x : Cli) : LS := ⟨[(1, .ptr 1 b1 0), (2, aB false), (116, .ptr 1 b1 4), (117, aI x.phase), (118, aB (x.phase == 0)), (119, aB false), (120, .val undef), (121, .val undef), (122, .val undef), (123, aB false), (124, aB false), (125, .ptr 1 b1 4), (126, aI x.phase), (127, aB (x.phase == 1)), (128, aB true), (129, .ptr 1 b1 5), (130, aI x.n), (131, .agg (zRg1 x)), (132, aI ((jobOf x).length : Int)), (133, aB (decide (x.n < ((jobOf x).length : Int)))), (134, aB (decide (x.n < ((jobOf x).length : Int)))), (135, aB (decide (x.n < ((jobOf x).length : Int)))), (136, aB false), (137, .ptr 1 b1 4), (138, aI x.phase), (139, aB (x.phase == 2)), (140, aB false), (141, .val undef), (142, .val undef), (143, .val undef), (144, .val undef), (145, .val undef), (146, aB false), (147, aB false)], [(1, .box b1 26 (zRg1 x))]⟩
def zRg9 (b1 : Nat) (x : Cli) : LS := ⟨[(1, .ptr 1 b1 0), (2, aB true), (116, .ptr 1 b1 4), (117, aI x.phase), (118, aB (x.phase == 0)), (119, aB true), (120, .ptr 1 b1 5), (121, aI x.n), (122, aB (x.n == 0)), (123, aB (x.n == 0)), (124, aB false), (125, .ptr 1 b1 4), (126, aI x.phase), (127, aB (x.phase == 1)), (128, aB true), (129, .ptr 1 b1 5), (130, aI x.n), (131, .agg (zRg1 x)), (132, aI ((jobOf x).length : Int)), (133, aB (decide (x.n < ((jobOf x).length : Int)))), (134, aB (decide (x.n < ((jobOf x).length : Int)))), (135, aB (decide (x.n < ((jobOf x).length : Int)))), (136, aB true), (137, .val undef), (138, .val undef), (139, .val undef), (140, .val undef), (141, .val undef), (142, .val undef), (143, .val undef), (144, .val undef), (145, .val undef), (146, .val undef), (147, aB true)], [(1, .box b1 26 (zRg1 x))]⟩
def zRg10 (b1 : Nat) (x : Cli) : LS := ⟨[(1, .ptr 1 b1 0), (2, aB true), (116, .ptr 1 b1 4), (117, aI x.phase), (118, aB (x.phase == 0)), (119, aB false), (120, .val undef), (121, .val undef), (122, .val undef), (123, aB false), (124, aB false), (125, .ptr 1 b1 4), (126, aI x.phase), (127, aB (x.phase == 1)), (128, aB true), (129, .ptr 1 b1 5), (130, aI x.n), (131, .agg (zRg1 x)), (132, aI ((jobOf x).length : Int)), (133, aB (decide (x.n < ((jobOf x).length : Int)))), (134, aB (decide (x.n < ((jobOf x).length : Int)))), (135, aB (decide (x.n < ((jobOf x).length : Int)))), (136, aB true), (137, .val undef), (138, .val undef), (139, .val undef), (140, .val undef), (141, .val undef), (142, .val undef), (143, .val undef), (144, .val undef), (145, .val undef), (146, .val undef), (147, aB true)], [(1, .box b1 26 (zRg1 x))]⟩
def zRg11 (b1 : Nat) (x : Cli) : LS := ⟨[(1, .ptr 1 b1 0), (2, aB false), (116, .ptr 1 b1 4), (117, aI x.phase), (118, aB (x.phase == 0)), (119, aB true), (120, .ptr 1 b1 5), (121, aI x.n), (122, aB (x.n == 0)), (123, aB (x.n == 0)), (124, aB false), (125, .ptr 1 b1 4), (126, aI x.phase), (127, aB (x.phase == 1)), (128, aB true), (129, .ptr 1 b1 5), (130, aI x.n), (131, .agg (zRg1 x)), (132, aI ((jobOf x).length : Int)), (133, aB (decide (x.n < ((jobOf x).length : Int)))), (134, aB (decide (x.n < ((jobOf x).length : Int)))), (135, aB (decide (x.n < ((jobOf x).length : Int)))), (136, aB false), (137, .ptr 1 b1 4), (138, aI x.phase), (139, aB (x.phase == 2)), (140, aB true), (141, .ptr 1 b1 5), (142, aI x.n), (143, .agg (zRg1 x)), (144, aI ((jobOf x).length : Int))], [(1, .box b1 26 (zRg1 x))]⟩
def zRg12 (b1 : Nat) (x : Cli) : LS := ⟨[(1, .ptr 1 b1 0), (2, aB false), (116, .ptr 1 b1 4), (117, aI x.phase), (118, aB (x.phase == 0)), (119, aB false), (120, .val undef), (121, .val undef), (122, .val undef), (123, aB false), (124, aB false), (125, .ptr 1 b1 4), (126, aI x.phase), (127, aB (x.phase == 1)), (128, aB true), (129, .ptr 1 b1 5), (130, aI x.n), (131, .agg (zRg1 x)), (132, aI ((jobOf x).length : Int)), (133, aB (decide (x.n < ((jobOf x).length : Int)))), (134, aB (decide (x.n < ((jobOf x).length : Int)))), (135, aB (decide (x.n < ((jobOf x).length : Int)))), (136, aB false), (137, .ptr 1 b1 4), (138, aI x.phase), (139, aB (x.phase == 2)), (140, aB true), (141, .ptr 1 b1 5), (142, aI x.n), (143, .agg (zRg1 x)), (144, aI ((jobOf x).length : Int))], [(1, .box b1 26 (zRg1 x))]⟩
def zRg13 (b1 : Nat) (x : Cli) : LS := ⟨[(1, .ptr 1 b1 0), (2, aB (decide ((x.told.length : Int) ≤ (x.jobs.length : Int)))), (66, aB (x.phase == 3)), (67, .ptr 1 b1 5), (68, aI x.n), (69, aB (x.n == 0)), (70, aB true), (71, .ptr 1 b1 7), (72, .sl 4 false (x.told.map donA)), (73, aI (x.told.length : Int)), (74, .ptr 1 b1 2), (75, aI x.seq), (76, aB ((x.told.length : Int) == x.seq)), (77, aB ((x.told.length : Int) == x.seq)), (78, aB true), (79, .ptr 1 b1 7), (80, .sl 4 false (x.told.map donA)), (81, aI (x.told.length : Int)), (82, .ptr 1 b1 3), (83, .sl 1 false (x.jobs.map jobA)), (84, aI (x.jobs.length : Int)), (85, aB (decide ((x.told.length : Int) ≤ (x.jobs.length : Int)))), (86, aB (decide ((x.told.length : Int) ≤ (x.jobs.length : Int))))], [(1, .box b1 26 (zRg1 x))]⟩
def zRg14 (b1 : Nat) (x : Cli) : LS := ⟨[(1, .ptr 1 b1 0), (2, aB false), (116, .ptr 1 b1 4), (117, aI x.phase), (118, aB (x.phase == 0)), (119, aB true), (120, .ptr 1 b1 5), (121, aI x.n), (122, aB (x.n == 0)), (123, aB (x.n == 0)), (124, aB false), (125, .ptr 1 b1 4), (126, aI x.phase), (127, aB (x.phase == 1)), (128, aB true), (129, .ptr 1 b1 5), (130, aI x.n), (131, .agg (zRg1 x)), (132, aI ((jobOf x).length : Int)), (133, aB (decide (x.n < ((jobOf x).length : Int)))), (134, aB (decide (x.n < ((jobOf x).length : Int)))), (135, aB (decide (x.n < ((jobOf x).length : Int)))), (136, aB false), (137, .ptr 1 b1 4), (138, aI x.phase), (139, aB (x.phase == 2)), (140, aB true), (141, .ptr 1 b1 5), (142, aI x.n), (143, .agg (zRg1 x))], [(1, .box b1 26 (zRg1 x))]⟩
def zRg15 (b1 : Nat) (x : Cli) : LS := ⟨[(1, .ptr 1 b1 0), (2, aB false), (116, .ptr 1 b1 4), (117, aI x.phase), (118, aB (x.phase == 0)), (119, aB false), (120, .val undef), (121, .val undef), (122, .val undef), (123, aB false), (124, aB false), (125, .ptr 1 b1 4), (126, aI x.phase), (127, aB (x.phase == 1)), (128, aB true), (129, .ptr 1 b1 5), (130, aI x.n), (131, .agg (zRg1 x)), (132, aI ((jobOf x).length : Int)), (133, aB (decide (x.n < ((jobOf x).length : Int)))), (134, aB (decide (x.n < ((jobOf x).length : Int)))), (135, aB (decide (x.n < ((jobOf x).length : Int)))), (136, aB false), (137, .ptr 1 b1 4), (138, aI x.phase), (139, aB (x.phase == 2)), (140, aB true), (141, .ptr 1 b1 5), (142, aI x.n), (143, .agg (zRg1 x))], [(1, .box b1 26 (zRg1 x))]⟩
def zRg16 (b1 : Nat) (x : Cli) : LS := ⟨[(1, .ptr 1 b1 0), (2, aB false), (116, .ptr 1 b1 4), (117, aI x.phase), (118, aB (x.phase == 0)), (119, aB true), (120, .ptr 1 b1 5), (121, aI x.n), (122, aB (x.n == 0)), (123, aB (x.n == 0)), (124, aB false), (125, .ptr 1 b1 4), (126, aI x.phase), (127, aB (x.phase == 1)), (128, aB true), (129, .ptr 1 b1 5), (130, aI x.n), (131, .agg (zRg1 x)), (132, aI ((jobOf x).length : Int)), (133, aB (decide (x.n < ((jobOf x).length : Int)))), (134, aB (decide (x.n < ((jobOf x).length : Int)))), (135, aB (decide (x.n < ((jobOf x).length : Int)))), (136, aB false), (137, .ptr 1 b1 4), (138, aI x.phase), (139, aB (x.phase == 2)), (140, aB (x.phase == 2))], [(1, .box b1 26 (zRg1 x))]⟩
def zRg17 (b1 : Nat) (x : Cli) : LS := ⟨[(1, .ptr 1 b1 0), (2, aB false), (116, .ptr 1 b1 4), (117, aI x.phase), (118, aB (x.phase == 0)), (119, aB true), (120, .ptr 1 b1 5), (121, aI x.n), (122, aB (x.n == 0)), (123, aB (x.n == 0)), (124, aB false), (125, .ptr 1 b1 4), (126, aI x.phase), (127, aB (x.phase == 1)), (128, aB false), (129, .val undef), (130, .val undef), (131, .val undef), (132, .val undef), (133, .val undef), (134, aB false), (135, aB false), (136, aB false), (137, .ptr 1 b1 4), (138, aI x.phase), (139, aB (x.phase == 2)), (140, aB false), (141, .val undef), (142, .val undef), (143, .val undef), (144, .val undef), (145, .val undef), (146, aB false), (147, aB false)], [(1, .box b1 26 (zRg1 x))]⟩
def zRg18 (b1 : Nat) (x : Cli) : LS := ⟨[(1, .ptr 1 b1 0), (2, aB false), (116, .ptr 1 b1 4), (117, aI x.phase), (118, aB (x.phase == 0)), (119, aB false), (120, .val undef), (121, .val undef), (122, .val undef), (123, aB false), (124, aB false), (125, .ptr 1 b1 4), (126, aI x.phase), (127, aB (x.phase == 1)), (128, aB true), (129, .ptr 1 b1 5), (130, aI x.n), (131, .agg (zRg1 x)), (132, aI ((jobOf x).length : Int)), (133, aB (decide (x.n < ((jobOf x).length : Int)))), (134, aB (decide (x.n < ((jobOf x).length : Int)))), (135, aB (decide (x.n < ((jobOf x).length : Int)))), (136, aB false), (137, .ptr 1 b1 4), (138, aI x.phase), (139, aB (x.phase == 2)), (140, aB (x.phase == 2))], [(1, .box b1 26 (zRg1 x))]⟩
def zRg19 (b1 : Nat) (x : Cli) : LS := ⟨[(1, .ptr 1 b1 0), (2, aB false), (116, .ptr 1 b1 4), (117, aI x.phase), (118, aB (x.phase == 0)), (119, aB false), (120, .val undef), (121, .val undef), (122, .val undef), (123, aB false), (124, aB false), (125, .ptr 1 b1 4), (126, aI x.phase), (127, aB (x.phase == 1)), (128, aB false), (129, .val undef), (130, .val undef), (131, .val undef), (132, .val undef), (133, .val undef), (134, aB false), (135, aB false), (136, aB false), (137, .ptr 1 b1 4), (138, aI x.phase), (139, aB (x.phase == 2)), (140, aB false), (141, .val undef), (142, .val undef), (143, .val undef), (144, .val undef), (145, .val undef), (146, aB false), (147, aB false)], [(1, .box b1 26 (zRg1 x))]⟩
def zRg20 (b1 : Nat) (x : Cli) : LS := ⟨[(1, .ptr 1 b1 0), (2, aB false), (116, .ptr 1 b1 4), (117, aI x.phase), (118, aB (x.phase == 0)), (119, aB true), (120, .ptr 1 b1 5), (121, aI x.n), (122, aB (x.n == 0)), (123, aB (x.n == 0)), (124, aB false), (125, .ptr 1 b1 4), (126, aI x.phase), (127, aB (x.phase == 1)), (128, aB true), (129, .ptr 1 b1 5), (130, aI x.n), (131, .agg (zRg1 x)), (132, aI ((jobOf x).length : Int)), (133, aB (decide (x.n < ((jobOf x).length : Int)))), (134, aB (decide (x.n < ((jobOf x).length : Int)))), (135, aB (decide (x.n < ((jobOf x).length : Int)))), (136, aB false), (137, .ptr 1 b1 4), (138, aI x.phase), (139, aB (x.phase == 2)), (140, aB false)], [(1, .box b1 26 (zRg1 x))]⟩
def zRg21 (b1 : Nat) (x : Cli) : LS := ⟨[(1, .ptr 1 b1 0), (2, aB false), (116, .ptr 1 b1 4), (117, aI x.phase), (118, aB (x.phase == 0)), (119, aB true), (120, .ptr 1 b1 5), (121, aI x.n), (122, aB (x.n == 0)), (123, aB (x.n == 0)), (124, aB false), (125, .ptr 1 b1 4), (126, aI x.phase), (127, aB (x.phase == 1)), (128, aB true), (129, .ptr 1 b1 5), (130, aI x.n), (131, .agg (zRg1 x)), (132, aI ((jobOf x).length : Int)), (133, aB (decide (x.n < ((jobOf x).length : Int)))), (134, aB (decide (x.n < ((jobOf x).length : Int)))), (135, aB (decide (x.n < ((jobOf x).length : Int)))), (136, aB false), (137, .ptr 1 b1 4), (138, aI x.phase), (139, aB (x.phase == 2)), (140, aB true)], [(1, .box b1 26 (zRg1 x))]⟩
def zRg22 (b1 : Nat) (x : Cli) : LS := ⟨[(1, .ptr 1 b1 0), (2, aB false), (116, .ptr 1 b1 4), (117, aI x.phase), (118, aB (x.phase == 0)), (119, aB false), (120, .val undef), (121, .val undef), (122, .val undef), (123, aB false), (124, aB false), (125, .ptr 1 b1 4), (126, aI x.phase), (127, aB (x.phase == 1)), (128, aB true), (129, .ptr 1 b1 5), (130, aI x.n), (131, .agg (zRg1 x)), (132, aI ((jobOf x).length : Int)), (133, aB (decide (x.n < ((jobOf x).length : Int)))), (134, aB (decide (x.n < ((jobOf x).length : Int)))), (135, aB (decide (x.n < ((jobOf x).length : Int)))), (136, aB false), (137, .ptr 1 b1 4), (138, aI x.phase), (139, aB (x.phase == 2)), (140, aB false)], [(1, .box b1 26 (zRg1 x))]⟩
def zRg23 (b1 : Nat) (x : Cli) : LS := ⟨[(1, .ptr 1 b1 0), (2, aB false), (116, .ptr 1 b1 4), (117, aI x.phase), (118, aB (x.phase == 0)), (119, aB false), (120, .val undef), (121, .val undef), (122, .val undef), (123, aB false), (124, aB false), (125, .ptr 1 b1 4), (126, aI x.phase), (127, aB (x.phase == 1)), (128, aB true), (129, .ptr 1 b1 5), (130, aI x.n), (131, .agg (zRg1 x)), (132, aI ((jobOf x).length : Int)), (133, aB (decide (x.n < ((jobOf x).length : Int)))), (134, aB (decide (x.n < ((jobOf x).length : Int)))), (135, aB (decide (x.n < ((jobOf x).length : Int)))), (136, aB false), (137, .ptr 1 b1 4), (138, aI x.phase), (139, aB (x.phase == 2)), (140, aB true)], [(1, .box b1 26 (zRg1 x))]⟩
def zRg24 (b1 : Nat) (x : Cli) : LS := ⟨[(1, .ptr 1 b1 0), (2, aB true), (116, .ptr 1 b1 4), (117, aI x.phase), (118, aB (x.phase == 0)), (119, aB true), (120, .ptr 1 b1 5), (121, aI x.n), (122, aB (x.n == 0)), (123, aB (x.n == 0)), (124, aB true), (125, .val undef), (126, .val undef), (127, .val undef), (128, .val undef), (129, .val undef), (130, .val undef), (131, .val undef), (132, .val undef), (133, .val undef), (134, .val undef), (135, aB true), (136, aB true), (137, .val undef), (138, .val undef), (139, .val undef), (140, .val undef), (141, .val undef), (142, .val undef), (143, .val undef), (144, .val undef), (145, .val undef), (146, .val undef), (147, aB true)], [(1, .box b1 26 (zRg1 x))]⟩
def zRg25 (b1 : Nat) (x : Cli) : LS := ⟨[(1, .ptr 1 b1 0), (2, aB false), (116, .ptr 1 b1 4), (117, aI x.phase), (118, aB (x.phase == 0)), (119, aB true), (120, .ptr 1 b1 5), (121, aI x.n), (122, aB (x.n == 0)), (123, aB (x.n == 0)), (124, aB false), (125, .ptr 1 b1 4), (126, aI x.phase), (127, aB (x.phase == 1)), (128, aB false), (129, .val undef), (130, .val undef), (131, .val undef), (132, .val undef), (133, .val undef), (134, aB false), (135, aB false), (136, aB false), (137, .ptr 1 b1 4), (138, aI x.phase), (139, aB (x.phase == 2)), (140, aB true), (141, .ptr 1 b1 5), (142, aI x.n), (143, .agg (zRg1 x)), (144, aI ((jobOf x).length : Int))], [(1, .box b1 26 (zRg1 x))]⟩
def zRg26 (b1 : Nat) (x : Cli) : LS := ⟨[(1, .ptr 1 b1 0), (2, aB false), (116, .ptr 1 b1 4), (117, aI x.phase), (118, aB (x.phase == 0)), (119, aB false), (120, .val undef), (121, .val undef), (122, .val undef), (123, aB false), (124, aB false), (125, .ptr 1 b1 4), (126, aI x.phase), (127, aB (x.phase == 1)), (128, aB false), (129, .val undef), (130, .val undef), (131, .val undef), (132, .val undef), (133, .val undef), (134, aB false), (135, aB false), (136, aB false), (137, .ptr 1 b1 4), (138, aI x.phase), (139, aB (x.phase == 2)), (140, aB true), (141, .ptr 1 b1 5), (142, aI x.n), (143, .agg (zRg1 x)), (144, aI ((jobOf x).length : Int))], [(1, .box b1 26 (zRg1 x))]⟩
def zRg27 (b1 : Nat) (x : Cli) : LS := ⟨[(1, .ptr 1 b1 0), (2, aB false), (116, .ptr 1 b1 4), (117, aI x.phase), (118, aB (x.phase == 0)), (119, aB true), (120, .ptr 1 b1 5), (121, aI x.n), (122, aB (x.n == 0)), (123, aB (x.n == 0)), (124, aB false), (125, .ptr 1 b1 4), (126, aI x.phase), (127, aB (x.phase == 1)), (128, aB true), (129, .ptr 1 b1 5), (130, aI x.n), (131, .agg (zRg1 x)), (132, aI ((jobOf x).length : Int)), (133, aB (decide (x.n < ((jobOf x).length : Int)))), (134, aB (decide (x.n < ((jobOf x).length : Int)))), (135, aB (decide (x.n < ((jobOf x).length : Int)))), (136, aB (decide (x.n < ((jobOf x).length : Int))))], [(1, .box b1 26 (zRg1 x))]⟩
def zRg28 (b1 : Nat) (x : Cli) : LS := ⟨[(1, .ptr 1 b1 0), (2, aB false), (116, .ptr 1 b1 4), (117, aI x.phase), (118, aB (x.phase == 0)), (119, aB false), (120, .val undef), (121, .val undef), (122, .val undef), (123, aB false), (124, aB false), (125, .ptr 1 b1 4), (126, aI x.phase), (127, aB (x.phase == 1)), (128, aB true), (129, .ptr 1 b1 5), (130, aI x.n), (131, .agg (zRg1 x)), (132, aI ((jobOf x).length : Int)), (133, aB (decide (x.n < ((jobOf x).length : Int)))), (134, aB (decide (x.n < ((jobOf x).length : Int)))), (135, aB (decide (x.n < ((jobOf x).length : Int)))), (136, aB (decide (x.n < ((jobOf x).length : Int))))], [(1, .box b1 26 (zRg1 x))]⟩
def zRg29 (b1 : Nat) (x : Cli) : LS := ⟨[(1, .ptr 1 b1 0), (2, aB false), (116, .ptr 1 b1 4), (117, aI x.phase), (118, aB (x.phase == 0)), (119, aB true), (120, .ptr 1 b1 5), (121, aI x.n), (122, aB (x.n == 0)), (123, aB (x.n == 0)), (124, aB false), (125, .ptr 1 b1 4), (126, aI x.phase), (127, aB (x.phase == 1)), (128, aB false), (129, .val undef), (130, .val undef), (131, .val undef), (132, .val undef), (133, .val undef), (134, aB false), (135, aB false), (136, aB false), (137, .ptr 1 b1 4), (138, aI x.phase), (139, aB (x.phase == 2)), (140, aB true), (141, .ptr 1 b1 5), (142, aI x.n), (143, .agg (zRg1 x))], [(1, .box b1 26 (zRg1 x))]⟩
def zRg30 (b1 : Nat) (x : Cli) : LS := ⟨[(1, .ptr 1 b1 0), (2, aB false), (116, .ptr 1 b1 4), (117, aI x.phase), (118, aB (x.phase == 0)), (119, aB false), (120, .val undef), (121, .val undef), (122, .val undef), (123, aB false), (124, aB false), (125, .ptr 1 b1 4), (126, aI x.phase), (127, aB (x.phase == 1)), (128, aB false), (129, .val undef), (130, .val undef), (131, .val undef), (132, .val undef), (133, .val undef), (134, aB false), (135, aB false), (136, aB false), (137, .ptr 1 b1 4), (138, aI x.phase), (139, aB (x.phase == 2)), (140, aB true), (141, .ptr 1 b1 5), (142, aI x.n), (143, .agg (zRg1 x))], [(1, .box b1 26 (zRg1 x))]⟩
def zRg31 (b1 : Nat) (x : Cli) : LS := ⟨[(1, .ptr 1 b1 0), (2, aB false), (116, .ptr 1 b1 4), (117, aI x.phase), (118, aB (x.phase == 0)), (119, aB true), (120, .ptr 1 b1 5), (121, aI x.n), (122, aB (x.n == 0)), (123, aB (x.n == 0)), (124, aB false), (125, .ptr 1 b1 4), (126, aI x.phase), (127, aB (x.phase == 1)), (128, aB true), (129, .ptr 1 b1 5), (130, aI x.n), (131, .agg (zRg1 x)), (132, aI ((jobOf x).length : Int)), (133, aB (decide (x.n < ((jobOf x).length : Int)))), (134, aB (decide (x.n < ((jobOf x).length : Int)))), (135, aB (decide (x.n < ((jobOf x).length : Int)))), (136, aB false)], [(1, .box b1 26 (zRg1 x))]⟩
def zRg32 (b1 : Nat) (x : Cli) : LS := ⟨[(1, .ptr 1 b1 0), (2, aB false), (116, .ptr 1 b1 4), (117, aI x.phase), (118, aB (x.phase == 0)), (119, aB true), (120, .ptr 1 b1 5), (121, aI x.n), (122, aB (x.n == 0)), (123, aB (x.n == 0)), (124, aB false), (125, .ptr 1 b1 4), (126, aI x.phase), (127, aB (x.phase == 1)), (128, aB true), (129, .ptr 1 b1 5), (130, aI x.n), (131, .agg (zRg1 x)), (132, aI ((jobOf x).length : Int)), (133, aB (decide (x.n < ((jobOf x).length : Int)))), (134, aB (decide (x.n < ((jobOf x).length : Int)))), (135, aB (decide (x.n < ((jobOf x).length : Int)))), (136, aB true)], [(1, .box b1 26 (zRg1 x))]⟩
def zRg33 (b1 : Nat) (x : Cli) : LS := ⟨[(1, .ptr 1 b1 0), (2, aB false), (116, .ptr 1 b1 4), (117, aI x.phase), (118, aB (x.phase == 0)), (119, aB false), (120, .val undef), (121, .val undef), (122, .val undef), (123, aB false), (124, aB false), (125, .ptr 1 b1 4), (126, aI x.phase), (127, aB (x.phase == 1)), (128, aB true), (129, .ptr 1 b1 5), (130, aI x.n), (131, .agg (zRg1 x)), (132, aI ((jobOf x).length : Int)), (133, aB (decide (x.n < ((jobOf x).length : Int)))), (134, aB (decide (x.n < ((jobOf x).length : Int)))), (135, aB (decide (x.n < ((jobOf x).length : Int)))), (136, aB false)], [(1, .box b1 26 (zRg1 x))]⟩
def zRg34 (b1 : Nat) (x : Cli) : LS := ⟨[(1, .ptr 1 b1 0), (2, aB false), (116, .ptr 1 b1 4), (117, aI x.phase), (118, aB (x.phase == 0)), (119, aB false), (120, .val undef), (121, .val undef), (122, .val undef), (123, aB false), (124, aB false), (125, .ptr 1 b1 4), (126, aI x.phase), (127, aB (x.phase == 1)), (128, aB true), (129, .ptr 1 b1 5), (130, aI x.n), (131, .agg (zRg1 x)), (132, aI ((jobOf x).length : Int)), (133, aB (decide (x.n < ((jobOf x).length : Int)))), (134, aB (decide (x.n < ((jobOf x).length : Int)))), (135, aB (decide (x.n < ((jobOf x).length : Int)))), (136, aB true)], [(1, .box b1 26 (zRg1 x))]⟩
def zRg35 (b1 : Nat) (x : Cli) : LS := ⟨[(1, .ptr 1 b1 0), (2, aB false), (66, aB (x.phase == 3)), (67, .ptr 1 b1 5), (68, aI x.n), (69, aB (x.n == 0)), (70, aB true), (71, .ptr 1 b1 7), (72, .sl 4 false (x.told.map donA)), (73, aI (x.told.length : Int)), (74, .ptr 1 b1 2), (75, aI x.seq), (76, aB ((x.told.length : Int) == x.seq)), (77, aB ((x.told.length : Int) == x.seq)), (78, aB true), (79, .ptr 1 b1 7), (80, .sl 4 false (x.told.map donA)), (81, aI (x.told.length : Int)), (82, .ptr 1 b1 3), (83, .sl 1 false (x.jobs.map jobA)), (84, aI ((x.jobs.map jobA).length : Int))], [(1, .box b1 26 (zRg1 x))]⟩
def zRg36 (b1 : Nat) (x : Cli) : LS := ⟨[(1, .ptr 1 b1 0), (2, aB false), (116, .ptr 1 b1 4), (117, aI x.phase), (118, aB (x.phase == 0)), (119, aB true), (120, .ptr 1 b1 5), (121, aI x.n), (122, aB (x.n == 0)), (123, aB (x.n == 0)), (124, aB false), (125, .ptr 1 b1 4), (126, aI x.phase), (127, aB (x.phase == 1)), (128, aB false), (129, .val undef), (130, .val undef), (131, .val undef), (132, .val undef), (133, .val undef), (134, aB false), (135, aB false), (136, aB false), (137, .ptr 1 b1 4), (138, aI x.phase), (139, aB (x.phase == 2)), (140, aB (x.phase == 2))], [(1, .box b1 26 (zRg1 x))]⟩
def zRg37 (b1 : Nat) (x : Cli) : LS := ⟨[(1, .ptr 1 b1 0), (2, aB false), (66, aB (x.phase == 3)), (67, .ptr 1 b1 5), (68, aI x.n), (69, aB (x.n == 0)), (70, aB true), (71, .ptr 1 b1 7), (72, .sl 4 false (x.told.map donA)), (73, aI (x.told.length : Int)), (74, .ptr 1 b1 2), (75, aI x.seq), (76, aB ((x.told.length : Int) == x.seq)), (77, aB ((x.told.length : Int) == x.seq)), (78, aB true), (79, .ptr 1 b1 7), (80, .sl 4 false (x.told.map donA)), (81, aI (x.told.length : Int)), (82, .ptr 1 b1 3), (83, .sl 1 false (x.jobs.map jobA)), (84, aI (x.jobs.length : Int))], [(1, .box b1 26 (zRg1 x))]⟩
def zRg38 (b1 : Nat) (x : Cli) : LS := ⟨[(1, .ptr 1 b1 0), (2, aB false), (116, .ptr 1 b1 4), (117, aI x.phase), (118, aB (x.phase == 0)), (119, aB false), (120, .val undef), (121, .val undef), (122, .val undef), (123, aB false), (124, aB false), (125, .ptr 1 b1 4), (126, aI x.phase), (127, aB (x.phase == 1)), (128, aB false), (129, .val undef), (130, .val undef), (131, .val undef), (132, .val undef), (133, .val undef), (134, aB false), (135, aB false), (136, aB false), (137, .ptr 1 b1 4), (138, aI x.phase), (139, aB (x.phase == 2)), (140, aB (x.phase == 2))], [(1, .box b1 26 (zRg1 x))]⟩
def zRg39 (b1 : Nat) (x : Cli) : LS := ⟨[(1, .ptr 1 b1 0), (2, aB false), (116, .ptr 1 b1 4), (117, aI x.phase), (118, aB (x.phase == 0)), (119, aB true), (120, .ptr 1 b1 5), (121, aI x.n), (122, aB (x.n == 0)), (123, aB (x.n == 0)), (124, aB false), (125, .ptr 1 b1 4), (126, aI x.phase), (127, aB (x.phase == 1)), (128, aB false), (129, .val undef), (130, .val undef), (131, .val undef), (132, .val undef), (133, .val undef), (134, aB false), (135, aB false), (136, aB false), (137, .ptr 1 b1 4), (138, aI x.phase), (139, aB (x.phase == 2)), (140, aB false)], [(1, .box b1 26 (zRg1 x))]⟩
def zRg40 (b1 : Nat) (x : Cli) : LS := ⟨[(1, .ptr 1 b1 0), (2, aB false), (116, .ptr 1 b1 4), (117, aI x.phase), (118, aB (x.phase == 0)), (119, aB true), (120, .ptr 1 b1 5), (121, aI x.n), (122, aB (x.n == 0)), (123, aB (x.n == 0)), (124, aB false), (125, .ptr 1 b1 4), (126, aI x.phase), (127, aB (x.phase == 1)), (128, aB false), (129, .val undef), (130, .val undef), (131, .val undef), (132, .val undef), (133, .val undef), (134, aB false), (135, aB false), (136, aB false), (137, .ptr 1 b1 4), (138, aI x.phase), (139, aB (x.phase == 2)), (140, aB true)], [(1, .box b1 26 (zRg1 x))]⟩
def zRg41 (b1 : Nat) (x : Cli) : LS := ⟨[(1, .ptr 1 b1 0), (2, aB false), (116, .ptr 1 b1 4), (117, aI x.phase), (118, aB (x.phase == 0)), (119, aB false), (120, .val undef), (121, .val undef), (122, .val undef), (123, aB false), (124, aB false), (125, .ptr 1 b1 4), (126, aI x.phase), (127, aB (x.phase == 1)), (128, aB false), (129, .val undef), (130, .val undef), (131, .val undef), (132, .val undef), (133, .val undef), (134, aB false), (135, aB false), (136, aB false), (137, .ptr 1 b1 4), (138, aI x.phase), (139, aB (x.phase == 2)), (140, aB false)], [(1, .box b1 26 (zRg1 x))]⟩
def zRg42 (b1 : Nat) (x : Cli) : LS := ⟨[(1, .ptr 1 b1 0), (2, aB false), (116, .ptr 1 b1 4), (117, aI x.phase), (118, aB (x.phase == 0)), (119, aB false), (120, .val undef), (121, .val undef), (122, .val undef), (123, aB false), (124, aB false), (125, .ptr 1 b1 4), (126, aI x.phase), (127, aB (x.phase == 1)), (128, aB false), (129, .val undef), (130, .val undef), (131, .val undef), (132, .val undef), (133, .val undef), (134, aB false), (135, aB false), (136, aB false), (137, .ptr 1 b1 4), (138, aI x.phase), (139, aB (x.phase == 2)), (140, aB true)], [(1, .box b1 26 (zRg1 x))]⟩
def zRg43 (b1 : Nat) (x : Cli) : LS := ⟨[(1, .ptr 1 b1 0), (2, aB false), (66, aB (x.phase == 3)), (67, .ptr 1 b1 5), (68, aI x.n), (69, aB (x.n == 0)), (70, aB true), (71, .ptr 1 b1 7), (72, .sl 4 false (x.told.map donA)), (73, aI (x.told.length : Int)), (74, .ptr 1 b1 2), (75, aI x.seq), (76, aB ((x.told.length : Int) == x.seq)), (77, aB ((x.told.length : Int) == x.seq)), (78, aB false), (79, .val undef), (80, .val undef), (81, .val undef), (82, .val undef), (83, .val undef), (84, .val undef), (85, .val undef), (86, aB false)], [(1, .box b1 26 (zRg1 x))]⟩
def zRg44 (b1 : Nat) (x : Cli) : LS := ⟨[(1, .ptr 1 b1 0), (2, aB ((x.told.length : Int) == (x.jobs.length : Int))), (96, aB (x.phase == 4)), (97, .ptr 1 b1 5), (98, aI x.n), (99, aB (x.n == 0)), (100, aB true), (101, .ptr 1 b1 7), (102, .sl 4 false (x.told.map donA)), (103, aI (x.told.length : Int)), (104, .ptr 1 b1 3), (105, .sl 1 false (x.jobs.map jobA)), (106, aI (x.jobs.length : Int)), (107, aB ((x.told.length : Int) == (x.jobs.length : Int))), (108, aB ((x.told.length : Int) == (x.jobs.length : Int)))], [(1, .box b1 26 (zRg1 x))]⟩
def zRg45 (b1 : Nat) (x : Cli) : LS := ⟨[(1, .ptr 1 b1 0), (2, aB false), (66, aB (x.phase == 3)), (67, .ptr 1 b1 5), (68, aI x.n), (69, aB (x.n == 0)), (70, aB true), (71, .ptr 1 b1 7), (72, .sl 4 false (x.told.map donA)), (73, aI (x.told.length : Int)), (74, .ptr 1 b1 2), (75, aI x.seq), (76, aB ((x.told.length : Int) == x.seq)), (77, aB ((x.told.length : Int) == x.seq)), (78, aB true), (79, .ptr 1 b1 7), (80, .sl 4 false (x.told.map donA)), (81, aI ((x.told.map donA).length : Int))], [(1, .box b1 26 (zRg1 x))]⟩
def zRg46 (b1 : Nat) (x : Cli) : LS := ⟨[(1, .ptr 1 b1 0), (2, aB false), (66, aB (x.phase == 3)), (67, .ptr 1 b1 5), (68, aI x.n), (69, aB (x.n == 0)), (70, aB true), (71, .ptr 1 b1 7), (72, .sl 4 false (x.told.map donA)), (73, aI (x.told.length : Int)), (74, .ptr 1 b1 2), (75, aI x.seq), (76, aB ((x.told.length : Int) == x.seq)), (77, aB ((x.told.length : Int) == x.seq)), (78, aB true), (79, .ptr 1 b1 7), (80, .sl 4 false (x.told.map donA)), (81, aI (x.told.length : Int))], [(1, .box b1 26 (zRg1 x))]⟩
def zRg47 (b1 : Nat) (x : Cli) : LS := ⟨[(1, .ptr 1 b1 0), (2, aB false), (66, aB (x.phase == 3)), (67, .ptr 1 b1 5), (68, aI x.n), (69, aB (x.n == 0)), (70, aB false), (71, .val undef), (72, .val undef), (73, .val undef), (74, .val undef), (75, .val undef), (76, .val undef), (77, aB false), (78, aB false), (79, .val undef), (80, .val undef), (81, .val undef), (82, .val undef), (83, .val undef), (84, .val undef), (85, .val undef), (86, aB false)], [(1, .box b1 26 (zRg1 x))]⟩
def zRg48 (b1 : Nat) (x : Cli) : LS := ⟨[(1, .ptr 1 b1 0), (2, aB false), (116, .ptr 1 b1 4), (117, aI x.phase), (118, aB (x.phase == 0)), (119, aB true), (120, .ptr 1 b1 5), (121, aI x.n), (122, aB (x.n == 0)), (123, aB (x.n == 0)), (124, aB false), (125, .ptr 1 b1 4), (126, aI x.phase), (127, aB (x.phase == 1)), (128, aB true), (129, .ptr 1 b1 5), (130, aI x.n), (131, .agg (zRg1 x)), (132, aI ((jobOf x).length : Int))], [(1, .box b1 26 (zRg1 x))]⟩
def zRg49 (b1 : Nat) (x : Cli) : LS := ⟨[(1, .ptr 1 b1 0), (2, aB false), (116, .ptr 1 b1 4), (117, aI x.phase), (118, aB (x.phase == 0)), (119, aB false), (120, .val undef), (121, .val undef), (122, .val undef), (123, aB false), (124, aB false), (125, .ptr 1 b1 4), (126, aI x.phase), (127, aB (x.phase == 1)), (128, aB true), (129, .ptr 1 b1 5), (130, aI x.n), (131, .agg (zRg1 x)), (132, aI ((jobOf x).length : Int))], [(1, .box b1 26 (zRg1 x))]⟩
def zRg50 (b1 : Nat) (x : Cli) : LS := ⟨[(1, .ptr 1 b1 0), (2, aB false), (66, aB (x.phase == 3)), (67, .ptr 1 b1 5), (68, aI x.n), (69, aB (x.n == 0)), (70, aB true), (71, .ptr 1 b1 7), (72, .sl 4 false (x.told.map donA)), (73, aI (x.told.length : Int)), (74, .ptr 1 b1 2), (75, aI x.seq), (76, aB ((x.told.length : Int) == x.seq)), (77, aB ((x.told.length : Int) == x.seq)), (78, aB ((x.told.length : Int) == x.seq))], [(1, .box b1 26 (zRg1 x))]⟩
def zRg51 (b1 : Nat) (x : Cli) : LS := ⟨[(1, .ptr 1 b1 0), (2, aB false), (66, aB (x.phase == 3)), (67, .ptr 1 b1 5), (68, aI x.n), (69, aB (x.n == 0)), (70, aB true), (71, .ptr 1 b1 7), (72, .sl 4 false (x.told.map donA)), (73, aI (x.told.length : Int)), (74, .ptr 1 b1 2), (75, aI x.seq), (76, aB ((x.told.length : Int) == x.seq)), (77, aB ((x.told.length : Int) == x.seq)), (78, aB false)], [(1, .box b1 26 (zRg1 x))]⟩
def zRg52 (b1 : Nat) (x : Cli) : LS := ⟨[(1, .ptr 1 b1 0), (2, aB false), (66, aB (x.phase == 3)), (67, .ptr 1 b1 5), (68, aI x.n), (69, aB (x.n == 0)), (70, aB true), (71, .ptr 1 b1 7), (72, .sl 4 false (x.told.map donA)), (73, aI (x.told.length : Int)), (74, .ptr 1 b1 2), (75, aI x.seq), (76, aB ((x.told.length : Int) == x.seq)), (77, aB ((x.told.length : Int) == x.seq)), (78, aB true)], [(1, .box b1 26 (zRg1 x))]⟩
def zRg53 (b1 : Nat) (x : Cli) : LS := ⟨[(1, .ptr 1 b1 0), (2, aB false), (116, .ptr 1 b1 4), (117, aI x.phase), (118, aB (x.phase == 0)), (119, aB true), (120, .ptr 1 b1 5), (121, aI x.n), (122, aB (x.n == 0)), (123, aB (x.n == 0)), (124, aB false), (125, .ptr 1 b1 4), (126, aI x.phase), (127, aB (x.phase == 1)), (128, aB true), (129, .ptr 1 b1 5), (130, aI x.n), (131, .agg (zRg1 x))], [(1, .box b1 26 (zRg1 x))]⟩
def zRg54 (b1 : Nat) (x : Cli) : LS := ⟨[(1, .ptr 1 b1 0), (2, aB false), (116, .ptr 1 b1 4), (117, aI x.phase), (118, aB (x.phase == 0)), (119, aB false), (120, .val undef), (121, .val undef), (122, .val undef), (123, aB false), (124, aB false), (125, .ptr 1 b1 4), (126, aI x.phase), (127, aB (x.phase == 1)), (128, aB true), (129, .ptr 1 b1 5), (130, aI x.n), (131, .agg (zRg1 x))], [(1, .box b1 26 (zRg1 x))]⟩
def zRg55 (b1 : Nat) (x : Cli) : LS := ⟨[(1, .ptr 1 b1 0), (2, aB false), (96, aB (x.phase == 4)), (97, .ptr 1 b1 5), (98, aI x.n), (99, aB (x.n == 0)), (100, aB true), (101, .ptr 1 b1 7), (102, .sl 4 false (x.told.map donA)), (103, aI (x.told.length : Int)), (104, .ptr 1 b1 3), (105, .sl 1 false (x.jobs.map jobA)), (106, aI ((x.jobs.map jobA).length : Int))], [(1, .box b1 26 (zRg1 x))]⟩
def zRg56 (b1 : Nat) (x : Cli) : LS := ⟨[(1, .ptr 1 b1 0), (2, aB false), (96, aB (x.phase == 4)), (97, .ptr 1 b1 5), (98, aI x.n), (99, aB (x.n == 0)), (100, aB true), (101, .ptr 1 b1 7), (102, .sl 4 false (x.told.map donA)), (103, aI (x.told.length : Int)), (104, .ptr 1 b1 3), (105, .sl 1 false (x.jobs.map jobA)), (106, aI (x.jobs.length : Int))], [(1, .box b1 26 (zRg1 x))]⟩
def zRg57 (b1 : Nat) (x : Cli) : LS := ⟨[(1, .ptr 1 b1 0), (2, aB false), (116, .ptr 1 b1 4), (117, aI x.phase), (118, aB (x.phase == 0)), (119, aB true), (120, .ptr 1 b1 5), (121, aI x.n), (122, aB (x.n == 0)), (123, aB (x.n == 0)), (124, aB false), (125, .ptr 1 b1 4), (126, aI x.phase), (127, aB (x.phase == 1)), (128, aB (x.phase == 1))], [(1, .box b1 26 (zRg1 x))]⟩
def zRg58 (b1 : Nat) (x : Cli) : LS := ⟨[(1, .ptr 1 b1 0), (2, aB false), (116, .ptr 1 b1 4), (117, aI x.phase), (118, aB (x.phase == 0)), (119, aB false), (120, .val undef), (121, .val undef), (122, .val undef), (123, aB false), (124, aB false), (125, .ptr 1 b1 4), (126, aI x.phase), (127, aB (x.phase == 1)), (128, aB (x.phase == 1))], [(1, .box b1 26 (zRg1 x))]⟩
def zRg59 (b1 : Nat) (x : Cli) : LS := ⟨[(1, .ptr 1 b1 0), (2, aB false), (34, aB true)], [(1, .box b1 26 (zRg1 x))]⟩
def zRg60 (b1 : Nat) (x : Cli) : LS := ⟨[(1, .ptr 1 b1 0), (2, aB false), (116, .ptr 1 b1 4), (117, aI x.phase), (118, aB (x.phase == 0)), (119, aB true), (120, .ptr 1 b1 5), (121, aI x.n), (122, aB (x.n == 0)), (123, aB (x.n == 0)), (124, aB false), (125, .ptr 1 b1 4), (126, aI x.phase), (127, aB (x.phase == 1)), (128, aB false)], [(1, .box b1 26 (zRg1 x))]⟩
def zRg61 (b1 : Nat) (x : Cli) : LS := ⟨[(1, .ptr 1 b1 0), (2, aB false), (116, .ptr 1 b1 4), (117, aI x.phase), (118, aB (x.phase == 0)), (119, aB true), (120, .ptr 1 b1 5), (121, aI x.n), (122, aB (x.n == 0)), (123, aB (x.n == 0)), (124, aB false), (125, .ptr 1 b1 4), (126, aI x.phase), (127, aB (x.phase == 1)), (128, aB true)], [(1, .box b1 26 (zRg1 x))]⟩
def zRg62 (b1 : Nat) (x : Cli) : LS := ⟨[(1, .ptr 1 b1 0), (2, aB false), (115, aB (decide ((x.told.length : Int) ≥ (x.jobs.length : Int))))], [(1, .box b1 26 (zRg1 x))]⟩
def zRg63 (b1 : Nat) (x : Cli) : LS := ⟨[(1, .ptr 1 b1 0), (2, aB false), (116, .ptr 1 b1 4), (117, aI x.phase), (118, aB (x.phase == 0)), (119, aB false), (120, .val undef), (121, .val undef), (122, .val undef), (123, aB false), (124, aB false), (125, .ptr 1 b1 4), (126, aI x.phase), (127, aB (x.phase == 1)), (128, aB false)], [(1, .box b1 26 (zRg1 x))]⟩
def zRg64 (b1 : Nat) (x : Cli) : LS := ⟨[(1, .ptr 1 b1 0), (2, aB false), (116, .ptr 1 b1 4), (117, aI x.phase), (118, aB (x.phase == 0)), (119, aB false), (120, .val undef), (121, .val undef), (122, .val undef), (123, aB false), (124, aB false), (125, .ptr 1 b1 4), (126, aI x.phase), (127, aB (x.phase == 1)), (128, aB true)], [(1, .box b1 26 (zRg1 x))]⟩
def zRg65 (b1 : Nat) (x : Cli) : LS := ⟨[(1, .ptr 1 b1 0), (2, aB false), (109, .ptr 1 b1 7), (110, .sl 4 false (x.told.map donA)), (111, aI (x.told.length : Int)), (112, .ptr 1 b1 3), (113, .sl 1 false (x.jobs.map jobA)), (114, aI (x.jobs.length : Int)), (115, aB (decide ((x.told.length : Int) ≥ (x.jobs.length : Int))))], [(1, .box b1 26 (zRg1 x))]⟩
def zRg66 (b1 : Nat) (x : Cli) : LS := ⟨[(1, .ptr 1 b1 0), (2, aB false), (96, aB (x.phase == 4)), (97, .ptr 1 b1 5), (98, aI x.n), (99, aB (x.n == 0)), (100, aB false), (101, .val undef), (102, .val undef), (103, .val undef), (104, .val undef), (105, .val undef), (106, .val undef), (107, .val undef), (108, aB false)], [(1, .box b1 26 (zRg1 x))]⟩
def zRg67 (b1 : Nat) (x : Cli) : LS := ⟨[(1, .ptr 1 b1 0), (2, aB false), (93, aB ((x.told.length : Int) != (x.seq - 1)))], [(1, .box b1 26 (zRg1 x))]⟩
def zRg68 (b1 : Nat) (x : Cli) : LS := ⟨[(1, .ptr 1 b1 0), (2, aB false), (96, aB (x.phase == 4)), (97, .ptr 1 b1 5), (98, aI x.n), (99, aB (x.n == 0)), (100, aB true), (101, .ptr 1 b1 7), (102, .sl 4 false (x.told.map donA)), (103, aI ((x.told.map donA).length : Int))], [(1, .box b1 26 (zRg1 x))]⟩
def zRg69 (b1 : Nat) (x : Cli) : LS := ⟨[(1, .ptr 1 b1 0), (2, aB false), (87, .ptr 1 b1 7), (88, .sl 4 false (x.told.map donA)), (89, aI (x.told.length : Int)), (90, .ptr 1 b1 2), (91, aI x.seq), (92, aI (x.seq - 1)), (93, aB ((x.told.length : Int) != (x.seq - 1)))], [(1, .box b1 26 (zRg1 x))]⟩
def zRg70 (b1 : Nat) (x : Cli) : LS := ⟨[(1, .ptr 1 b1 0), (2, aB false), (66, aB (x.phase == 3)), (67, .ptr 1 b1 5), (68, aI x.n), (69, aB (x.n == 0)), (70, aB true), (71, .ptr 1 b1 7), (72, .sl 4 false (x.told.map donA)), (73, aI ((x.told.map donA).length : Int))], [(1, .box b1 26 (zRg1 x))]⟩
def zRg71 (b1 : Nat) (x : Cli) : LS := ⟨[(1, .ptr 1 b1 0), (2, aB false), (109, .ptr 1 b1 7), (110, .sl 4 false (x.told.map donA)), (111, aI (x.told.length : Int)), (112, .ptr 1 b1 3), (113, .sl 1 false (x.jobs.map jobA)), (114, aI ((x.jobs.map jobA).length : Int))], [(1, .box b1 26 (zRg1 x))]⟩
def zRg72 (x : Cli) : LS := ⟨[(2, aB (x.n == ((jobOf x).length : Int)))], []⟩
def zRg73 (b1 : Nat) (x : Cli) : LS := ⟨[(1, .ptr 1 b1 0), (2, aB false), (96, aB (x.phase == 4)), (97, .ptr 1 b1 5), (98, aI x.n), (99, aB (x.n == 0)), (100, aB true), (101, .ptr 1 b1 7), (102, .sl 4 false (x.told.map donA)), (103, aI (x.told.length : Int))], [(1, .box b1 26 (zRg1 x))]⟩
def zRg74 (b1 : Nat) (x : Cli) : LS := ⟨[(1, .ptr 1 b1 0), (2, aB false), (66, aB (x.phase == 3)), (67, .ptr 1 b1 5), (68, aI x.n), (69, aB (x.n == 0)), (70, aB true), (71, .ptr 1 b1 7), (72, .sl 4 false (x.told.map donA)), (73, aI (x.told.length : Int))], [(1, .box b1 26 (zRg1 x))]⟩
def zRg75 (b1 : Nat) (x : Cli) : LS := ⟨[(1, .ptr 1 b1 0), (2, aB false), (109, .ptr 1 b1 7), (110, .sl 4 false (x.told.map donA)), (111, aI (x.told.length : Int)), (112, .ptr 1 b1 3), (113, .sl 1 false (x.jobs.map jobA)), (114, aI (x.jobs.length : Int))], [(1, .box b1 26 (zRg1 x))]⟩
def zRg76 (b1 : Nat) (x : Cli) : LS := ⟨[(1, .ptr 1 b1 0), (2, aB false), (116, .ptr 1 b1 4), (117, aI x.phase), (118, aB (x.phase == 0)), (119, aB true), (120, .ptr 1 b1 5), (121, aI x.n), (122, aB (x.n == 0)), (123, aB (x.n == 0)), (124, aB (x.n == 0))], [(1, .box b1 26 (zRg1 x))]⟩
def zRg77 : List Nat := [21, 22, 23, 24, 25, 26, 27, 28, 29, 30, 31, 32]
def zRg78 (b1 : Nat) (x : Cli) : LS := ⟨[(1, .ptr 1 b1 0), (2, aB false), (116, .ptr 1 b1 4), (117, aI x.phase), (118, aB (x.phase == 0)), (119, aB true), (120, .ptr 1 b1 5), (121, aI x.n), (122, aB (x.n == 0)), (123, aB (x.n == 0)), (124, aB false)], [(1, .box b1 26 (zRg1 x))]⟩
def zRg79 : List Nat := [9, 10, 11, 12, 13, 14, 15, 16, 17, 18, 19, 20, 21, 22, 23, 24, 25, 26, 27, 28, 29, 30, 31, 32]
def zRg80 (b1 : Nat) (x : Cli) : LS := ⟨[(1, .ptr 1 b1 0), (2, aB false), (116, .ptr 1 b1 4), (117, aI x.phase), (118, aB (x.phase == 0)), (119, aB true), (120, .ptr 1 b1 5), (121, aI x.n), (122, aB (x.n == 0)), (123, aB (x.n == 0)), (124, aB true)], [(1, .box b1 26 (zRg1 x))]⟩
def zRg81 : List Nat := [13, 14, 15, 16, 17, 18, 19, 20, 21, 22, 23, 24, 25, 26, 27, 28, 29, 30, 31, 32]
def zRg82 : List Nat := [16, 17, 18, 19, 20, 21, 22, 23, 24, 25, 26, 27, 28, 29, 30, 31, 32]
def zRg83 (x : Cli) : List AV := [aB (x.n == ((jobOf x).length : Int))]
def zRg84 (b1 : Nat) (x : Cli) : LS := ⟨[(1, .ptr 1 b1 0), (2, aB false), (109, .ptr 1 b1 7), (110, .sl 4 false (x.told.map donA)), (111, aI ((x.told.map donA).length : Int))], [(1, .box b1 26 (zRg1 x))]⟩
def zRg85 (b1 : Nat) (x : Cli) : LS := ⟨[(1, .ptr 1 b1 0), (2, aB false), (96, aB (x.phase == 4)), (97, .ptr 1 b1 5), (98, aI x.n), (99, aB (x.n == 0)), (100, aB (x.n == 0))], [(1, .box b1 26 (zRg1 x))]⟩
def zRg86 (b1 : Nat) (x : Cli) : LS := ⟨[(1, .ptr 1 b1 0), (2, aB false), (66, aB (x.phase == 3)), (67, .ptr 1 b1 5), (68, aI x.n), (69, aB (x.n == 0)), (70, aB (x.n == 0))], [(1, .box b1 26 (zRg1 x))]⟩
def zRg87 (b1 : Nat) (x : Cli) : LS := ⟨[(1, .ptr 1 b1 0), (2, aB false), (87, .ptr 1 b1 7), (88, .sl 4 false (x.told.map donA)), (89, aI ((x.told.map donA).length : Int))], [(1, .box b1 26 (zRg1 x))]⟩
def zRg88 (b1 : Nat) (x : Cli) : LS := ⟨[(1, .ptr 1 b1 0), (2, aB false), (96, aB (x.phase == 4)), (97, .ptr 1 b1 5), (98, aI x.n), (99, aB (x.n == 0)), (100, aB false)], [(1, .box b1 26 (zRg1 x))]⟩
def zRg89 (b1 : Nat) (x : Cli) : LS := ⟨[(1, .ptr 1 b1 0), (2, aB false), (66, aB (x.phase == 3)), (67, .ptr 1 b1 5), (68, aI x.n), (69, aB (x.n == 0)), (70, aB false)], [(1, .box b1 26 (zRg1 x))]⟩
def zRg90 (b1 : Nat) (x : Cli) : LS := ⟨[(1, .ptr 1 b1 0), (2, aB false), (96, aB (x.phase == 4)), (97, .ptr 1 b1 5), (98, aI x.n), (99, aB (x.n == 0)), (100, aB true)], [(1, .box b1 26 (zRg1 x))]⟩
def zRg91 : List Nat := [4, 5, 6, 7, 8, 9, 10, 11, 12, 13, 14, 15, 16, 17, 18, 19, 20]
def zRg92 (b1 : Nat) (x : Cli) : LS := ⟨[(1, .ptr 1 b1 0), (2, aB false), (66, aB (x.phase == 3)), (67, .ptr 1 b1 5), (68, aI x.n), (69, aB (x.n == 0)), (70, aB true)], [(1, .box b1 26 (zRg1 x))]⟩
def zRg93 (b1 : Nat) (x : Cli) : LS := ⟨[(1, .ptr 1 b1 0), (2, aB false), (109, .ptr 1 b1 7), (110, .sl 4 false (x.told.map donA)), (111, aI (x.told.length : Int))], [(1, .box b1 26 (zRg1 x))]⟩
def zRg94 (b1 : Nat) (x : Cli) : LS := ⟨[(1, .ptr 1 b1 0), (2, aB false), (116, .ptr 1 b1 4), (117, aI x.phase), (118, aB (x.phase == 0)), (119, aB (x.phase == 0))], [(1, .box b1 26 (zRg1 x))]⟩
def zRg95 (b1 : Nat) (x : Cli) : LS := ⟨[(1, .ptr 1 b1 0), (2, aB false), (87, .ptr 1 b1 7), (88, .sl 4 false (x.told.map donA)), (89, aI (x.told.length : Int))], [(1, .box b1 26 (zRg1 x))]⟩
def zRg96 (b1 : Nat) (x : Cli) : LS := ⟨[(1, .ptr 1 b1 0), (2, aB false), (116, .ptr 1 b1 4), (117, aI x.phase), (118, aB (x.phase == 0)), (119, aB false)], [(1, .box b1 26 (zRg1 x))]⟩
def zRg97 (b1 : Nat) (x : Cli) : LS := ⟨[(1, .ptr 1 b1 0), (2, aB false), (116, .ptr 1 b1 4), (117, aI x.phase), (118, aB (x.phase == 0)), (119, aB true)], [(1, .box b1 26 (zRg1 x))]⟩
def zRg98 : List Nat := [0, 1, 2, 3, 4, 5, 6, 7, 8, 9, 10, 11, 12, 13, 14, 15, 16, 17, 18, 19, 20, 21, 22, 23, 24, 25, 26, 27, 28, 29, 30, 31, 32]
def zRg99 (b1 : Nat) (x : Cli) : LS := ⟨[(1, .ptr 1 b1 0), (2, aB false), (64, .ptr 1 b1 4), (65, aI x.phase), (66, aB (x.phase == 3))], [(1, .box b1 26 (zRg1 x))]⟩
def zRg100 (b1 : Nat) (x : Cli) : LS := ⟨[(1, .ptr 1 b1 0), (2, aB false), (94, .ptr 1 b1 4), (95, aI x.phase), (96, aB (x.phase == 4))], [(1, .box b1 26 (zRg1 x))]⟩
def zRg101 : List Nat := [4, 5, 6, 7, 8, 9, 10, 11, 12, 13, 14, 15, 16, 17, 18, 19, 20, 21, 22, 23, 24, 25, 26, 27, 28, 29, 30, 31, 32]
def zRg102 : List Nat := [13, 14, 15, 16, 17, 18, 19, 20, 21, 22, 23, 24]
def zRg103 (b1 : Nat) (x : Cli) : LS := ⟨[(1, .ptr 1 b1 0), (2, aB (decide ((x.told.length : Int) ≤ (x.jobs.length : Int))))], [(1, .box b1 26 (zRg1 x))]⟩
def zRg104 (b1 : Nat) (x : Cli) : LS := ⟨[(1, .ptr 1 b1 0), (2, aB ((x.told.length : Int) == (x.jobs.length : Int)))], [(1, .box b1 26 (zRg1 x))]⟩
def zRg105 : List Nat := [12, 13, 14, 15, 16, 17, 18, 19, 20]
def zRg106 (b1 : Nat) (x : Cli) : LS := ⟨[(1, .ptr 1 b1 0), (2, aB false), (66, aB (x.phase == 3))], [(1, .box b1 26 (zRg1 x))]⟩
def zRg107 : List Nat := [0, 1, 2, 3, 4, 5, 6, 7, 8, 9, 10, 11, 12, 13, 14, 15, 16, 17, 18, 19, 20]
def zRg108 (b1 : Nat) (x : Cli) : LS := ⟨[(1, .ptr 1 b1 0), (2, aB false), (96, aB (x.phase == 4))], [(1, .box b1 26 (zRg1 x))]⟩
set_option maxRecDepth 100000 in
set_option maxHeartbeats 4000000 in
theorem rright_spec (x : Cli) (ok : OkX x) : FSpec Try.prog 24 [.agg [aI x.me, aI x.epoch, aI x.seq, .sl 1 false (x.jobs.map jobA), aI x.phase, aI x.n, aI x.stamp, .sl 4 false (x.told.map donA), .sl 6 false (x.now.map repA)]] (aB (decide (RightP x))) := by
  have hs : I64 x.seq := ok.1.1.2.2.1
  have hs0 := hs.1
  have hs9 := hs.2
  have ht : x.told.length ≤ 8796093022207 := ok.1.2.2.1
  refine spec_enter ⟨[(0, .agg (zRg1 x))], []⟩ Try.func24 rfl (by kernel_rfl) (by kernel_rfl) rfl (fun t => match t with | 0 => rfl | _ + 1 => rfl) (fun c hc => ?_)
  replace hc : c.n = 148 := hc
  refine awp_seq_k (fun K1 hK1 => ?_)
  refine awp_region [0, 1] (by rw [hc]; kernel_rfl) (by kernel_rfl) ?_
  refine seq_new (f := fun b1 => ⟨[(0, .agg (zRg1 x)), (1, .ptr 1 b1 0)], [(1, .box b1 26 (zRg1 x))]⟩) (by kernel_rfl) (fun b1 => ?_)
  refine seq_run (r := []) [1] (s' := ⟨[(0, .agg (zRg1 x)), (1, .ptr 1 b1 0), (2, aB false)], [(1, .box b1 26 (zRg1 x))]⟩) (ps := []) (by kernel_rfl) trivial ?_
  refine hK1 _ ?_
  try clear hK1 K1
  refine awp_less (zRg2 b1 x) ⟨Sub.refl _, Sub.refl _, trivial⟩ ⟨⟨_, rfl, SubB.refl _⟩, trivial⟩ ?_
  refine awp_seq_k (fun K2 hK2 => ?_)
  refine awp_seq_k (fun K3 hK3 => ?_)
  refine awp_region [0, 1, 2, 3, 4, 5, 6, 7, 8, 9, 10, 11, 12, 13, 14, 15, 16, 17, 18, 19, 20, 21, 22, 23, 24, 25, 26, 27, 28, 29, 30] (by rw [hc]; kernel_rfl) (by kernel_rfl) ?_
  refine seq_run (r := [4, 5, 6, 7, 8, 9, 10, 11, 12, 13, 14, 15, 16, 17, 18, 19, 20, 21, 22, 23, 24, 25, 26, 27, 28, 29, 30]) [0, 1, 2, 3] (s' := ⟨[(1, .ptr 1 b1 0), (2, aB false), (4, .ptr 1 b1 0), (5, aI x.me), (6, aB (decide (x.me < 0))), (7, aB (decide (x.me < 0)))], [(1, .box b1 26 (zRg1 x))]⟩) (ps := [b1 = b1]) (by kernel_rfl) ⟨rfl, trivial⟩ ?_
  rcases decC (x.me < 0) with ⟨q1, p1⟩ | ⟨q1, p1⟩
  ·
    refine seq_bool (s' := ⟨[(1, .ptr 1 b1 0), (2, aB false), (4, .ptr 1 b1 0), (5, aI x.me), (6, aB (decide (x.me < 0))), (7, aB true)], [(1, .box b1 26 (zRg1 x))]⟩) 7 (b := decide (x.me < 0)) (v := true) q1 (by kernel_rfl) (by kernel_rfl) ?_
    refine seq_run (r := []) [4, 5, 6, 7, 8, 9, 10, 11, 12, 13, 14, 15, 16, 17, 18, 19, 20, 21, 22, 23, 24, 25, 26, 27, 28, 29, 30] (s' := ⟨[(1, .ptr 1 b1 0), (2, aB false), (4, .ptr 1 b1 0), (5, aI x.me), (6, aB (decide (x.me < 0))), (7, aB true), (8, .val undef), (9, .val undef), (10, .val undef), (11, aB true), (12, aB true), (13, .val undef), (14, .val undef), (15, .val undef), (16, aB true), (17, aB true), (18, .val undef), (19, .val undef), (20, .val undef), (21, aB true), (22, aB true), (23, .val undef), (24, .val undef), (25, .val undef), (26, aB true), (27, aB true), (28, .val undef), (29, .val undef), (30, .val undef), (31, .val undef), (32, .val undef), (33, .val undef), (34, aB true)], [(1, .box b1 26 (zRg1 x))]⟩) (ps := []) (by kernel_rfl) trivial ?_
    refine hK3 _ ?_
    try clear hK3 K3
    refine awp_less (zRg59 b1 x) ⟨Sub.refl _, Sub.refl _, Sub.refl _, trivial⟩ ⟨⟨_, rfl, SubB.refl _⟩, trivial⟩ ?_
    refine awp_if true (by omega) (by kernel_rfl) rfl ?_
    refine awp_seq_k (fun K4 hK4 => ?_)
    refine awp_region [0] (by rw [hc]; kernel_rfl) (by kernel_rfl) ?_
    refine seq_run (r := []) [0] (s' := (zRg59 b1 x)) (ps := []) (by kernel_rfl) trivial ?_
    refine hK4 _ ?_
    try clear hK4 K4
    refine awp_less (zRg2 b1 x) ⟨Sub.refl _, Sub.refl _, trivial⟩ ⟨⟨_, rfl, SubB.refl _⟩, trivial⟩ ?_
    refine awp_ret ?_
    refine fin_ret ⟨[], [aB false], by kernel_rfl, trivial, ?_⟩
    show Copyhold.Sub (aB (false)) (aB _)
    refine Sub.of_eq (congrArg aB (decide_eq_false ?_).symm)
    intro h
    obtain ⟨g1, g2, g3, g4, g5, g6, g7⟩ := h
    unfold RT at g6
    unfold RC at g7
    omega
  refine seq_bool (s' := ⟨[(1, .ptr 1 b1 0), (2, aB false), (4, .ptr 1 b1 0), (5, aI x.me), (6, aB (decide (x.me < 0))), (7, aB false)], [(1, .box b1 26 (zRg1 x))]⟩) 7 (b := decide (x.me < 0)) (v := false) q1 (by kernel_rfl) (by kernel_rfl) ?_
  refine seq_run (r := [9, 10, 11, 12, 13, 14, 15, 16, 17, 18, 19, 20, 21, 22, 23, 24, 25, 26, 27, 28, 29, 30]) [4, 5, 6, 7, 8] (s' := ⟨[(1, .ptr 1 b1 0), (2, aB false), (4, .ptr 1 b1 0), (5, aI x.me), (6, aB (decide (x.me < 0))), (7, aB false), (8, .ptr 1 b1 1), (9, aI x.epoch), (10, aB (decide (x.epoch < 1))), (11, aB (decide (x.epoch < 1))), (12, aB (decide (x.epoch < 1)))], [(1, .box b1 26 (zRg1 x))]⟩) (ps := [b1 = b1]) (by kernel_rfl) ⟨rfl, trivial⟩ ?_
  rcases decC (x.epoch < 1) with ⟨q2, p2⟩ | ⟨q2, p2⟩
  ·
    refine seq_bool (s' := ⟨[(1, .ptr 1 b1 0), (2, aB false), (4, .ptr 1 b1 0), (5, aI x.me), (6, aB (decide (x.me < 0))), (7, aB false), (8, .ptr 1 b1 1), (9, aI x.epoch), (10, aB (decide (x.epoch < 1))), (11, aB (decide (x.epoch < 1))), (12, aB true)], [(1, .box b1 26 (zRg1 x))]⟩) 12 (b := decide (x.epoch < 1)) (v := true) q2 (by kernel_rfl) (by kernel_rfl) ?_
    refine seq_run (r := []) [9, 10, 11, 12, 13, 14, 15, 16, 17, 18, 19, 20, 21, 22, 23, 24, 25, 26, 27, 28, 29, 30] (s' := ⟨[(1, .ptr 1 b1 0), (2, aB false), (4, .ptr 1 b1 0), (5, aI x.me), (6, aB (decide (x.me < 0))), (7, aB false), (8, .ptr 1 b1 1), (9, aI x.epoch), (10, aB (decide (x.epoch < 1))), (11, aB (decide (x.epoch < 1))), (12, aB true), (13, .val undef), (14, .val undef), (15, .val undef), (16, aB true), (17, aB true), (18, .val undef), (19, .val undef), (20, .val undef), (21, aB true), (22, aB true), (23, .val undef), (24, .val undef), (25, .val undef), (26, aB true), (27, aB true), (28, .val undef), (29, .val undef), (30, .val undef), (31, .val undef), (32, .val undef), (33, .val undef), (34, aB true)], [(1, .box b1 26 (zRg1 x))]⟩) (ps := []) (by kernel_rfl) trivial ?_
    refine hK3 _ ?_
    try clear hK3 K3
    refine awp_less (zRg59 b1 x) ⟨Sub.refl _, Sub.refl _, Sub.refl _, trivial⟩ ⟨⟨_, rfl, SubB.refl _⟩, trivial⟩ ?_
    refine awp_if true (by omega) (by kernel_rfl) rfl ?_
    refine awp_seq_k (fun K5 hK5 => ?_)
    refine awp_region [0] (by rw [hc]; kernel_rfl) (by kernel_rfl) ?_
    refine seq_run (r := []) [0] (s' := (zRg59 b1 x)) (ps := []) (by kernel_rfl) trivial ?_
    refine hK5 _ ?_
    try clear hK5 K5
    refine awp_less (zRg2 b1 x) ⟨Sub.refl _, Sub.refl _, trivial⟩ ⟨⟨_, rfl, SubB.refl _⟩, trivial⟩ ?_
    refine awp_ret ?_
    refine fin_ret ⟨[], [aB false], by kernel_rfl, trivial, ?_⟩
    show Copyhold.Sub (aB (false)) (aB _)
    refine Sub.of_eq (congrArg aB (decide_eq_false ?_).symm)
    intro h
    obtain ⟨g1, g2, g3, g4, g5, g6, g7⟩ := h
    unfold RT at g6
    unfold RC at g7
    omega
  refine seq_bool (s' := ⟨[(1, .ptr 1 b1 0), (2, aB false), (4, .ptr 1 b1 0), (5, aI x.me), (6, aB (decide (x.me < 0))), (7, aB false), (8, .ptr 1 b1 1), (9, aI x.epoch), (10, aB (decide (x.epoch < 1))), (11, aB (decide (x.epoch < 1))), (12, aB false)], [(1, .box b1 26 (zRg1 x))]⟩) 12 (b := decide (x.epoch < 1)) (v := false) q2 (by kernel_rfl) (by kernel_rfl) ?_
  refine seq_run (r := [14, 15, 16, 17, 18, 19, 20, 21, 22, 23, 24, 25, 26, 27, 28, 29, 30]) [9, 10, 11, 12, 13] (s' := ⟨[(1, .ptr 1 b1 0), (2, aB false), (4, .ptr 1 b1 0), (5, aI x.me), (6, aB (decide (x.me < 0))), (7, aB false), (8, .ptr 1 b1 1), (9, aI x.epoch), (10, aB (decide (x.epoch < 1))), (11, aB (decide (x.epoch < 1))), (12, aB false), (13, .ptr 1 b1 2), (14, aI x.seq), (15, aB (decide (x.seq < 1))), (16, aB (decide (x.seq < 1))), (17, aB (decide (x.seq < 1)))], [(1, .box b1 26 (zRg1 x))]⟩) (ps := [b1 = b1]) (by kernel_rfl) ⟨rfl, trivial⟩ ?_
  rcases decC (x.seq < 1) with ⟨q3, p3⟩ | ⟨q3, p3⟩
  ·
    refine seq_bool (s' := ⟨[(1, .ptr 1 b1 0), (2, aB false), (4, .ptr 1 b1 0), (5, aI x.me), (6, aB (decide (x.me < 0))), (7, aB false), (8, .ptr 1 b1 1), (9, aI x.epoch), (10, aB (decide (x.epoch < 1))), (11, aB (decide (x.epoch < 1))), (12, aB false), (13, .ptr 1 b1 2), (14, aI x.seq), (15, aB (decide (x.seq < 1))), (16, aB (decide (x.seq < 1))), (17, aB true)], [(1, .box b1 26 (zRg1 x))]⟩) 17 (b := decide (x.seq < 1)) (v := true) q3 (by kernel_rfl) (by kernel_rfl) ?_
    refine seq_run (r := []) [14, 15, 16, 17, 18, 19, 20, 21, 22, 23, 24, 25, 26, 27, 28, 29, 30] (s' := ⟨[(1, .ptr 1 b1 0), (2, aB false), (4, .ptr 1 b1 0), (5, aI x.me), (6, aB (decide (x.me < 0))), (7, aB false), (8, .ptr 1 b1 1), (9, aI x.epoch), (10, aB (decide (x.epoch < 1))), (11, aB (decide (x.epoch < 1))), (12, aB false), (13, .ptr 1 b1 2), (14, aI x.seq), (15, aB (decide (x.seq < 1))), (16, aB (decide (x.seq < 1))), (17, aB true), (18, .val undef), (19, .val undef), (20, .val undef), (21, aB true), (22, aB true), (23, .val undef), (24, .val undef), (25, .val undef), (26, aB true), (27, aB true), (28, .val undef), (29, .val undef), (30, .val undef), (31, .val undef), (32, .val undef), (33, .val undef), (34, aB true)], [(1, .box b1 26 (zRg1 x))]⟩) (ps := []) (by kernel_rfl) trivial ?_
    refine hK3 _ ?_
    try clear hK3 K3
    refine awp_less (zRg59 b1 x) ⟨Sub.refl _, Sub.refl _, Sub.refl _, trivial⟩ ⟨⟨_, rfl, SubB.refl _⟩, trivial⟩ ?_
    refine awp_if true (by omega) (by kernel_rfl) rfl ?_
    refine awp_seq_k (fun K6 hK6 => ?_)
    refine awp_region [0] (by rw [hc]; kernel_rfl) (by kernel_rfl) ?_
    refine seq_run (r := []) [0] (s' := (zRg59 b1 x)) (ps := []) (by kernel_rfl) trivial ?_
    refine hK6 _ ?_
    try clear hK6 K6
    refine awp_less (zRg2 b1 x) ⟨Sub.refl _, Sub.refl _, trivial⟩ ⟨⟨_, rfl, SubB.refl _⟩, trivial⟩ ?_
    refine awp_ret ?_
    refine fin_ret ⟨[], [aB false], by kernel_rfl, trivial, ?_⟩
    show Copyhold.Sub (aB (false)) (aB _)
    refine Sub.of_eq (congrArg aB (decide_eq_false ?_).symm)
    intro h
    obtain ⟨g1, g2, g3, g4, g5, g6, g7⟩ := h
    unfold RT at g6
    unfold RC at g7
    omega
  refine seq_bool (s' := ⟨[(1, .ptr 1 b1 0), (2, aB false), (4, .ptr 1 b1 0), (5, aI x.me), (6, aB (decide (x.me < 0))), (7, aB false), (8, .ptr 1 b1 1), (9, aI x.epoch), (10, aB (decide (x.epoch < 1))), (11, aB (decide (x.epoch < 1))), (12, aB false), (13, .ptr 1 b1 2), (14, aI x.seq), (15, aB (decide (x.seq < 1))), (16, aB (decide (x.seq < 1))), (17, aB false)], [(1, .box b1 26 (zRg1 x))]⟩) 17 (b := decide (x.seq < 1)) (v := false) q3 (by kernel_rfl) (by kernel_rfl) ?_
  refine seq_run (r := [19, 20, 21, 22, 23, 24, 25, 26, 27, 28, 29, 30]) [14, 15, 16, 17, 18] (s' := ⟨[(1, .ptr 1 b1 0), (2, aB false), (4, .ptr 1 b1 0), (5, aI x.me), (6, aB (decide (x.me < 0))), (7, aB false), (8, .ptr 1 b1 1), (9, aI x.epoch), (10, aB (decide (x.epoch < 1))), (11, aB (decide (x.epoch < 1))), (12, aB false), (13, .ptr 1 b1 2), (14, aI x.seq), (15, aB (decide (x.seq < 1))), (16, aB (decide (x.seq < 1))), (17, aB false), (18, .ptr 1 b1 4), (19, aI x.phase), (20, aB (decide (x.phase < 0))), (21, aB (decide (x.phase < 0))), (22, aB (decide (x.phase < 0)))], [(1, .box b1 26 (zRg1 x))]⟩) (ps := [b1 = b1]) (by kernel_rfl) ⟨rfl, trivial⟩ ?_
  rcases decC (x.phase < 0) with ⟨q4, p4⟩ | ⟨q4, p4⟩
  ·
    refine seq_bool (s' := ⟨[(1, .ptr 1 b1 0), (2, aB false), (4, .ptr 1 b1 0), (5, aI x.me), (6, aB (decide (x.me < 0))), (7, aB false), (8, .ptr 1 b1 1), (9, aI x.epoch), (10, aB (decide (x.epoch < 1))), (11, aB (decide (x.epoch < 1))), (12, aB false), (13, .ptr 1 b1 2), (14, aI x.seq), (15, aB (decide (x.seq < 1))), (16, aB (decide (x.seq < 1))), (17, aB false), (18, .ptr 1 b1 4), (19, aI x.phase), (20, aB (decide (x.phase < 0))), (21, aB (decide (x.phase < 0))), (22, aB true)], [(1, .box b1 26 (zRg1 x))]⟩) 22 (b := decide (x.phase < 0)) (v := true) q4 (by kernel_rfl) (by kernel_rfl) ?_
    refine seq_run (r := []) [19, 20, 21, 22, 23, 24, 25, 26, 27, 28, 29, 30] (s' := ⟨[(1, .ptr 1 b1 0), (2, aB false), (4, .ptr 1 b1 0), (5, aI x.me), (6, aB (decide (x.me < 0))), (7, aB false), (8, .ptr 1 b1 1), (9, aI x.epoch), (10, aB (decide (x.epoch < 1))), (11, aB (decide (x.epoch < 1))), (12, aB false), (13, .ptr 1 b1 2), (14, aI x.seq), (15, aB (decide (x.seq < 1))), (16, aB (decide (x.seq < 1))), (17, aB false), (18, .ptr 1 b1 4), (19, aI x.phase), (20, aB (decide (x.phase < 0))), (21, aB (decide (x.phase < 0))), (22, aB true), (23, .val undef), (24, .val undef), (25, .val undef), (26, aB true), (27, aB true), (28, .val undef), (29, .val undef), (30, .val undef), (31, .val undef), (32, .val undef), (33, .val undef), (34, aB true)], [(1, .box b1 26 (zRg1 x))]⟩) (ps := []) (by kernel_rfl) trivial ?_
    refine hK3 _ ?_
    try clear hK3 K3
    refine awp_less (zRg59 b1 x) ⟨Sub.refl _, Sub.refl _, Sub.refl _, trivial⟩ ⟨⟨_, rfl, SubB.refl _⟩, trivial⟩ ?_
    refine awp_if true (by omega) (by kernel_rfl) rfl ?_
    refine awp_seq_k (fun K7 hK7 => ?_)
    refine awp_region [0] (by rw [hc]; kernel_rfl) (by kernel_rfl) ?_
    refine seq_run (r := []) [0] (s' := (zRg59 b1 x)) (ps := []) (by kernel_rfl) trivial ?_
    refine hK7 _ ?_
    try clear hK7 K7
    refine awp_less (zRg2 b1 x) ⟨Sub.refl _, Sub.refl _, trivial⟩ ⟨⟨_, rfl, SubB.refl _⟩, trivial⟩ ?_
    refine awp_ret ?_
    refine fin_ret ⟨[], [aB false], by kernel_rfl, trivial, ?_⟩
    show Copyhold.Sub (aB (false)) (aB _)
    refine Sub.of_eq (congrArg aB (decide_eq_false ?_).symm)
    intro h
    obtain ⟨g1, g2, g3, g4, g5, g6, g7⟩ := h
    unfold RT at g6
    unfold RC at g7
    omega
  refine seq_bool (s' := ⟨[(1, .ptr 1 b1 0), (2, aB false), (4, .ptr 1 b1 0), (5, aI x.me), (6, aB (decide (x.me < 0))), (7, aB false), (8, .ptr 1 b1 1), (9, aI x.epoch), (10, aB (decide (x.epoch < 1))), (11, aB (decide (x.epoch < 1))), (12, aB false), (13, .ptr 1 b1 2), (14, aI x.seq), (15, aB (decide (x.seq < 1))), (16, aB (decide (x.seq < 1))), (17, aB false), (18, .ptr 1 b1 4), (19, aI x.phase), (20, aB (decide (x.phase < 0))), (21, aB (decide (x.phase < 0))), (22, aB false)], [(1, .box b1 26 (zRg1 x))]⟩) 22 (b := decide (x.phase < 0)) (v := false) q4 (by kernel_rfl) (by kernel_rfl) ?_
  refine seq_run (r := [24, 25, 26, 27, 28, 29, 30]) [19, 20, 21, 22, 23] (s' := ⟨[(1, .ptr 1 b1 0), (2, aB false), (4, .ptr 1 b1 0), (5, aI x.me), (6, aB (decide (x.me < 0))), (7, aB false), (8, .ptr 1 b1 1), (9, aI x.epoch), (10, aB (decide (x.epoch < 1))), (11, aB (decide (x.epoch < 1))), (12, aB false), (13, .ptr 1 b1 2), (14, aI x.seq), (15, aB (decide (x.seq < 1))), (16, aB (decide (x.seq < 1))), (17, aB false), (18, .ptr 1 b1 4), (19, aI x.phase), (20, aB (decide (x.phase < 0))), (21, aB (decide (x.phase < 0))), (22, aB false), (23, .ptr 1 b1 4), (24, aI x.phase), (25, aB (decide (x.phase > 4))), (26, aB (decide (x.phase > 4))), (27, aB (decide (x.phase > 4)))], [(1, .box b1 26 (zRg1 x))]⟩) (ps := [b1 = b1]) (by kernel_rfl) ⟨rfl, trivial⟩ ?_
  rcases decC (x.phase > 4) with ⟨q5, p5⟩ | ⟨q5, p5⟩
  ·
    refine seq_bool (s' := ⟨[(1, .ptr 1 b1 0), (2, aB false), (4, .ptr 1 b1 0), (5, aI x.me), (6, aB (decide (x.me < 0))), (7, aB false), (8, .ptr 1 b1 1), (9, aI x.epoch), (10, aB (decide (x.epoch < 1))), (11, aB (decide (x.epoch < 1))), (12, aB false), (13, .ptr 1 b1 2), (14, aI x.seq), (15, aB (decide (x.seq < 1))), (16, aB (decide (x.seq < 1))), (17, aB false), (18, .ptr 1 b1 4), (19, aI x.phase), (20, aB (decide (x.phase < 0))), (21, aB (decide (x.phase < 0))), (22, aB false), (23, .ptr 1 b1 4), (24, aI x.phase), (25, aB (decide (x.phase > 4))), (26, aB (decide (x.phase > 4))), (27, aB true)], [(1, .box b1 26 (zRg1 x))]⟩) 27 (b := decide (x.phase > 4)) (v := true) q5 (by kernel_rfl) (by kernel_rfl) ?_
    refine seq_run (r := []) [24, 25, 26, 27, 28, 29, 30] (s' := ⟨[(1, .ptr 1 b1 0), (2, aB false), (4, .ptr 1 b1 0), (5, aI x.me), (6, aB (decide (x.me < 0))), (7, aB false), (8, .ptr 1 b1 1), (9, aI x.epoch), (10, aB (decide (x.epoch < 1))), (11, aB (decide (x.epoch < 1))), (12, aB false), (13, .ptr 1 b1 2), (14, aI x.seq), (15, aB (decide (x.seq < 1))), (16, aB (decide (x.seq < 1))), (17, aB false), (18, .ptr 1 b1 4), (19, aI x.phase), (20, aB (decide (x.phase < 0))), (21, aB (decide (x.phase < 0))), (22, aB false), (23, .ptr 1 b1 4), (24, aI x.phase), (25, aB (decide (x.phase > 4))), (26, aB (decide (x.phase > 4))), (27, aB true), (28, .val undef), (29, .val undef), (30, .val undef), (31, .val undef), (32, .val undef), (33, .val undef), (34, aB true)], [(1, .box b1 26 (zRg1 x))]⟩) (ps := []) (by kernel_rfl) trivial ?_
    refine hK3 _ ?_
    try clear hK3 K3
    refine awp_less (zRg59 b1 x) ⟨Sub.refl _, Sub.refl _, Sub.refl _, trivial⟩ ⟨⟨_, rfl, SubB.refl _⟩, trivial⟩ ?_
    refine awp_if true (by omega) (by kernel_rfl) rfl ?_
    refine awp_seq_k (fun K8 hK8 => ?_)
    refine awp_region [0] (by rw [hc]; kernel_rfl) (by kernel_rfl) ?_
    refine seq_run (r := []) [0] (s' := (zRg59 b1 x)) (ps := []) (by kernel_rfl) trivial ?_
    refine hK8 _ ?_
    try clear hK8 K8
    refine awp_less (zRg2 b1 x) ⟨Sub.refl _, Sub.refl _, trivial⟩ ⟨⟨_, rfl, SubB.refl _⟩, trivial⟩ ?_
    refine awp_ret ?_
    refine fin_ret ⟨[], [aB false], by kernel_rfl, trivial, ?_⟩
    show Copyhold.Sub (aB (false)) (aB _)
    refine Sub.of_eq (congrArg aB (decide_eq_false ?_).symm)
    intro h
    obtain ⟨g1, g2, g3, g4, g5, g6, g7⟩ := h
    unfold RT at g6
    unfold RC at g7
    omega
  refine seq_bool (s' := ⟨[(1, .ptr 1 b1 0), (2, aB false), (4, .ptr 1 b1 0), (5, aI x.me), (6, aB (decide (x.me < 0))), (7, aB false), (8, .ptr 1 b1 1), (9, aI x.epoch), (10, aB (decide (x.epoch < 1))), (11, aB (decide (x.epoch < 1))), (12, aB false), (13, .ptr 1 b1 2), (14, aI x.seq), (15, aB (decide (x.seq < 1))), (16, aB (decide (x.seq < 1))), (17, aB false), (18, .ptr 1 b1 4), (19, aI x.phase), (20, aB (decide (x.phase < 0))), (21, aB (decide (x.phase < 0))), (22, aB false), (23, .ptr 1 b1 4), (24, aI x.phase), (25, aB (decide (x.phase > 4))), (26, aB (decide (x.phase > 4))), (27, aB false)], [(1, .box b1 26 (zRg1 x))]⟩) 27 (b := decide (x.phase > 4)) (v := false) q5 (by kernel_rfl) (by kernel_rfl) ?_
  refine seq_run (r := [29, 30]) [24, 25, 26, 27, 28] (s' := ⟨[(1, .ptr 1 b1 0), (2, aB false), (4, .ptr 1 b1 0), (5, aI x.me), (6, aB (decide (x.me < 0))), (7, aB false), (8, .ptr 1 b1 1), (9, aI x.epoch), (10, aB (decide (x.epoch < 1))), (11, aB (decide (x.epoch < 1))), (12, aB false), (13, .ptr 1 b1 2), (14, aI x.seq), (15, aB (decide (x.seq < 1))), (16, aB (decide (x.seq < 1))), (17, aB false), (18, .ptr 1 b1 4), (19, aI x.phase), (20, aB (decide (x.phase < 0))), (21, aB (decide (x.phase < 0))), (22, aB false), (23, .ptr 1 b1 4), (24, aI x.phase), (25, aB (decide (x.phase > 4))), (26, aB (decide (x.phase > 4))), (27, aB false), (28, .ptr 1 b1 5), (29, aI x.n), (30, .ptr 1 b1 8), (31, .sl 6 false (x.now.map repA)), (32, aI ((x.now.map repA).length : Int))], [(1, .box b1 26 (zRg1 x))]⟩) (ps := [b1 = b1, b1 = b1]) (by kernel_rfl) ⟨rfl, rfl, trivial⟩ ?_
  refine seq_val (s' := ⟨[(1, .ptr 1 b1 0), (2, aB false), (4, .ptr 1 b1 0), (5, aI x.me), (6, aB (decide (x.me < 0))), (7, aB false), (8, .ptr 1 b1 1), (9, aI x.epoch), (10, aB (decide (x.epoch < 1))), (11, aB (decide (x.epoch < 1))), (12, aB false), (13, .ptr 1 b1 2), (14, aI x.seq), (15, aB (decide (x.seq < 1))), (16, aB (decide (x.seq < 1))), (17, aB false), (18, .ptr 1 b1 4), (19, aI x.phase), (20, aB (decide (x.phase < 0))), (21, aB (decide (x.phase < 0))), (22, aB false), (23, .ptr 1 b1 4), (24, aI x.phase), (25, aB (decide (x.phase > 4))), (26, aB (decide (x.phase > 4))), (27, aB false), (28, .ptr 1 b1 5), (29, aI x.n), (30, .ptr 1 b1 8), (31, .sl 6 false (x.now.map repA)), (32, aI (x.now.length : Int))], [(1, .box b1 26 (zRg1 x))]⟩) 32 (x := aI ((x.now.map repA).length : Int)) (y := aI (x.now.length : Int)) (by rw [List.length_map]) (by kernel_rfl) (by kernel_rfl) ?_
  refine seq_run (r := []) [29, 30] (s' := ⟨[(1, .ptr 1 b1 0), (2, aB false), (4, .ptr 1 b1 0), (5, aI x.me), (6, aB (decide (x.me < 0))), (7, aB false), (8, .ptr 1 b1 1), (9, aI x.epoch), (10, aB (decide (x.epoch < 1))), (11, aB (decide (x.epoch < 1))), (12, aB false), (13, .ptr 1 b1 2), (14, aI x.seq), (15, aB (decide (x.seq < 1))), (16, aB (decide (x.seq < 1))), (17, aB false), (18, .ptr 1 b1 4), (19, aI x.phase), (20, aB (decide (x.phase < 0))), (21, aB (decide (x.phase < 0))), (22, aB false), (23, .ptr 1 b1 4), (24, aI x.phase), (25, aB (decide (x.phase > 4))), (26, aB (decide (x.phase > 4))), (27, aB false), (28, .ptr 1 b1 5), (29, aI x.n), (30, .ptr 1 b1 8), (31, .sl 6 false (x.now.map repA)), (32, aI (x.now.length : Int)), (33, aB (x.n != (x.now.length : Int))), (34, aB (x.n != (x.now.length : Int)))], [(1, .box b1 26 (zRg1 x))]⟩) (ps := []) (by kernel_rfl) trivial ?_
  refine hK3 _ ?_
  try clear hK3 K3
  refine awp_less ⟨[(1, .ptr 1 b1 0), (2, aB false), (34, aB (x.n != (x.now.length : Int)))], [(1, .box b1 26 (zRg1 x))]⟩ ⟨Sub.refl _, Sub.refl _, Sub.refl _, trivial⟩ ⟨⟨_, rfl, SubB.refl _⟩, trivial⟩ ?_
  rcases bneC (x.n) ((x.now.length : Int)) with ⟨q6, p6⟩ | ⟨q6, p6⟩
  ·
    refine awp_if true (by omega) (by kernel_rfl) q6 ?_
    refine awp_seq_k (fun K9 hK9 => ?_)
    refine awp_region [0] (by rw [hc]; kernel_rfl) (by kernel_rfl) ?_
    refine seq_run (r := []) [0] (s' := ⟨[(1, .ptr 1 b1 0), (2, aB false), (34, aB (x.n != (x.now.length : Int)))], [(1, .box b1 26 (zRg1 x))]⟩) (ps := []) (by kernel_rfl) trivial ?_
    refine hK9 _ ?_
    try clear hK9 K9
    refine awp_less (zRg2 b1 x) ⟨Sub.refl _, Sub.refl _, trivial⟩ ⟨⟨_, rfl, SubB.refl _⟩, trivial⟩ ?_
    refine awp_ret ?_
    refine fin_ret ⟨[], [aB false], by kernel_rfl, trivial, ?_⟩
    show Copyhold.Sub (aB (false)) (aB _)
    refine Sub.of_eq (congrArg aB (decide_eq_false ?_).symm)
    intro h
    obtain ⟨g1, g2, g3, g4, g5, g6, g7⟩ := h
    unfold RT at g6
    unfold RC at g7
    omega
  refine awp_if false (by omega) (by kernel_rfl) q6 ?_
  refine awp_skip ?_
  refine hK2 _ ?_
  try clear hK2 K2
  refine awp_less (zRg2 b1 x) ⟨Sub.refl _, Sub.refl _, trivial⟩ ⟨⟨_, rfl, SubB.refl _⟩, trivial⟩ ?_
  refine awp_seq_k (fun K10 hK10 => ?_)
  refine awp_seq_k (fun K11 hK11 => ?_)
  refine awp_region [0] (by rw [hc]; kernel_rfl) (by kernel_rfl) ?_
  refine seq_run (r := []) [0] (s' := ⟨[(1, .ptr 1 b1 0), (2, aB false), (3, aI 0)], [(1, .box b1 26 (zRg1 x))]⟩) (ps := []) (by kernel_rfl) trivial ?_
  refine hK11 _ ?_
  try clear hK11 K11
  refine awp_block ?_
  refine awp_rounds (α := Nat) (fun a => ⟨[(1, .ptr 1 b1 0), (2, aB false), (3, aI (a : Int))], [(1, .box b1 26 (zRg1 x))]⟩) (fun a => x.told.length - a) (fun a => a ≤ x.told.length ∧ SeqsK x.told a) 0 (LS.le ⟨Sub.refl _, Sub.refl _, Sub.refl _, trivial⟩ ⟨⟨_, rfl, SubB.refl _⟩, trivial⟩) (⟨by omega, fun i h hk => absurd hk (by omega)⟩) ?_
  rintro k hH1
  replace hH1 : k ≤ x.told.length ∧ SeqsK x.told k := hH1
  show AWp _ _ _ _ (LS.fs ⟨[(1, .ptr 1 b1 0), (2, aB false), (3, aI (k : Int))], [(1, .box b1 26 (zRg1 x))]⟩)
  refine awp_seq_k (fun K12 hK12 => ?_)
  refine awp_seq_k (fun K13 hK13 => ?_)
  refine awp_region [0, 1, 2, 3, 4] (by rw [hc]; kernel_rfl) (by kernel_rfl) ?_
  refine seq_run (r := [4]) [0, 1, 2, 3] (s' := ⟨[(1, .ptr 1 b1 0), (2, aB false), (3, aI (k : Int)), (35, aI (k : Int)), (36, .ptr 1 b1 7), (37, .sl 4 false (x.told.map donA)), (38, aI ((x.told.map donA).length : Int))], [(1, .box b1 26 (zRg1 x))]⟩) (ps := [b1 = b1]) (by kernel_rfl) ⟨rfl, trivial⟩ ?_
  refine seq_val (s' := ⟨[(1, .ptr 1 b1 0), (2, aB false), (3, aI (k : Int)), (35, aI (k : Int)), (36, .ptr 1 b1 7), (37, .sl 4 false (x.told.map donA)), (38, aI (x.told.length : Int))], [(1, .box b1 26 (zRg1 x))]⟩) 38 (x := aI ((x.told.map donA).length : Int)) (y := aI (x.told.length : Int)) (by rw [List.length_map]) (by kernel_rfl) (by kernel_rfl) ?_
  refine seq_run (r := []) [4] (s' := ⟨[(1, .ptr 1 b1 0), (2, aB false), (3, aI (k : Int)), (35, aI (k : Int)), (36, .ptr 1 b1 7), (37, .sl 4 false (x.told.map donA)), (38, aI (x.told.length : Int)), (39, aB (decide ((k : Int) < (x.told.length : Int))))], [(1, .box b1 26 (zRg1 x))]⟩) (ps := []) (by kernel_rfl) trivial ?_
  refine hK13 _ ?_
  try clear hK13 K13
  rcases decC ((k : Int) < (x.told.length : Int)) with ⟨q7, p7⟩ | ⟨q7, p7⟩
  ·
    refine awp_if true (by omega) (by kernel_rfl) q7 ?_
    refine awp_skip ?_
    refine hK12 _ ?_
    try clear hK12 K12
    refine awp_seq_k (fun K14 hK14 => ?_)
    refine awp_block ?_
    refine awp_seq_k (fun K15 hK15 => ?_)
    refine awp_region [0, 1, 2, 3, 4, 5, 6, 7, 8] (by rw [hc]; kernel_rfl) (by kernel_rfl) ?_
    refine seq_run (r := [3, 4, 5, 6, 7, 8]) [0, 1, 2] (s' := ⟨[(1, .ptr 1 b1 0), (2, aB false), (3, aI (k : Int)), (35, aI (k : Int)), (36, .ptr 1 b1 7), (37, .sl 4 false (x.told.map donA)), (38, aI (x.told.length : Int)), (39, aB (decide ((k : Int) < (x.told.length : Int)))), (42, .ptr 1 b1 7), (43, .sl 4 false (x.told.map donA)), (44, aI (k : Int))], [(1, .box b1 26 (zRg1 x))]⟩) (ps := [b1 = b1]) (by kernel_rfl) ⟨rfl, trivial⟩ ?_
    obtain ⟨x1, hx1⟩ := some_of (l := x.told) (k := k) (by omega)
    refine seq_idx (s' := ⟨[(1, .ptr 1 b1 0), (2, aB false), (3, aI (k : Int)), (35, aI (k : Int)), (36, .ptr 1 b1 7), (37, .sl 4 false (x.told.map donA)), (38, aI (x.told.length : Int)), (39, aB (decide ((k : Int) < (x.told.length : Int)))), (42, .ptr 1 b1 7), (43, .sl 4 false (x.told.map donA)), (44, aI (k : Int)), (45, .dptr [aI x1.seq, aB x1.yes, aI x1.e, .sl 6 false (x1.l.map repA)])], [(1, .box b1 26 (zRg1 x))]⟩) (xs := x.told.map donA) (m := (k : Int)) (d := some 45) (e := [aI x1.seq, aB x1.yes, aI x1.e, .sl 6 false (x1.l.map repA)]) (k) (by kernel_rfl) rfl (map_some hx1) (by kernel_rfl) ?_
    refine seq_run (r := []) [4, 5, 6, 7, 8] (s' := ⟨[(1, .ptr 1 b1 0), (2, aB false), (3, aI (k : Int)), (35, aI (k : Int)), (36, .ptr 1 b1 7), (37, .sl 4 false (x.told.map donA)), (38, aI (x.told.length : Int)), (39, aB (decide ((k : Int) < (x.told.length : Int)))), (42, .ptr 1 b1 7), (43, .sl 4 false (x.told.map donA)), (44, aI (k : Int)), (45, .dptr [aI x1.seq, aB x1.yes, aI x1.e, .sl 6 false (x1.l.map repA)]), (46, .dptr [aI x1.seq, aB x1.yes, aI x1.e, .sl 6 false (x1.l.map repA)]), (47, aI x1.seq), (48, aI (k : Int)), (49, aI ((k : Int) + 1)), (50, aB (x1.seq != ((k : Int) + 1)))], [(1, .box b1 26 (zRg1 x))]⟩) (ps := [rng .i64 ((k : Int) + 1)]) (by kernel_rfl) ⟨rng64 (by omega) (by omega), trivial⟩ ?_
    refine hK15 _ ?_
    try clear hK15 K15
    rcases bneC (x1.seq) (((k : Int) + 1)) with ⟨q8, p8⟩ | ⟨q8, p8⟩
    ·
      refine awp_if true (by omega) (by kernel_rfl) q8 ?_
      refine awp_seq_k (fun K16 hK16 => ?_)
      refine awp_region [0] (by rw [hc]; kernel_rfl) (by kernel_rfl) ?_
      refine seq_run (r := []) [0] (s' := ⟨[(1, .ptr 1 b1 0), (2, aB false), (3, aI (k : Int)), (35, aI (k : Int)), (36, .ptr 1 b1 7), (37, .sl 4 false (x.told.map donA)), (38, aI (x.told.length : Int)), (39, aB (decide ((k : Int) < (x.told.length : Int)))), (42, .ptr 1 b1 7), (43, .sl 4 false (x.told.map donA)), (44, aI (k : Int)), (45, .dptr [aI x1.seq, aB x1.yes, aI x1.e, .sl 6 false (x1.l.map repA)]), (46, .dptr [aI x1.seq, aB x1.yes, aI x1.e, .sl 6 false (x1.l.map repA)]), (47, aI x1.seq), (48, aI (k : Int)), (49, aI ((k : Int) + 1)), (50, aB (x1.seq != ((k : Int) + 1)))], [(1, .box b1 26 (zRg1 x))]⟩) (ps := []) (by kernel_rfl) trivial ?_
      refine hK16 _ ?_
      try clear hK16 K16
      refine awp_ret ?_
      refine fin_ret ⟨[], [aB false], by kernel_rfl, trivial, ?_⟩
      show Copyhold.Sub (aB (false)) (aB _)
      refine Sub.of_eq (congrArg aB (decide_eq_false ?_).symm)
      intro h
      obtain ⟨g1, g2, g3, g4, g5, g6, g7⟩ := h
      obtain ⟨hk1, hk2⟩ := List.getElem?_eq_some_iff.1 hx1
      have := g5 k hk1
      rw [hk2] at this
      omega
    refine awp_if false (by omega) (by kernel_rfl) q8 ?_
    refine awp_skip ?_
    refine hK14 _ ?_
    try clear hK14 K14
    refine awp_region [0, 1, 2] (by rw [hc]; kernel_rfl) (by kernel_rfl) ?_
    refine seq_run (r := []) [0, 1, 2] (s' := ⟨[(1, .ptr 1 b1 0), (2, aB false), (3, aI ((k : Int) + 1)), (35, aI (k : Int)), (36, .ptr 1 b1 7), (37, .sl 4 false (x.told.map donA)), (38, aI (x.told.length : Int)), (39, aB (decide ((k : Int) < (x.told.length : Int)))), (42, .ptr 1 b1 7), (43, .sl 4 false (x.told.map donA)), (44, aI (k : Int)), (45, .dptr [aI x1.seq, aB x1.yes, aI x1.e, .sl 6 false (x1.l.map repA)]), (46, .dptr [aI x1.seq, aB x1.yes, aI x1.e, .sl 6 false (x1.l.map repA)]), (47, aI x1.seq), (48, aI (k : Int)), (49, aI ((k : Int) + 1)), (50, aB (x1.seq != ((k : Int) + 1))), (40, aI (k : Int)), (41, aI ((k : Int) + 1))], [(1, .box b1 26 (zRg1 x))]⟩) (ps := [rng .i64 ((k : Int) + 1)]) (by kernel_rfl) ⟨rng64 (by omega) (by omega), trivial⟩ ?_
    exact ⟨(k + 1), ⟨by omega, seqs_more hH1.2 hx1 (by omega)⟩, (by omega), LS.le ⟨Sub.refl _, Sub.refl _, Sub.refl _, trivial⟩ ⟨⟨_, rfl, SubB.refl _⟩, trivial⟩⟩
  refine awp_if false (by omega) (by kernel_rfl) q7 ?_
  refine awp_exit ?_
  refine hK10 _ ?_
  try clear hK10 K10
  refine awp_less (zRg2 b1 x) ⟨Sub.refl _, Sub.refl _, trivial⟩ ⟨⟨_, rfl, SubB.refl _⟩, trivial⟩ ?_
  refine awp_seq_k (fun K17 hK17 => ?_)
  refine awp_seq_k (fun K18 hK18 => ?_)
  refine awp_region [0, 1, 2, 3, 4, 5, 6, 7, 8, 9, 10, 11, 12] (by rw [hc]; kernel_rfl) (by kernel_rfl) ?_
  refine seq_run (r := [4, 5, 6, 7, 8, 9, 10, 11, 12]) [0, 1, 2, 3] (s' := ⟨[(1, .ptr 1 b1 0), (2, aB false), (51, .ptr 1 b1 6), (52, aI x.stamp), (53, aB (x.stamp != 0)), (54, aB (x.stamp != 0))], [(1, .box b1 26 (zRg1 x))]⟩) (ps := [b1 = b1]) (by kernel_rfl) ⟨rfl, trivial⟩ ?_
  rcases bneC (x.stamp) (0) with ⟨q9, p9⟩ | ⟨q9, p9⟩
  ·
    refine seq_bool (s' := ⟨[(1, .ptr 1 b1 0), (2, aB false), (51, .ptr 1 b1 6), (52, aI x.stamp), (53, aB (x.stamp != 0)), (54, aB true)], [(1, .box b1 26 (zRg1 x))]⟩) 54 (b := x.stamp != 0) (v := true) q9 (by kernel_rfl) (by kernel_rfl) ?_
    refine seq_run (r := [9, 10, 11, 12]) [4, 5, 6, 7, 8] (s' := ⟨[(1, .ptr 1 b1 0), (2, aB false), (51, .ptr 1 b1 6), (52, aI x.stamp), (53, aB (x.stamp != 0)), (54, aB true), (55, .ptr 1 b1 4), (56, aI x.phase), (57, aB (x.phase != 1)), (58, aB (x.phase != 1)), (59, aB (x.phase != 1))], [(1, .box b1 26 (zRg1 x))]⟩) (ps := [b1 = b1]) (by kernel_rfl) ⟨rfl, trivial⟩ ?_
    rcases bneC (x.phase) (1) with ⟨q10, p10⟩ | ⟨q10, p10⟩
    ·
      refine seq_bool (s' := ⟨[(1, .ptr 1 b1 0), (2, aB false), (51, .ptr 1 b1 6), (52, aI x.stamp), (53, aB (x.stamp != 0)), (54, aB true), (55, .ptr 1 b1 4), (56, aI x.phase), (57, aB (x.phase != 1)), (58, aB (x.phase != 1)), (59, aB true)], [(1, .box b1 26 (zRg1 x))]⟩) 59 (b := x.phase != 1) (v := true) q10 (by kernel_rfl) (by kernel_rfl) ?_
      refine seq_run (r := []) [9, 10, 11, 12] (s' := ⟨[(1, .ptr 1 b1 0), (2, aB false), (51, .ptr 1 b1 6), (52, aI x.stamp), (53, aB (x.stamp != 0)), (54, aB true), (55, .ptr 1 b1 4), (56, aI x.phase), (57, aB (x.phase != 1)), (58, aB (x.phase != 1)), (59, aB true), (60, .ptr 1 b1 4), (61, aI x.phase), (62, aB (x.phase != 2)), (63, aB (x.phase != 2))], [(1, .box b1 26 (zRg1 x))]⟩) (ps := [b1 = b1]) (by kernel_rfl) ⟨rfl, trivial⟩ ?_
      refine hK18 _ ?_
      try clear hK18 K18
      refine awp_less ⟨[(1, .ptr 1 b1 0), (2, aB false), (63, aB (x.phase != 2))], [(1, .box b1 26 (zRg1 x))]⟩ ⟨Sub.refl _, Sub.refl _, Sub.refl _, trivial⟩ ⟨⟨_, rfl, SubB.refl _⟩, trivial⟩ ?_
      rcases bneC (x.phase) (2) with ⟨q11, p11⟩ | ⟨q11, p11⟩
      ·
        refine awp_if true (by omega) (by kernel_rfl) q11 ?_
        refine awp_seq_k (fun K19 hK19 => ?_)
        refine awp_region [0] (by rw [hc]; kernel_rfl) (by kernel_rfl) ?_
        refine seq_run (r := []) [0] (s' := ⟨[(1, .ptr 1 b1 0), (2, aB false), (63, aB (x.phase != 2))], [(1, .box b1 26 (zRg1 x))]⟩) (ps := []) (by kernel_rfl) trivial ?_
        refine hK19 _ ?_
        try clear hK19 K19
        refine awp_less (zRg2 b1 x) ⟨Sub.refl _, Sub.refl _, trivial⟩ ⟨⟨_, rfl, SubB.refl _⟩, trivial⟩ ?_
        refine awp_ret ?_
        refine fin_ret ⟨[], [aB false], by kernel_rfl, trivial, ?_⟩
        show Copyhold.Sub (aB (false)) (aB _)
        refine Sub.of_eq (congrArg aB (decide_eq_false ?_).symm)
        intro h
        obtain ⟨g1, g2, g3, g4, g5, g6, g7⟩ := h
        unfold RT at g6
        unfold RC at g7
        omega
      refine awp_if false (by omega) (by kernel_rfl) q11 ?_
      refine awp_skip ?_
      refine hK17 _ ?_
      try clear hK17 K17
      refine awp_less (zRg2 b1 x) ⟨Sub.refl _, Sub.refl _, trivial⟩ ⟨⟨_, rfl, SubB.refl _⟩, trivial⟩ ?_
      refine awp_seq_k (fun K20 hK20 => ?_)
      refine awp_seq_k (fun K21 hK21 => ?_)
      refine awp_region [0, 1, 2] (by rw [hc]; kernel_rfl) (by kernel_rfl) ?_
      refine seq_run (r := []) [0, 1, 2] (s' := (zRg99 b1 x)) (ps := [b1 = b1]) (by kernel_rfl) ⟨rfl, trivial⟩ ?_
      refine hK21 _ ?_
      try clear hK21 K21
      refine awp_less (zRg106 b1 x) ⟨Sub.refl _, Sub.refl _, Sub.refl _, trivial⟩ ⟨⟨_, rfl, SubB.refl _⟩, trivial⟩ ?_
      rcases beqC (x.phase) (3) with ⟨q12, p12⟩ | ⟨q12, p12⟩
      ·
        refine awp_if true (by omega) (by kernel_rfl) q12 ?_
        refine awp_seq_k (fun K22 hK22 => ?_)
        refine awp_region zRg107 (by rw [hc]; kernel_rfl) (by kernel_rfl) ?_
        refine seq_run (r := zRg91) [0, 1, 2, 3] (s' := (zRg86 b1 x)) (ps := [b1 = b1]) (by kernel_rfl) ⟨rfl, trivial⟩ ?_
        rcases beqC (x.n) (0) with ⟨q13, p13⟩ | ⟨q13, p13⟩
        ·
          refine seq_bool (s' := (zRg92 b1 x)) 70 (b := x.n == 0) (v := true) q13 (by kernel_rfl) (by kernel_rfl) ?_
          refine seq_run (r := [7, 8, 9, 10, 11, 12, 13, 14, 15, 16, 17, 18, 19, 20]) [4, 5, 6] (s' := (zRg70 b1 x)) (ps := [b1 = b1]) (by kernel_rfl) ⟨rfl, trivial⟩ ?_
          refine seq_val (s' := (zRg74 b1 x)) 73 (x := aI ((x.told.map donA).length : Int)) (y := aI (x.told.length : Int)) (by rw [List.length_map]) (by kernel_rfl) (by kernel_rfl) ?_
          refine seq_run (r := zRg105) [7, 8, 9, 10, 11] (s' := (zRg50 b1 x)) (ps := [b1 = b1]) (by kernel_rfl) ⟨rfl, trivial⟩ ?_
          rcases beqC ((x.told.length : Int)) (x.seq) with ⟨q14, p14⟩ | ⟨q14, p14⟩
          ·
            refine seq_bool (s' := (zRg52 b1 x)) 78 (b := (x.told.length : Int) == x.seq) (v := true) q14 (by kernel_rfl) (by kernel_rfl) ?_
            refine seq_run (r := [15, 16, 17, 18, 19, 20]) [12, 13, 14] (s' := (zRg45 b1 x)) (ps := [b1 = b1]) (by kernel_rfl) ⟨rfl, trivial⟩ ?_
            refine seq_val (s' := (zRg46 b1 x)) 81 (x := aI ((x.told.map donA).length : Int)) (y := aI (x.told.length : Int)) (by rw [List.length_map]) (by kernel_rfl) (by kernel_rfl) ?_
            refine seq_run (r := [18, 19, 20]) [15, 16, 17] (s' := (zRg35 b1 x)) (ps := [b1 = b1]) (by kernel_rfl) ⟨rfl, trivial⟩ ?_
            refine seq_val (s' := (zRg37 b1 x)) 84 (x := aI ((x.jobs.map jobA).length : Int)) (y := aI (x.jobs.length : Int)) (by rw [List.length_map]) (by kernel_rfl) (by kernel_rfl) ?_
            refine seq_run (r := []) [18, 19, 20] (s' := (zRg13 b1 x)) (ps := []) (by kernel_rfl) trivial ?_
            refine hK22 _ ?_
            try clear hK22 K22
            refine awp_less (zRg103 b1 x) ⟨Sub.refl _, Sub.refl _, trivial⟩ ⟨⟨_, rfl, SubB.refl _⟩, trivial⟩ ?_
            refine awp_ret ?_
            refine fin_ret ⟨[], [aB (decide ((x.told.length : Int) ≤ (x.jobs.length : Int)))], by kernel_rfl, trivial, ?_⟩
            show Copyhold.Sub (aB (decide ((x.told.length : Int) ≤ (x.jobs.length : Int)))) (aB _)
            have hSq : Seqs x.told := seqs_all hH1.2 (by omega)
            rcases Bool.eq_false_or_eq_true (decide ((x.told.length : Int) ≤ (x.jobs.length : Int))) with z | z
            · have z2 := z
              simp only [beq_iff_eq, decide_eq_true_eq] at z2
              refine Sub.of_eq (congrArg aB (z.trans (decide_eq_true ?_).symm))
              refine ⟨by omega, by omega, by omega, by omega, hSq, ?_, ?_⟩
              · unfold RT; omega
              · unfold RC; omega
            · have z2 := z
              simp only [beq_eq_false_iff_ne, ne_eq, decide_eq_false_iff_not] at z2
              refine Sub.of_eq (congrArg aB (z.trans (decide_eq_false ?_).symm))
              intro h
              obtain ⟨g1, g2, g3, g4, g5, g6, g7⟩ := h
              unfold RT at g6
              unfold RC at g7
              omega
          refine seq_bool (s' := (zRg51 b1 x)) 78 (b := (x.told.length : Int) == x.seq) (v := false) q14 (by kernel_rfl) (by kernel_rfl) ?_
          refine seq_run (r := []) zRg105 (s' := (zRg43 b1 x)) (ps := []) (by kernel_rfl) trivial ?_
          refine hK22 _ ?_
          try clear hK22 K22
          refine awp_less (zRg2 b1 x) ⟨Sub.refl _, Sub.refl _, trivial⟩ ⟨⟨_, rfl, SubB.refl _⟩, trivial⟩ ?_
          refine awp_ret ?_
          refine fin_ret ⟨[], [aB false], by kernel_rfl, trivial, ?_⟩
          show Copyhold.Sub (aB (false)) (aB _)
          refine Sub.of_eq (congrArg aB (decide_eq_false ?_).symm)
          intro h
          obtain ⟨g1, g2, g3, g4, g5, g6, g7⟩ := h
          unfold RT at g6
          unfold RC at g7
          omega
        refine seq_bool (s' := (zRg89 b1 x)) 70 (b := x.n == 0) (v := false) q13 (by kernel_rfl) (by kernel_rfl) ?_
        refine seq_run (r := []) zRg91 (s' := (zRg47 b1 x)) (ps := []) (by kernel_rfl) trivial ?_
        refine hK22 _ ?_
        try clear hK22 K22
        refine awp_less (zRg2 b1 x) ⟨Sub.refl _, Sub.refl _, trivial⟩ ⟨⟨_, rfl, SubB.refl _⟩, trivial⟩ ?_
        refine awp_ret ?_
        refine fin_ret ⟨[], [aB false], by kernel_rfl, trivial, ?_⟩
        show Copyhold.Sub (aB (false)) (aB _)
        refine Sub.of_eq (congrArg aB (decide_eq_false ?_).symm)
        intro h
        obtain ⟨g1, g2, g3, g4, g5, g6, g7⟩ := h
        unfold RT at g6
        unfold RC at g7
        omega
      refine awp_if false (by omega) (by kernel_rfl) q12 ?_
      refine awp_skip ?_
      refine hK20 _ ?_
      try clear hK20 K20
      refine awp_less (zRg2 b1 x) ⟨Sub.refl _, Sub.refl _, trivial⟩ ⟨⟨_, rfl, SubB.refl _⟩, trivial⟩ ?_
      refine awp_seq_k (fun K23 hK23 => ?_)
      refine awp_seq_k (fun K24 hK24 => ?_)
      refine awp_region [0, 1, 2, 3, 4, 5, 6] (by rw [hc]; kernel_rfl) (by kernel_rfl) ?_
      refine seq_run (r := [3, 4, 5, 6]) [0, 1, 2] (s' := (zRg87 b1 x)) (ps := [b1 = b1]) (by kernel_rfl) ⟨rfl, trivial⟩ ?_
      refine seq_val (s' := (zRg95 b1 x)) 89 (x := aI ((x.told.map donA).length : Int)) (y := aI (x.told.length : Int)) (by rw [List.length_map]) (by kernel_rfl) (by kernel_rfl) ?_
      refine seq_run (r := []) [3, 4, 5, 6] (s' := (zRg69 b1 x)) (ps := [b1 = b1, rng .i64 (x.seq - 1)]) (by kernel_rfl) ⟨rfl, rng64 (by omega) (by omega), trivial⟩ ?_
      refine hK24 _ ?_
      try clear hK24 K24
      refine awp_less (zRg67 b1 x) ⟨Sub.refl _, Sub.refl _, Sub.refl _, trivial⟩ ⟨⟨_, rfl, SubB.refl _⟩, trivial⟩ ?_
      rcases bneC ((x.told.length : Int)) ((x.seq - 1)) with ⟨q15, p15⟩ | ⟨q15, p15⟩
      ·
        refine awp_if true (by omega) (by kernel_rfl) q15 ?_
        refine awp_seq_k (fun K25 hK25 => ?_)
        refine awp_region [0] (by rw [hc]; kernel_rfl) (by kernel_rfl) ?_
        refine seq_run (r := []) [0] (s' := (zRg67 b1 x)) (ps := []) (by kernel_rfl) trivial ?_
        refine hK25 _ ?_
        try clear hK25 K25
        refine awp_less (zRg2 b1 x) ⟨Sub.refl _, Sub.refl _, trivial⟩ ⟨⟨_, rfl, SubB.refl _⟩, trivial⟩ ?_
        refine awp_ret ?_
        refine fin_ret ⟨[], [aB false], by kernel_rfl, trivial, ?_⟩
        show Copyhold.Sub (aB (false)) (aB _)
        refine Sub.of_eq (congrArg aB (decide_eq_false ?_).symm)
        intro h
        obtain ⟨g1, g2, g3, g4, g5, g6, g7⟩ := h
        unfold RT at g6
        unfold RC at g7
        omega
      refine awp_if false (by omega) (by kernel_rfl) q15 ?_
      refine awp_skip ?_
      refine hK23 _ ?_
      try clear hK23 K23
      refine awp_less (zRg2 b1 x) ⟨Sub.refl _, Sub.refl _, trivial⟩ ⟨⟨_, rfl, SubB.refl _⟩, trivial⟩ ?_
      refine awp_seq_k (fun K26 hK26 => ?_)
      refine awp_seq_k (fun K27 hK27 => ?_)
      refine awp_region [0, 1, 2] (by rw [hc]; kernel_rfl) (by kernel_rfl) ?_
      refine seq_run (r := []) [0, 1, 2] (s' := (zRg100 b1 x)) (ps := [b1 = b1]) (by kernel_rfl) ⟨rfl, trivial⟩ ?_
      refine hK27 _ ?_
      try clear hK27 K27
      refine awp_less (zRg108 b1 x) ⟨Sub.refl _, Sub.refl _, Sub.refl _, trivial⟩ ⟨⟨_, rfl, SubB.refl _⟩, trivial⟩ ?_
      rcases beqC (x.phase) (4) with ⟨q16, p16⟩ | ⟨q16, p16⟩
      ·
        refine awp_if true (by omega) (by kernel_rfl) q16 ?_
        refine awp_seq_k (fun K28 hK28 => ?_)
        refine awp_region [0, 1, 2, 3, 4, 5, 6, 7, 8, 9, 10, 11, 12] (by rw [hc]; kernel_rfl) (by kernel_rfl) ?_
        refine seq_run (r := [4, 5, 6, 7, 8, 9, 10, 11, 12]) [0, 1, 2, 3] (s' := (zRg85 b1 x)) (ps := [b1 = b1]) (by kernel_rfl) ⟨rfl, trivial⟩ ?_
        rcases beqC (x.n) (0) with ⟨q17, p17⟩ | ⟨q17, p17⟩
        ·
          refine seq_bool (s' := (zRg90 b1 x)) 100 (b := x.n == 0) (v := true) q17 (by kernel_rfl) (by kernel_rfl) ?_
          refine seq_run (r := [7, 8, 9, 10, 11, 12]) [4, 5, 6] (s' := (zRg68 b1 x)) (ps := [b1 = b1]) (by kernel_rfl) ⟨rfl, trivial⟩ ?_
          refine seq_val (s' := (zRg73 b1 x)) 103 (x := aI ((x.told.map donA).length : Int)) (y := aI (x.told.length : Int)) (by rw [List.length_map]) (by kernel_rfl) (by kernel_rfl) ?_
          refine seq_run (r := [10, 11, 12]) [7, 8, 9] (s' := (zRg55 b1 x)) (ps := [b1 = b1]) (by kernel_rfl) ⟨rfl, trivial⟩ ?_
          refine seq_val (s' := (zRg56 b1 x)) 106 (x := aI ((x.jobs.map jobA).length : Int)) (y := aI (x.jobs.length : Int)) (by rw [List.length_map]) (by kernel_rfl) (by kernel_rfl) ?_
          refine seq_run (r := []) [10, 11, 12] (s' := (zRg44 b1 x)) (ps := []) (by kernel_rfl) trivial ?_
          refine hK28 _ ?_
          try clear hK28 K28
          refine awp_less (zRg104 b1 x) ⟨Sub.refl _, Sub.refl _, trivial⟩ ⟨⟨_, rfl, SubB.refl _⟩, trivial⟩ ?_
          refine awp_ret ?_
          refine fin_ret ⟨[], [aB ((x.told.length : Int) == (x.jobs.length : Int))], by kernel_rfl, trivial, ?_⟩
          show Copyhold.Sub (aB ((x.told.length : Int) == (x.jobs.length : Int))) (aB _)
          have hSq : Seqs x.told := seqs_all hH1.2 (by omega)
          rcases Bool.eq_false_or_eq_true ((x.told.length : Int) == (x.jobs.length : Int)) with z | z
          · have z2 := z
            simp only [beq_iff_eq, decide_eq_true_eq] at z2
            refine Sub.of_eq (congrArg aB (z.trans (decide_eq_true ?_).symm))
            refine ⟨by omega, by omega, by omega, by omega, hSq, ?_, ?_⟩
            · unfold RT; omega
            · unfold RC; omega
          · have z2 := z
            simp only [beq_eq_false_iff_ne, ne_eq, decide_eq_false_iff_not] at z2
            refine Sub.of_eq (congrArg aB (z.trans (decide_eq_false ?_).symm))
            intro h
            obtain ⟨g1, g2, g3, g4, g5, g6, g7⟩ := h
            unfold RT at g6
            unfold RC at g7
            omega
        refine seq_bool (s' := (zRg88 b1 x)) 100 (b := x.n == 0) (v := false) q17 (by kernel_rfl) (by kernel_rfl) ?_
        refine seq_run (r := []) [4, 5, 6, 7, 8, 9, 10, 11, 12] (s' := (zRg66 b1 x)) (ps := []) (by kernel_rfl) trivial ?_
        refine hK28 _ ?_
        try clear hK28 K28
        refine awp_less (zRg2 b1 x) ⟨Sub.refl _, Sub.refl _, trivial⟩ ⟨⟨_, rfl, SubB.refl _⟩, trivial⟩ ?_
        refine awp_ret ?_
        refine fin_ret ⟨[], [aB false], by kernel_rfl, trivial, ?_⟩
        show Copyhold.Sub (aB (false)) (aB _)
        refine Sub.of_eq (congrArg aB (decide_eq_false ?_).symm)
        intro h
        obtain ⟨g1, g2, g3, g4, g5, g6, g7⟩ := h
        unfold RT at g6
        unfold RC at g7
        omega
      refine awp_if false (by omega) (by kernel_rfl) q16 ?_
      refine awp_skip ?_
      refine hK26 _ ?_
      try clear hK26 K26
      refine awp_less (zRg2 b1 x) ⟨Sub.refl _, Sub.refl _, trivial⟩ ⟨⟨_, rfl, SubB.refl _⟩, trivial⟩ ?_
      refine awp_seq_k (fun K29 hK29 => ?_)
      refine awp_seq_k (fun K30 hK30 => ?_)
      refine awp_region [0, 1, 2, 3, 4, 5, 6] (by rw [hc]; kernel_rfl) (by kernel_rfl) ?_
      refine seq_run (r := [3, 4, 5, 6]) [0, 1, 2] (s' := (zRg84 b1 x)) (ps := [b1 = b1]) (by kernel_rfl) ⟨rfl, trivial⟩ ?_
      refine seq_val (s' := (zRg93 b1 x)) 111 (x := aI ((x.told.map donA).length : Int)) (y := aI (x.told.length : Int)) (by rw [List.length_map]) (by kernel_rfl) (by kernel_rfl) ?_
      refine seq_run (r := [6]) [3, 4, 5] (s' := (zRg71 b1 x)) (ps := [b1 = b1]) (by kernel_rfl) ⟨rfl, trivial⟩ ?_
      refine seq_val (s' := (zRg75 b1 x)) 114 (x := aI ((x.jobs.map jobA).length : Int)) (y := aI (x.jobs.length : Int)) (by rw [List.length_map]) (by kernel_rfl) (by kernel_rfl) ?_
      refine seq_run (r := []) [6] (s' := (zRg65 b1 x)) (ps := []) (by kernel_rfl) trivial ?_
      refine hK30 _ ?_
      try clear hK30 K30
      refine awp_less (zRg62 b1 x) ⟨Sub.refl _, Sub.refl _, Sub.refl _, trivial⟩ ⟨⟨_, rfl, SubB.refl _⟩, trivial⟩ ?_
      rcases decC ((x.told.length : Int) ≥ (x.jobs.length : Int)) with ⟨q18, p18⟩ | ⟨q18, p18⟩
      ·
        refine awp_if true (by omega) (by kernel_rfl) q18 ?_
        refine awp_seq_k (fun K31 hK31 => ?_)
        refine awp_region [0] (by rw [hc]; kernel_rfl) (by kernel_rfl) ?_
        refine seq_run (r := []) [0] (s' := (zRg62 b1 x)) (ps := []) (by kernel_rfl) trivial ?_
        refine hK31 _ ?_
        try clear hK31 K31
        refine awp_less (zRg2 b1 x) ⟨Sub.refl _, Sub.refl _, trivial⟩ ⟨⟨_, rfl, SubB.refl _⟩, trivial⟩ ?_
        refine awp_ret ?_
        refine fin_ret ⟨[], [aB false], by kernel_rfl, trivial, ?_⟩
        show Copyhold.Sub (aB (false)) (aB _)
        refine Sub.of_eq (congrArg aB (decide_eq_false ?_).symm)
        intro h
        obtain ⟨g1, g2, g3, g4, g5, g6, g7⟩ := h
        unfold RT at g6
        unfold RC at g7
        omega
      refine awp_if false (by omega) (by kernel_rfl) q18 ?_
      refine awp_skip ?_
      refine hK29 _ ?_
      try clear hK29 K29
      refine awp_less (zRg2 b1 x) ⟨Sub.refl _, Sub.refl _, trivial⟩ ⟨⟨_, rfl, SubB.refl _⟩, trivial⟩ ?_
      refine awp_seq_k (fun K32 hK32 => ?_)
      refine awp_region_draw zRg98 (by kernel_rfl) (by rw [hc]; kernel_rfl) (by kernel_rfl) ?_
      refine seq_run (r := zRg101) [0, 1, 2, 3] (s' := (zRg94 b1 x)) (ps := [b1 = b1]) (by kernel_rfl) ⟨rfl, trivial⟩ ?_
      rcases beqC (x.phase) (0) with ⟨q19, p19⟩ | ⟨q19, p19⟩
      ·
        refine seq_bool (s' := (zRg97 b1 x)) 119 (b := x.phase == 0) (v := true) q19 (by kernel_rfl) (by kernel_rfl) ?_
        refine seq_run (r := zRg79) [4, 5, 6, 7, 8] (s' := (zRg76 b1 x)) (ps := [b1 = b1]) (by kernel_rfl) ⟨rfl, trivial⟩ ?_
        rcases beqC (x.n) (0) with ⟨q20, p20⟩ | ⟨q20, p20⟩
        ·
          refine seq_bool (s' := (zRg80 b1 x)) 124 (b := x.n == 0) (v := true) q20 (by kernel_rfl) (by kernel_rfl) ?_
          refine seq_run (r := []) zRg79 (s' := (zRg24 b1 x)) (ps := []) (by kernel_rfl) trivial ?_
          refine hK32 _ ?_
          try clear hK32 K32
          refine awp_less ⟨[(2, aB true)], []⟩ ⟨Sub.refl _, trivial⟩ trivial ?_
          refine awp_ret ?_
          refine fin_ret ⟨[], [aB true], by kernel_rfl, trivial, ?_⟩
          show Copyhold.Sub (aB (true)) (aB _)
          have hSq : Seqs x.told := seqs_all hH1.2 (by omega)
          refine Sub.of_eq (congrArg aB (decide_eq_true ?_).symm)
          refine ⟨by omega, by omega, by omega, by omega, hSq, ?_, ?_⟩
          · unfold RT; omega
          · unfold RC; omega
        refine seq_bool (s' := (zRg78 b1 x)) 124 (b := x.n == 0) (v := false) q20 (by kernel_rfl) (by kernel_rfl) ?_
        refine seq_run (r := zRg81) [9, 10, 11, 12] (s' := (zRg57 b1 x)) (ps := [b1 = b1]) (by kernel_rfl) ⟨rfl, trivial⟩ ?_
        rcases beqC (x.phase) (1) with ⟨q21, p21⟩ | ⟨q21, p21⟩
        ·
          refine seq_bool (s' := (zRg61 b1 x)) 128 (b := x.phase == 1) (v := true) q21 (by kernel_rfl) (by kernel_rfl) ?_
          refine seq_run (r := zRg82) [13, 14, 15] (s' := (zRg53 b1 x)) (ps := [b1 = b1, b1 = b1]) (by kernel_rfl) ⟨rfl, rfl, trivial⟩ ?_
          refine seq_call (f := 46) (args := [.agg (zRg1 x)]) (d := some 132) (args' := [.agg (zRg1 x)]) (s' := (zRg48 b1 x)) (by kernel_rfl) (fun _ _ => rfl) ⟨Sub.refl _, trivial⟩ (long_spec x hs) (by kernel_rfl) ?_
          refine seq_run (r := zRg77) [17, 18, 19, 20] (s' := (zRg27 b1 x)) (ps := []) (by kernel_rfl) trivial ?_
          rcases decC (x.n < ((jobOf x).length : Int)) with ⟨q22, p22⟩ | ⟨q22, p22⟩
          ·
            refine seq_bool (s' := (zRg32 b1 x)) 136 (b := decide (x.n < ((jobOf x).length : Int))) (v := true) q22 (by kernel_rfl) (by kernel_rfl) ?_
            refine seq_run (r := []) zRg77 (s' := (zRg9 b1 x)) (ps := []) (by kernel_rfl) trivial ?_
            refine hK32 _ ?_
            try clear hK32 K32
            refine awp_less ⟨[(2, aB true)], []⟩ ⟨Sub.refl _, trivial⟩ trivial ?_
            refine awp_ret ?_
            refine fin_ret ⟨[], [aB true], by kernel_rfl, trivial, ?_⟩
            show Copyhold.Sub (aB (true)) (aB _)
            have hSq : Seqs x.told := seqs_all hH1.2 (by omega)
            refine Sub.of_eq (congrArg aB (decide_eq_true ?_).symm)
            refine ⟨by omega, by omega, by omega, by omega, hSq, ?_, ?_⟩
            · unfold RT; omega
            · unfold RC; omega
          refine seq_bool (s' := (zRg31 b1 x)) 136 (b := decide (x.n < ((jobOf x).length : Int))) (v := false) q22 (by kernel_rfl) (by kernel_rfl) ?_
          refine seq_run (r := [25, 26, 27, 28, 29, 30, 31, 32]) [21, 22, 23, 24] (s' := (zRg16 b1 x)) (ps := [b1 = b1]) (by kernel_rfl) ⟨rfl, trivial⟩ ?_
          rcases beqC (x.phase) (2) with ⟨q23, p23⟩ | ⟨q23, p23⟩
          ·
            refine seq_bool (s' := (zRg21 b1 x)) 140 (b := x.phase == 2) (v := true) q23 (by kernel_rfl) (by kernel_rfl) ?_
            refine seq_run (r := [28, 29, 30, 31, 32]) [25, 26, 27] (s' := (zRg14 b1 x)) (ps := [b1 = b1, b1 = b1]) (by kernel_rfl) ⟨rfl, rfl, trivial⟩ ?_
            refine seq_call (f := 46) (args := [.agg (zRg1 x)]) (d := some 144) (args' := [.agg (zRg1 x)]) (s' := (zRg11 b1 x)) (by kernel_rfl) (fun _ _ => rfl) ⟨Sub.refl _, trivial⟩ (long_spec x hs) (by kernel_rfl) ?_
            refine seq_run (r := []) [29, 30, 31, 32] (s' := (zRg3 b1 x)) (ps := []) (by kernel_rfl) trivial ?_
            refine hK32 _ ?_
            try clear hK32 K32
            refine awp_less (zRg72 x) ⟨Sub.refl _, trivial⟩ trivial ?_
            refine awp_ret ?_
            refine fin_ret ⟨[], (zRg83 x), by kernel_rfl, trivial, ?_⟩
            show Copyhold.Sub (aB (x.n == ((jobOf x).length : Int))) (aB _)
            have hSq : Seqs x.told := seqs_all hH1.2 (by omega)
            rcases Bool.eq_false_or_eq_true (x.n == ((jobOf x).length : Int)) with z | z
            · have z2 := z
              simp only [beq_iff_eq, decide_eq_true_eq] at z2
              refine Sub.of_eq (congrArg aB (z.trans (decide_eq_true ?_).symm))
              refine ⟨by omega, by omega, by omega, by omega, hSq, ?_, ?_⟩
              · unfold RT; omega
              · unfold RC; omega
            · have z2 := z
              simp only [beq_eq_false_iff_ne, ne_eq, decide_eq_false_iff_not] at z2
              refine Sub.of_eq (congrArg aB (z.trans (decide_eq_false ?_).symm))
              intro h
              obtain ⟨g1, g2, g3, g4, g5, g6, g7⟩ := h
              unfold RT at g6
              unfold RC at g7
              omega
          refine seq_bool (s' := (zRg20 b1 x)) 140 (b := x.phase == 2) (v := false) q23 (by kernel_rfl) (by kernel_rfl) ?_
          refine seq_run (r := []) [25, 26, 27, 28, 29, 30, 31, 32] (s' := (zRg6 b1 x)) (ps := []) (by kernel_rfl) trivial ?_
          refine hK32 _ ?_
          try clear hK32 K32
          refine awp_less ⟨[(2, aB false)], []⟩ ⟨Sub.refl _, trivial⟩ trivial ?_
          refine awp_ret ?_
          refine fin_ret ⟨[], [aB false], by kernel_rfl, trivial, ?_⟩
          show Copyhold.Sub (aB (false)) (aB _)
          refine Sub.of_eq (congrArg aB (decide_eq_false ?_).symm)
          intro h
          obtain ⟨g1, g2, g3, g4, g5, g6, g7⟩ := h
          unfold RT at g6
          unfold RC at g7
          omega
        refine seq_bool (s' := (zRg60 b1 x)) 128 (b := x.phase == 1) (v := false) q21 (by kernel_rfl) (by kernel_rfl) ?_
        refine seq_run (r := [25, 26, 27, 28, 29, 30, 31, 32]) zRg102 (s' := (zRg36 b1 x)) (ps := [b1 = b1]) (by kernel_rfl) ⟨rfl, trivial⟩ ?_
        rcases beqC (x.phase) (2) with ⟨q24, p24⟩ | ⟨q24, p24⟩
        ·
          refine seq_bool (s' := (zRg40 b1 x)) 140 (b := x.phase == 2) (v := true) q24 (by kernel_rfl) (by kernel_rfl) ?_
          refine seq_run (r := [28, 29, 30, 31, 32]) [25, 26, 27] (s' := (zRg29 b1 x)) (ps := [b1 = b1, b1 = b1]) (by kernel_rfl) ⟨rfl, rfl, trivial⟩ ?_
          refine seq_call (f := 46) (args := [.agg (zRg1 x)]) (d := some 144) (args' := [.agg (zRg1 x)]) (s' := (zRg25 b1 x)) (by kernel_rfl) (fun _ _ => rfl) ⟨Sub.refl _, trivial⟩ (long_spec x hs) (by kernel_rfl) ?_
          refine seq_run (r := []) [29, 30, 31, 32] (s' := (zRg5 b1 x)) (ps := []) (by kernel_rfl) trivial ?_
          refine hK32 _ ?_
          try clear hK32 K32
          refine awp_less (zRg72 x) ⟨Sub.refl _, trivial⟩ trivial ?_
          refine awp_ret ?_
          refine fin_ret ⟨[], (zRg83 x), by kernel_rfl, trivial, ?_⟩
          show Copyhold.Sub (aB (x.n == ((jobOf x).length : Int))) (aB _)
          have hSq : Seqs x.told := seqs_all hH1.2 (by omega)
          rcases Bool.eq_false_or_eq_true (x.n == ((jobOf x).length : Int)) with z | z
          · have z2 := z
            simp only [beq_iff_eq, decide_eq_true_eq] at z2
            refine Sub.of_eq (congrArg aB (z.trans (decide_eq_true ?_).symm))
            refine ⟨by omega, by omega, by omega, by omega, hSq, ?_, ?_⟩
            · unfold RT; omega
            · unfold RC; omega
          · have z2 := z
            simp only [beq_eq_false_iff_ne, ne_eq, decide_eq_false_iff_not] at z2
            refine Sub.of_eq (congrArg aB (z.trans (decide_eq_false ?_).symm))
            intro h
            obtain ⟨g1, g2, g3, g4, g5, g6, g7⟩ := h
            unfold RT at g6
            unfold RC at g7
            omega
        refine seq_bool (s' := (zRg39 b1 x)) 140 (b := x.phase == 2) (v := false) q24 (by kernel_rfl) (by kernel_rfl) ?_
        refine seq_run (r := []) [25, 26, 27, 28, 29, 30, 31, 32] (s' := (zRg17 b1 x)) (ps := []) (by kernel_rfl) trivial ?_
        refine hK32 _ ?_
        try clear hK32 K32
        refine awp_less ⟨[(2, aB false)], []⟩ ⟨Sub.refl _, trivial⟩ trivial ?_
        refine awp_ret ?_
        refine fin_ret ⟨[], [aB false], by kernel_rfl, trivial, ?_⟩
        show Copyhold.Sub (aB (false)) (aB _)
        refine Sub.of_eq (congrArg aB (decide_eq_false ?_).symm)
        intro h
        obtain ⟨g1, g2, g3, g4, g5, g6, g7⟩ := h
        unfold RT at g6
        unfold RC at g7
        omega
      refine seq_bool (s' := (zRg96 b1 x)) 119 (b := x.phase == 0) (v := false) q19 (by kernel_rfl) (by kernel_rfl) ?_
      refine seq_run (r := zRg81) [4, 5, 6, 7, 8, 9, 10, 11, 12] (s' := (zRg58 b1 x)) (ps := [b1 = b1]) (by kernel_rfl) ⟨rfl, trivial⟩ ?_
      rcases beqC (x.phase) (1) with ⟨q25, p25⟩ | ⟨q25, p25⟩
      ·
        refine seq_bool (s' := (zRg64 b1 x)) 128 (b := x.phase == 1) (v := true) q25 (by kernel_rfl) (by kernel_rfl) ?_
        refine seq_run (r := zRg82) [13, 14, 15] (s' := (zRg54 b1 x)) (ps := [b1 = b1, b1 = b1]) (by kernel_rfl) ⟨rfl, rfl, trivial⟩ ?_
        refine seq_call (f := 46) (args := [.agg (zRg1 x)]) (d := some 132) (args' := [.agg (zRg1 x)]) (s' := (zRg49 b1 x)) (by kernel_rfl) (fun _ _ => rfl) ⟨Sub.refl _, trivial⟩ (long_spec x hs) (by kernel_rfl) ?_
        refine seq_run (r := zRg77) [17, 18, 19, 20] (s' := (zRg28 b1 x)) (ps := []) (by kernel_rfl) trivial ?_
        rcases decC (x.n < ((jobOf x).length : Int)) with ⟨q26, p26⟩ | ⟨q26, p26⟩
        ·
          refine seq_bool (s' := (zRg34 b1 x)) 136 (b := decide (x.n < ((jobOf x).length : Int))) (v := true) q26 (by kernel_rfl) (by kernel_rfl) ?_
          refine seq_run (r := []) zRg77 (s' := (zRg10 b1 x)) (ps := []) (by kernel_rfl) trivial ?_
          refine hK32 _ ?_
          try clear hK32 K32
          refine awp_less ⟨[(2, aB true)], []⟩ ⟨Sub.refl _, trivial⟩ trivial ?_
          refine awp_ret ?_
          refine fin_ret ⟨[], [aB true], by kernel_rfl, trivial, ?_⟩
          show Copyhold.Sub (aB (true)) (aB _)
          have hSq : Seqs x.told := seqs_all hH1.2 (by omega)
          refine Sub.of_eq (congrArg aB (decide_eq_true ?_).symm)
          refine ⟨by omega, by omega, by omega, by omega, hSq, ?_, ?_⟩
          · unfold RT; omega
          · unfold RC; omega
        refine seq_bool (s' := (zRg33 b1 x)) 136 (b := decide (x.n < ((jobOf x).length : Int))) (v := false) q26 (by kernel_rfl) (by kernel_rfl) ?_
        refine seq_run (r := [25, 26, 27, 28, 29, 30, 31, 32]) [21, 22, 23, 24] (s' := (zRg18 b1 x)) (ps := [b1 = b1]) (by kernel_rfl) ⟨rfl, trivial⟩ ?_
        rcases beqC (x.phase) (2) with ⟨q27, p27⟩ | ⟨q27, p27⟩
        ·
          refine seq_bool (s' := (zRg23 b1 x)) 140 (b := x.phase == 2) (v := true) q27 (by kernel_rfl) (by kernel_rfl) ?_
          refine seq_run (r := [28, 29, 30, 31, 32]) [25, 26, 27] (s' := (zRg15 b1 x)) (ps := [b1 = b1, b1 = b1]) (by kernel_rfl) ⟨rfl, rfl, trivial⟩ ?_
          refine seq_call (f := 46) (args := [.agg (zRg1 x)]) (d := some 144) (args' := [.agg (zRg1 x)]) (s' := (zRg12 b1 x)) (by kernel_rfl) (fun _ _ => rfl) ⟨Sub.refl _, trivial⟩ (long_spec x hs) (by kernel_rfl) ?_
          refine seq_run (r := []) [29, 30, 31, 32] (s' := (zRg4 b1 x)) (ps := []) (by kernel_rfl) trivial ?_
          refine hK32 _ ?_
          try clear hK32 K32
          refine awp_less (zRg72 x) ⟨Sub.refl _, trivial⟩ trivial ?_
          refine awp_ret ?_
          refine fin_ret ⟨[], (zRg83 x), by kernel_rfl, trivial, ?_⟩
          show Copyhold.Sub (aB (x.n == ((jobOf x).length : Int))) (aB _)
          have hSq : Seqs x.told := seqs_all hH1.2 (by omega)
          rcases Bool.eq_false_or_eq_true (x.n == ((jobOf x).length : Int)) with z | z
          · have z2 := z
            simp only [beq_iff_eq, decide_eq_true_eq] at z2
            refine Sub.of_eq (congrArg aB (z.trans (decide_eq_true ?_).symm))
            refine ⟨by omega, by omega, by omega, by omega, hSq, ?_, ?_⟩
            · unfold RT; omega
            · unfold RC; omega
          · have z2 := z
            simp only [beq_eq_false_iff_ne, ne_eq, decide_eq_false_iff_not] at z2
            refine Sub.of_eq (congrArg aB (z.trans (decide_eq_false ?_).symm))
            intro h
            obtain ⟨g1, g2, g3, g4, g5, g6, g7⟩ := h
            unfold RT at g6
            unfold RC at g7
            omega
        refine seq_bool (s' := (zRg22 b1 x)) 140 (b := x.phase == 2) (v := false) q27 (by kernel_rfl) (by kernel_rfl) ?_
        refine seq_run (r := []) [25, 26, 27, 28, 29, 30, 31, 32] (s' := (zRg8 b1 x)) (ps := []) (by kernel_rfl) trivial ?_
        refine hK32 _ ?_
        try clear hK32 K32
        refine awp_less ⟨[(2, aB false)], []⟩ ⟨Sub.refl _, trivial⟩ trivial ?_
        refine awp_ret ?_
        refine fin_ret ⟨[], [aB false], by kernel_rfl, trivial, ?_⟩
        show Copyhold.Sub (aB (false)) (aB _)
        refine Sub.of_eq (congrArg aB (decide_eq_false ?_).symm)
        intro h
        obtain ⟨g1, g2, g3, g4, g5, g6, g7⟩ := h
        unfold RT at g6
        unfold RC at g7
        omega
      refine seq_bool (s' := (zRg63 b1 x)) 128 (b := x.phase == 1) (v := false) q25 (by kernel_rfl) (by kernel_rfl) ?_
      refine seq_run (r := [25, 26, 27, 28, 29, 30, 31, 32]) zRg102 (s' := (zRg38 b1 x)) (ps := [b1 = b1]) (by kernel_rfl) ⟨rfl, trivial⟩ ?_
      rcases beqC (x.phase) (2) with ⟨q28, p28⟩ | ⟨q28, p28⟩
      ·
        refine seq_bool (s' := (zRg42 b1 x)) 140 (b := x.phase == 2) (v := true) q28 (by kernel_rfl) (by kernel_rfl) ?_
        refine seq_run (r := [28, 29, 30, 31, 32]) [25, 26, 27] (s' := (zRg30 b1 x)) (ps := [b1 = b1, b1 = b1]) (by kernel_rfl) ⟨rfl, rfl, trivial⟩ ?_
        refine seq_call (f := 46) (args := [.agg (zRg1 x)]) (d := some 144) (args' := [.agg (zRg1 x)]) (s' := (zRg26 b1 x)) (by kernel_rfl) (fun _ _ => rfl) ⟨Sub.refl _, trivial⟩ (long_spec x hs) (by kernel_rfl) ?_
        refine seq_run (r := []) [29, 30, 31, 32] (s' := (zRg7 b1 x)) (ps := []) (by kernel_rfl) trivial ?_
        refine hK32 _ ?_
        try clear hK32 K32
        refine awp_less (zRg72 x) ⟨Sub.refl _, trivial⟩ trivial ?_
        refine awp_ret ?_
        refine fin_ret ⟨[], (zRg83 x), by kernel_rfl, trivial, ?_⟩
        show Copyhold.Sub (aB (x.n == ((jobOf x).length : Int))) (aB _)
        have hSq : Seqs x.told := seqs_all hH1.2 (by omega)
        rcases Bool.eq_false_or_eq_true (x.n == ((jobOf x).length : Int)) with z | z
        · have z2 := z
          simp only [beq_iff_eq, decide_eq_true_eq] at z2
          refine Sub.of_eq (congrArg aB (z.trans (decide_eq_true ?_).symm))
          refine ⟨by omega, by omega, by omega, by omega, hSq, ?_, ?_⟩
          · unfold RT; omega
          · unfold RC; omega
        · have z2 := z
          simp only [beq_eq_false_iff_ne, ne_eq, decide_eq_false_iff_not] at z2
          refine Sub.of_eq (congrArg aB (z.trans (decide_eq_false ?_).symm))
          intro h
          obtain ⟨g1, g2, g3, g4, g5, g6, g7⟩ := h
          unfold RT at g6
          unfold RC at g7
          omega
      refine seq_bool (s' := (zRg41 b1 x)) 140 (b := x.phase == 2) (v := false) q28 (by kernel_rfl) (by kernel_rfl) ?_
      refine seq_run (r := []) [25, 26, 27, 28, 29, 30, 31, 32] (s' := (zRg19 b1 x)) (ps := []) (by kernel_rfl) trivial ?_
      refine hK32 _ ?_
      try clear hK32 K32
      refine awp_less ⟨[(2, aB false)], []⟩ ⟨Sub.refl _, trivial⟩ trivial ?_
      refine awp_ret ?_
      refine fin_ret ⟨[], [aB false], by kernel_rfl, trivial, ?_⟩
      show Copyhold.Sub (aB (false)) (aB _)
      refine Sub.of_eq (congrArg aB (decide_eq_false ?_).symm)
      intro h
      obtain ⟨g1, g2, g3, g4, g5, g6, g7⟩ := h
      unfold RT at g6
      unfold RC at g7
      omega
    refine seq_bool (s' := ⟨[(1, .ptr 1 b1 0), (2, aB false), (51, .ptr 1 b1 6), (52, aI x.stamp), (53, aB (x.stamp != 0)), (54, aB true), (55, .ptr 1 b1 4), (56, aI x.phase), (57, aB (x.phase != 1)), (58, aB (x.phase != 1)), (59, aB false)], [(1, .box b1 26 (zRg1 x))]⟩) 59 (b := x.phase != 1) (v := false) q10 (by kernel_rfl) (by kernel_rfl) ?_
    refine seq_run (r := []) [9, 10, 11, 12] (s' := ⟨[(1, .ptr 1 b1 0), (2, aB false), (51, .ptr 1 b1 6), (52, aI x.stamp), (53, aB (x.stamp != 0)), (54, aB true), (55, .ptr 1 b1 4), (56, aI x.phase), (57, aB (x.phase != 1)), (58, aB (x.phase != 1)), (59, aB false), (60, .val undef), (61, .val undef), (62, .val undef), (63, aB false)], [(1, .box b1 26 (zRg1 x))]⟩) (ps := []) (by kernel_rfl) trivial ?_
    refine hK18 _ ?_
    try clear hK18 K18
    refine awp_less ⟨[(1, .ptr 1 b1 0), (2, aB false), (63, aB false)], [(1, .box b1 26 (zRg1 x))]⟩ ⟨Sub.refl _, Sub.refl _, Sub.refl _, trivial⟩ ⟨⟨_, rfl, SubB.refl _⟩, trivial⟩ ?_
    refine awp_if false (by omega) (by kernel_rfl) rfl ?_
    refine awp_skip ?_
    refine hK17 _ ?_
    try clear hK17 K17
    refine awp_less (zRg2 b1 x) ⟨Sub.refl _, Sub.refl _, trivial⟩ ⟨⟨_, rfl, SubB.refl _⟩, trivial⟩ ?_
    refine awp_seq_k (fun K33 hK33 => ?_)
    refine awp_seq_k (fun K34 hK34 => ?_)
    refine awp_region [0, 1, 2] (by rw [hc]; kernel_rfl) (by kernel_rfl) ?_
    refine seq_run (r := []) [0, 1, 2] (s' := (zRg99 b1 x)) (ps := [b1 = b1]) (by kernel_rfl) ⟨rfl, trivial⟩ ?_
    refine hK34 _ ?_
    try clear hK34 K34
    refine awp_less (zRg106 b1 x) ⟨Sub.refl _, Sub.refl _, Sub.refl _, trivial⟩ ⟨⟨_, rfl, SubB.refl _⟩, trivial⟩ ?_
    rcases beqC (x.phase) (3) with ⟨q29, p29⟩ | ⟨q29, p29⟩
    ·
      refine awp_if true (by omega) (by kernel_rfl) q29 ?_
      refine awp_seq_k (fun K35 hK35 => ?_)
      refine awp_region zRg107 (by rw [hc]; kernel_rfl) (by kernel_rfl) ?_
      refine seq_run (r := zRg91) [0, 1, 2, 3] (s' := (zRg86 b1 x)) (ps := [b1 = b1]) (by kernel_rfl) ⟨rfl, trivial⟩ ?_
      rcases beqC (x.n) (0) with ⟨q30, p30⟩ | ⟨q30, p30⟩
      ·
        refine seq_bool (s' := (zRg92 b1 x)) 70 (b := x.n == 0) (v := true) q30 (by kernel_rfl) (by kernel_rfl) ?_
        refine seq_run (r := [7, 8, 9, 10, 11, 12, 13, 14, 15, 16, 17, 18, 19, 20]) [4, 5, 6] (s' := (zRg70 b1 x)) (ps := [b1 = b1]) (by kernel_rfl) ⟨rfl, trivial⟩ ?_
        refine seq_val (s' := (zRg74 b1 x)) 73 (x := aI ((x.told.map donA).length : Int)) (y := aI (x.told.length : Int)) (by rw [List.length_map]) (by kernel_rfl) (by kernel_rfl) ?_
        refine seq_run (r := zRg105) [7, 8, 9, 10, 11] (s' := (zRg50 b1 x)) (ps := [b1 = b1]) (by kernel_rfl) ⟨rfl, trivial⟩ ?_
        rcases beqC ((x.told.length : Int)) (x.seq) with ⟨q31, p31⟩ | ⟨q31, p31⟩
        ·
          refine seq_bool (s' := (zRg52 b1 x)) 78 (b := (x.told.length : Int) == x.seq) (v := true) q31 (by kernel_rfl) (by kernel_rfl) ?_
          refine seq_run (r := [15, 16, 17, 18, 19, 20]) [12, 13, 14] (s' := (zRg45 b1 x)) (ps := [b1 = b1]) (by kernel_rfl) ⟨rfl, trivial⟩ ?_
          refine seq_val (s' := (zRg46 b1 x)) 81 (x := aI ((x.told.map donA).length : Int)) (y := aI (x.told.length : Int)) (by rw [List.length_map]) (by kernel_rfl) (by kernel_rfl) ?_
          refine seq_run (r := [18, 19, 20]) [15, 16, 17] (s' := (zRg35 b1 x)) (ps := [b1 = b1]) (by kernel_rfl) ⟨rfl, trivial⟩ ?_
          refine seq_val (s' := (zRg37 b1 x)) 84 (x := aI ((x.jobs.map jobA).length : Int)) (y := aI (x.jobs.length : Int)) (by rw [List.length_map]) (by kernel_rfl) (by kernel_rfl) ?_
          refine seq_run (r := []) [18, 19, 20] (s' := (zRg13 b1 x)) (ps := []) (by kernel_rfl) trivial ?_
          refine hK35 _ ?_
          try clear hK35 K35
          refine awp_less (zRg103 b1 x) ⟨Sub.refl _, Sub.refl _, trivial⟩ ⟨⟨_, rfl, SubB.refl _⟩, trivial⟩ ?_
          refine awp_ret ?_
          refine fin_ret ⟨[], [aB (decide ((x.told.length : Int) ≤ (x.jobs.length : Int)))], by kernel_rfl, trivial, ?_⟩
          show Copyhold.Sub (aB (decide ((x.told.length : Int) ≤ (x.jobs.length : Int)))) (aB _)
          have hSq : Seqs x.told := seqs_all hH1.2 (by omega)
          rcases Bool.eq_false_or_eq_true (decide ((x.told.length : Int) ≤ (x.jobs.length : Int))) with z | z
          · have z2 := z
            simp only [beq_iff_eq, decide_eq_true_eq] at z2
            refine Sub.of_eq (congrArg aB (z.trans (decide_eq_true ?_).symm))
            refine ⟨by omega, by omega, by omega, by omega, hSq, ?_, ?_⟩
            · unfold RT; omega
            · unfold RC; omega
          · have z2 := z
            simp only [beq_eq_false_iff_ne, ne_eq, decide_eq_false_iff_not] at z2
            refine Sub.of_eq (congrArg aB (z.trans (decide_eq_false ?_).symm))
            intro h
            obtain ⟨g1, g2, g3, g4, g5, g6, g7⟩ := h
            unfold RT at g6
            unfold RC at g7
            omega
        refine seq_bool (s' := (zRg51 b1 x)) 78 (b := (x.told.length : Int) == x.seq) (v := false) q31 (by kernel_rfl) (by kernel_rfl) ?_
        refine seq_run (r := []) zRg105 (s' := (zRg43 b1 x)) (ps := []) (by kernel_rfl) trivial ?_
        refine hK35 _ ?_
        try clear hK35 K35
        refine awp_less (zRg2 b1 x) ⟨Sub.refl _, Sub.refl _, trivial⟩ ⟨⟨_, rfl, SubB.refl _⟩, trivial⟩ ?_
        refine awp_ret ?_
        refine fin_ret ⟨[], [aB false], by kernel_rfl, trivial, ?_⟩
        show Copyhold.Sub (aB (false)) (aB _)
        refine Sub.of_eq (congrArg aB (decide_eq_false ?_).symm)
        intro h
        obtain ⟨g1, g2, g3, g4, g5, g6, g7⟩ := h
        unfold RT at g6
        unfold RC at g7
        omega
      refine seq_bool (s' := (zRg89 b1 x)) 70 (b := x.n == 0) (v := false) q30 (by kernel_rfl) (by kernel_rfl) ?_
      refine seq_run (r := []) zRg91 (s' := (zRg47 b1 x)) (ps := []) (by kernel_rfl) trivial ?_
      refine hK35 _ ?_
      try clear hK35 K35
      refine awp_less (zRg2 b1 x) ⟨Sub.refl _, Sub.refl _, trivial⟩ ⟨⟨_, rfl, SubB.refl _⟩, trivial⟩ ?_
      refine awp_ret ?_
      refine fin_ret ⟨[], [aB false], by kernel_rfl, trivial, ?_⟩
      show Copyhold.Sub (aB (false)) (aB _)
      refine Sub.of_eq (congrArg aB (decide_eq_false ?_).symm)
      intro h
      obtain ⟨g1, g2, g3, g4, g5, g6, g7⟩ := h
      unfold RT at g6
      unfold RC at g7
      omega
    refine awp_if false (by omega) (by kernel_rfl) q29 ?_
    refine awp_skip ?_
    refine hK33 _ ?_
    try clear hK33 K33
    refine awp_less (zRg2 b1 x) ⟨Sub.refl _, Sub.refl _, trivial⟩ ⟨⟨_, rfl, SubB.refl _⟩, trivial⟩ ?_
    refine awp_seq_k (fun K36 hK36 => ?_)
    refine awp_seq_k (fun K37 hK37 => ?_)
    refine awp_region [0, 1, 2, 3, 4, 5, 6] (by rw [hc]; kernel_rfl) (by kernel_rfl) ?_
    refine seq_run (r := [3, 4, 5, 6]) [0, 1, 2] (s' := (zRg87 b1 x)) (ps := [b1 = b1]) (by kernel_rfl) ⟨rfl, trivial⟩ ?_
    refine seq_val (s' := (zRg95 b1 x)) 89 (x := aI ((x.told.map donA).length : Int)) (y := aI (x.told.length : Int)) (by rw [List.length_map]) (by kernel_rfl) (by kernel_rfl) ?_
    refine seq_run (r := []) [3, 4, 5, 6] (s' := (zRg69 b1 x)) (ps := [b1 = b1, rng .i64 (x.seq - 1)]) (by kernel_rfl) ⟨rfl, rng64 (by omega) (by omega), trivial⟩ ?_
    refine hK37 _ ?_
    try clear hK37 K37
    refine awp_less (zRg67 b1 x) ⟨Sub.refl _, Sub.refl _, Sub.refl _, trivial⟩ ⟨⟨_, rfl, SubB.refl _⟩, trivial⟩ ?_
    rcases bneC ((x.told.length : Int)) ((x.seq - 1)) with ⟨q32, p32⟩ | ⟨q32, p32⟩
    ·
      refine awp_if true (by omega) (by kernel_rfl) q32 ?_
      refine awp_seq_k (fun K38 hK38 => ?_)
      refine awp_region [0] (by rw [hc]; kernel_rfl) (by kernel_rfl) ?_
      refine seq_run (r := []) [0] (s' := (zRg67 b1 x)) (ps := []) (by kernel_rfl) trivial ?_
      refine hK38 _ ?_
      try clear hK38 K38
      refine awp_less (zRg2 b1 x) ⟨Sub.refl _, Sub.refl _, trivial⟩ ⟨⟨_, rfl, SubB.refl _⟩, trivial⟩ ?_
      refine awp_ret ?_
      refine fin_ret ⟨[], [aB false], by kernel_rfl, trivial, ?_⟩
      show Copyhold.Sub (aB (false)) (aB _)
      refine Sub.of_eq (congrArg aB (decide_eq_false ?_).symm)
      intro h
      obtain ⟨g1, g2, g3, g4, g5, g6, g7⟩ := h
      unfold RT at g6
      unfold RC at g7
      omega
    refine awp_if false (by omega) (by kernel_rfl) q32 ?_
    refine awp_skip ?_
    refine hK36 _ ?_
    try clear hK36 K36
    refine awp_less (zRg2 b1 x) ⟨Sub.refl _, Sub.refl _, trivial⟩ ⟨⟨_, rfl, SubB.refl _⟩, trivial⟩ ?_
    refine awp_seq_k (fun K39 hK39 => ?_)
    refine awp_seq_k (fun K40 hK40 => ?_)
    refine awp_region [0, 1, 2] (by rw [hc]; kernel_rfl) (by kernel_rfl) ?_
    refine seq_run (r := []) [0, 1, 2] (s' := (zRg100 b1 x)) (ps := [b1 = b1]) (by kernel_rfl) ⟨rfl, trivial⟩ ?_
    refine hK40 _ ?_
    try clear hK40 K40
    refine awp_less (zRg108 b1 x) ⟨Sub.refl _, Sub.refl _, Sub.refl _, trivial⟩ ⟨⟨_, rfl, SubB.refl _⟩, trivial⟩ ?_
    rcases beqC (x.phase) (4) with ⟨q33, p33⟩ | ⟨q33, p33⟩
    ·
      refine awp_if true (by omega) (by kernel_rfl) q33 ?_
      refine awp_seq_k (fun K41 hK41 => ?_)
      refine awp_region [0, 1, 2, 3, 4, 5, 6, 7, 8, 9, 10, 11, 12] (by rw [hc]; kernel_rfl) (by kernel_rfl) ?_
      refine seq_run (r := [4, 5, 6, 7, 8, 9, 10, 11, 12]) [0, 1, 2, 3] (s' := (zRg85 b1 x)) (ps := [b1 = b1]) (by kernel_rfl) ⟨rfl, trivial⟩ ?_
      rcases beqC (x.n) (0) with ⟨q34, p34⟩ | ⟨q34, p34⟩
      ·
        refine seq_bool (s' := (zRg90 b1 x)) 100 (b := x.n == 0) (v := true) q34 (by kernel_rfl) (by kernel_rfl) ?_
        refine seq_run (r := [7, 8, 9, 10, 11, 12]) [4, 5, 6] (s' := (zRg68 b1 x)) (ps := [b1 = b1]) (by kernel_rfl) ⟨rfl, trivial⟩ ?_
        refine seq_val (s' := (zRg73 b1 x)) 103 (x := aI ((x.told.map donA).length : Int)) (y := aI (x.told.length : Int)) (by rw [List.length_map]) (by kernel_rfl) (by kernel_rfl) ?_
        refine seq_run (r := [10, 11, 12]) [7, 8, 9] (s' := (zRg55 b1 x)) (ps := [b1 = b1]) (by kernel_rfl) ⟨rfl, trivial⟩ ?_
        refine seq_val (s' := (zRg56 b1 x)) 106 (x := aI ((x.jobs.map jobA).length : Int)) (y := aI (x.jobs.length : Int)) (by rw [List.length_map]) (by kernel_rfl) (by kernel_rfl) ?_
        refine seq_run (r := []) [10, 11, 12] (s' := (zRg44 b1 x)) (ps := []) (by kernel_rfl) trivial ?_
        refine hK41 _ ?_
        try clear hK41 K41
        refine awp_less (zRg104 b1 x) ⟨Sub.refl _, Sub.refl _, trivial⟩ ⟨⟨_, rfl, SubB.refl _⟩, trivial⟩ ?_
        refine awp_ret ?_
        refine fin_ret ⟨[], [aB ((x.told.length : Int) == (x.jobs.length : Int))], by kernel_rfl, trivial, ?_⟩
        show Copyhold.Sub (aB ((x.told.length : Int) == (x.jobs.length : Int))) (aB _)
        have hSq : Seqs x.told := seqs_all hH1.2 (by omega)
        rcases Bool.eq_false_or_eq_true ((x.told.length : Int) == (x.jobs.length : Int)) with z | z
        · have z2 := z
          simp only [beq_iff_eq, decide_eq_true_eq] at z2
          refine Sub.of_eq (congrArg aB (z.trans (decide_eq_true ?_).symm))
          refine ⟨by omega, by omega, by omega, by omega, hSq, ?_, ?_⟩
          · unfold RT; omega
          · unfold RC; omega
        · have z2 := z
          simp only [beq_eq_false_iff_ne, ne_eq, decide_eq_false_iff_not] at z2
          refine Sub.of_eq (congrArg aB (z.trans (decide_eq_false ?_).symm))
          intro h
          obtain ⟨g1, g2, g3, g4, g5, g6, g7⟩ := h
          unfold RT at g6
          unfold RC at g7
          omega
      refine seq_bool (s' := (zRg88 b1 x)) 100 (b := x.n == 0) (v := false) q34 (by kernel_rfl) (by kernel_rfl) ?_
      refine seq_run (r := []) [4, 5, 6, 7, 8, 9, 10, 11, 12] (s' := (zRg66 b1 x)) (ps := []) (by kernel_rfl) trivial ?_
      refine hK41 _ ?_
      try clear hK41 K41
      refine awp_less (zRg2 b1 x) ⟨Sub.refl _, Sub.refl _, trivial⟩ ⟨⟨_, rfl, SubB.refl _⟩, trivial⟩ ?_
      refine awp_ret ?_
      refine fin_ret ⟨[], [aB false], by kernel_rfl, trivial, ?_⟩
      show Copyhold.Sub (aB (false)) (aB _)
      refine Sub.of_eq (congrArg aB (decide_eq_false ?_).symm)
      intro h
      obtain ⟨g1, g2, g3, g4, g5, g6, g7⟩ := h
      unfold RT at g6
      unfold RC at g7
      omega
    refine awp_if false (by omega) (by kernel_rfl) q33 ?_
    refine awp_skip ?_
    refine hK39 _ ?_
    try clear hK39 K39
    refine awp_less (zRg2 b1 x) ⟨Sub.refl _, Sub.refl _, trivial⟩ ⟨⟨_, rfl, SubB.refl _⟩, trivial⟩ ?_
    refine awp_seq_k (fun K42 hK42 => ?_)
    refine awp_seq_k (fun K43 hK43 => ?_)
    refine awp_region [0, 1, 2, 3, 4, 5, 6] (by rw [hc]; kernel_rfl) (by kernel_rfl) ?_
    refine seq_run (r := [3, 4, 5, 6]) [0, 1, 2] (s' := (zRg84 b1 x)) (ps := [b1 = b1]) (by kernel_rfl) ⟨rfl, trivial⟩ ?_
    refine seq_val (s' := (zRg93 b1 x)) 111 (x := aI ((x.told.map donA).length : Int)) (y := aI (x.told.length : Int)) (by rw [List.length_map]) (by kernel_rfl) (by kernel_rfl) ?_
    refine seq_run (r := [6]) [3, 4, 5] (s' := (zRg71 b1 x)) (ps := [b1 = b1]) (by kernel_rfl) ⟨rfl, trivial⟩ ?_
    refine seq_val (s' := (zRg75 b1 x)) 114 (x := aI ((x.jobs.map jobA).length : Int)) (y := aI (x.jobs.length : Int)) (by rw [List.length_map]) (by kernel_rfl) (by kernel_rfl) ?_
    refine seq_run (r := []) [6] (s' := (zRg65 b1 x)) (ps := []) (by kernel_rfl) trivial ?_
    refine hK43 _ ?_
    try clear hK43 K43
    refine awp_less (zRg62 b1 x) ⟨Sub.refl _, Sub.refl _, Sub.refl _, trivial⟩ ⟨⟨_, rfl, SubB.refl _⟩, trivial⟩ ?_
    rcases decC ((x.told.length : Int) ≥ (x.jobs.length : Int)) with ⟨q35, p35⟩ | ⟨q35, p35⟩
    ·
      refine awp_if true (by omega) (by kernel_rfl) q35 ?_
      refine awp_seq_k (fun K44 hK44 => ?_)
      refine awp_region [0] (by rw [hc]; kernel_rfl) (by kernel_rfl) ?_
      refine seq_run (r := []) [0] (s' := (zRg62 b1 x)) (ps := []) (by kernel_rfl) trivial ?_
      refine hK44 _ ?_
      try clear hK44 K44
      refine awp_less (zRg2 b1 x) ⟨Sub.refl _, Sub.refl _, trivial⟩ ⟨⟨_, rfl, SubB.refl _⟩, trivial⟩ ?_
      refine awp_ret ?_
      refine fin_ret ⟨[], [aB false], by kernel_rfl, trivial, ?_⟩
      show Copyhold.Sub (aB (false)) (aB _)
      refine Sub.of_eq (congrArg aB (decide_eq_false ?_).symm)
      intro h
      obtain ⟨g1, g2, g3, g4, g5, g6, g7⟩ := h
      unfold RT at g6
      unfold RC at g7
      omega
    refine awp_if false (by omega) (by kernel_rfl) q35 ?_
    refine awp_skip ?_
    refine hK42 _ ?_
    try clear hK42 K42
    refine awp_less (zRg2 b1 x) ⟨Sub.refl _, Sub.refl _, trivial⟩ ⟨⟨_, rfl, SubB.refl _⟩, trivial⟩ ?_
    refine awp_seq_k (fun K45 hK45 => ?_)
    refine awp_region_draw zRg98 (by kernel_rfl) (by rw [hc]; kernel_rfl) (by kernel_rfl) ?_
    refine seq_run (r := zRg101) [0, 1, 2, 3] (s' := (zRg94 b1 x)) (ps := [b1 = b1]) (by kernel_rfl) ⟨rfl, trivial⟩ ?_
    rcases beqC (x.phase) (0) with ⟨q36, p36⟩ | ⟨q36, p36⟩
    ·
      refine seq_bool (s' := (zRg97 b1 x)) 119 (b := x.phase == 0) (v := true) q36 (by kernel_rfl) (by kernel_rfl) ?_
      refine seq_run (r := zRg79) [4, 5, 6, 7, 8] (s' := (zRg76 b1 x)) (ps := [b1 = b1]) (by kernel_rfl) ⟨rfl, trivial⟩ ?_
      rcases beqC (x.n) (0) with ⟨q37, p37⟩ | ⟨q37, p37⟩
      ·
        refine seq_bool (s' := (zRg80 b1 x)) 124 (b := x.n == 0) (v := true) q37 (by kernel_rfl) (by kernel_rfl) ?_
        refine seq_run (r := []) zRg79 (s' := (zRg24 b1 x)) (ps := []) (by kernel_rfl) trivial ?_
        refine hK45 _ ?_
        try clear hK45 K45
        refine awp_less ⟨[(2, aB true)], []⟩ ⟨Sub.refl _, trivial⟩ trivial ?_
        refine awp_ret ?_
        refine fin_ret ⟨[], [aB true], by kernel_rfl, trivial, ?_⟩
        show Copyhold.Sub (aB (true)) (aB _)
        have hSq : Seqs x.told := seqs_all hH1.2 (by omega)
        refine Sub.of_eq (congrArg aB (decide_eq_true ?_).symm)
        refine ⟨by omega, by omega, by omega, by omega, hSq, ?_, ?_⟩
        · unfold RT; omega
        · unfold RC; omega
      refine seq_bool (s' := (zRg78 b1 x)) 124 (b := x.n == 0) (v := false) q37 (by kernel_rfl) (by kernel_rfl) ?_
      refine seq_run (r := zRg81) [9, 10, 11, 12] (s' := (zRg57 b1 x)) (ps := [b1 = b1]) (by kernel_rfl) ⟨rfl, trivial⟩ ?_
      rcases beqC (x.phase) (1) with ⟨q38, p38⟩ | ⟨q38, p38⟩
      ·
        refine seq_bool (s' := (zRg61 b1 x)) 128 (b := x.phase == 1) (v := true) q38 (by kernel_rfl) (by kernel_rfl) ?_
        refine seq_run (r := zRg82) [13, 14, 15] (s' := (zRg53 b1 x)) (ps := [b1 = b1, b1 = b1]) (by kernel_rfl) ⟨rfl, rfl, trivial⟩ ?_
        refine seq_call (f := 46) (args := [.agg (zRg1 x)]) (d := some 132) (args' := [.agg (zRg1 x)]) (s' := (zRg48 b1 x)) (by kernel_rfl) (fun _ _ => rfl) ⟨Sub.refl _, trivial⟩ (long_spec x hs) (by kernel_rfl) ?_
        refine seq_run (r := zRg77) [17, 18, 19, 20] (s' := (zRg27 b1 x)) (ps := []) (by kernel_rfl) trivial ?_
        rcases decC (x.n < ((jobOf x).length : Int)) with ⟨q39, p39⟩ | ⟨q39, p39⟩
        ·
          refine seq_bool (s' := (zRg32 b1 x)) 136 (b := decide (x.n < ((jobOf x).length : Int))) (v := true) q39 (by kernel_rfl) (by kernel_rfl) ?_
          refine seq_run (r := []) zRg77 (s' := (zRg9 b1 x)) (ps := []) (by kernel_rfl) trivial ?_
          refine hK45 _ ?_
          try clear hK45 K45
          refine awp_less ⟨[(2, aB true)], []⟩ ⟨Sub.refl _, trivial⟩ trivial ?_
          refine awp_ret ?_
          refine fin_ret ⟨[], [aB true], by kernel_rfl, trivial, ?_⟩
          show Copyhold.Sub (aB (true)) (aB _)
          have hSq : Seqs x.told := seqs_all hH1.2 (by omega)
          refine Sub.of_eq (congrArg aB (decide_eq_true ?_).symm)
          refine ⟨by omega, by omega, by omega, by omega, hSq, ?_, ?_⟩
          · unfold RT; omega
          · unfold RC; omega
        refine seq_bool (s' := (zRg31 b1 x)) 136 (b := decide (x.n < ((jobOf x).length : Int))) (v := false) q39 (by kernel_rfl) (by kernel_rfl) ?_
        refine seq_run (r := [25, 26, 27, 28, 29, 30, 31, 32]) [21, 22, 23, 24] (s' := (zRg16 b1 x)) (ps := [b1 = b1]) (by kernel_rfl) ⟨rfl, trivial⟩ ?_
        rcases beqC (x.phase) (2) with ⟨q40, p40⟩ | ⟨q40, p40⟩
        ·
          refine seq_bool (s' := (zRg21 b1 x)) 140 (b := x.phase == 2) (v := true) q40 (by kernel_rfl) (by kernel_rfl) ?_
          refine seq_run (r := [28, 29, 30, 31, 32]) [25, 26, 27] (s' := (zRg14 b1 x)) (ps := [b1 = b1, b1 = b1]) (by kernel_rfl) ⟨rfl, rfl, trivial⟩ ?_
          refine seq_call (f := 46) (args := [.agg (zRg1 x)]) (d := some 144) (args' := [.agg (zRg1 x)]) (s' := (zRg11 b1 x)) (by kernel_rfl) (fun _ _ => rfl) ⟨Sub.refl _, trivial⟩ (long_spec x hs) (by kernel_rfl) ?_
          refine seq_run (r := []) [29, 30, 31, 32] (s' := (zRg3 b1 x)) (ps := []) (by kernel_rfl) trivial ?_
          refine hK45 _ ?_
          try clear hK45 K45
          refine awp_less (zRg72 x) ⟨Sub.refl _, trivial⟩ trivial ?_
          refine awp_ret ?_
          refine fin_ret ⟨[], (zRg83 x), by kernel_rfl, trivial, ?_⟩
          show Copyhold.Sub (aB (x.n == ((jobOf x).length : Int))) (aB _)
          have hSq : Seqs x.told := seqs_all hH1.2 (by omega)
          rcases Bool.eq_false_or_eq_true (x.n == ((jobOf x).length : Int)) with z | z
          · have z2 := z
            simp only [beq_iff_eq, decide_eq_true_eq] at z2
            refine Sub.of_eq (congrArg aB (z.trans (decide_eq_true ?_).symm))
            refine ⟨by omega, by omega, by omega, by omega, hSq, ?_, ?_⟩
            · unfold RT; omega
            · unfold RC; omega
          · have z2 := z
            simp only [beq_eq_false_iff_ne, ne_eq, decide_eq_false_iff_not] at z2
            refine Sub.of_eq (congrArg aB (z.trans (decide_eq_false ?_).symm))
            intro h
            obtain ⟨g1, g2, g3, g4, g5, g6, g7⟩ := h
            unfold RT at g6
            unfold RC at g7
            omega
        refine seq_bool (s' := (zRg20 b1 x)) 140 (b := x.phase == 2) (v := false) q40 (by kernel_rfl) (by kernel_rfl) ?_
        refine seq_run (r := []) [25, 26, 27, 28, 29, 30, 31, 32] (s' := (zRg6 b1 x)) (ps := []) (by kernel_rfl) trivial ?_
        refine hK45 _ ?_
        try clear hK45 K45
        refine awp_less ⟨[(2, aB false)], []⟩ ⟨Sub.refl _, trivial⟩ trivial ?_
        refine awp_ret ?_
        refine fin_ret ⟨[], [aB false], by kernel_rfl, trivial, ?_⟩
        show Copyhold.Sub (aB (false)) (aB _)
        refine Sub.of_eq (congrArg aB (decide_eq_false ?_).symm)
        intro h
        obtain ⟨g1, g2, g3, g4, g5, g6, g7⟩ := h
        unfold RT at g6
        unfold RC at g7
        omega
      refine seq_bool (s' := (zRg60 b1 x)) 128 (b := x.phase == 1) (v := false) q38 (by kernel_rfl) (by kernel_rfl) ?_
      refine seq_run (r := [25, 26, 27, 28, 29, 30, 31, 32]) zRg102 (s' := (zRg36 b1 x)) (ps := [b1 = b1]) (by kernel_rfl) ⟨rfl, trivial⟩ ?_
      rcases beqC (x.phase) (2) with ⟨q41, p41⟩ | ⟨q41, p41⟩
      ·
        refine seq_bool (s' := (zRg40 b1 x)) 140 (b := x.phase == 2) (v := true) q41 (by kernel_rfl) (by kernel_rfl) ?_
        refine seq_run (r := [28, 29, 30, 31, 32]) [25, 26, 27] (s' := (zRg29 b1 x)) (ps := [b1 = b1, b1 = b1]) (by kernel_rfl) ⟨rfl, rfl, trivial⟩ ?_
        refine seq_call (f := 46) (args := [.agg (zRg1 x)]) (d := some 144) (args' := [.agg (zRg1 x)]) (s' := (zRg25 b1 x)) (by kernel_rfl) (fun _ _ => rfl) ⟨Sub.refl _, trivial⟩ (long_spec x hs) (by kernel_rfl) ?_
        refine seq_run (r := []) [29, 30, 31, 32] (s' := (zRg5 b1 x)) (ps := []) (by kernel_rfl) trivial ?_
        refine hK45 _ ?_
        try clear hK45 K45
        refine awp_less (zRg72 x) ⟨Sub.refl _, trivial⟩ trivial ?_
        refine awp_ret ?_
        refine fin_ret ⟨[], (zRg83 x), by kernel_rfl, trivial, ?_⟩
        show Copyhold.Sub (aB (x.n == ((jobOf x).length : Int))) (aB _)
        have hSq : Seqs x.told := seqs_all hH1.2 (by omega)
        rcases Bool.eq_false_or_eq_true (x.n == ((jobOf x).length : Int)) with z | z
        · have z2 := z
          simp only [beq_iff_eq, decide_eq_true_eq] at z2
          refine Sub.of_eq (congrArg aB (z.trans (decide_eq_true ?_).symm))
          refine ⟨by omega, by omega, by omega, by omega, hSq, ?_, ?_⟩
          · unfold RT; omega
          · unfold RC; omega
        · have z2 := z
          simp only [beq_eq_false_iff_ne, ne_eq, decide_eq_false_iff_not] at z2
          refine Sub.of_eq (congrArg aB (z.trans (decide_eq_false ?_).symm))
          intro h
          obtain ⟨g1, g2, g3, g4, g5, g6, g7⟩ := h
          unfold RT at g6
          unfold RC at g7
          omega
      refine seq_bool (s' := (zRg39 b1 x)) 140 (b := x.phase == 2) (v := false) q41 (by kernel_rfl) (by kernel_rfl) ?_
      refine seq_run (r := []) [25, 26, 27, 28, 29, 30, 31, 32] (s' := (zRg17 b1 x)) (ps := []) (by kernel_rfl) trivial ?_
      refine hK45 _ ?_
      try clear hK45 K45
      refine awp_less ⟨[(2, aB false)], []⟩ ⟨Sub.refl _, trivial⟩ trivial ?_
      refine awp_ret ?_
      refine fin_ret ⟨[], [aB false], by kernel_rfl, trivial, ?_⟩
      show Copyhold.Sub (aB (false)) (aB _)
      refine Sub.of_eq (congrArg aB (decide_eq_false ?_).symm)
      intro h
      obtain ⟨g1, g2, g3, g4, g5, g6, g7⟩ := h
      unfold RT at g6
      unfold RC at g7
      omega
    refine seq_bool (s' := (zRg96 b1 x)) 119 (b := x.phase == 0) (v := false) q36 (by kernel_rfl) (by kernel_rfl) ?_
    refine seq_run (r := zRg81) [4, 5, 6, 7, 8, 9, 10, 11, 12] (s' := (zRg58 b1 x)) (ps := [b1 = b1]) (by kernel_rfl) ⟨rfl, trivial⟩ ?_
    rcases beqC (x.phase) (1) with ⟨q42, p42⟩ | ⟨q42, p42⟩
    ·
      refine seq_bool (s' := (zRg64 b1 x)) 128 (b := x.phase == 1) (v := true) q42 (by kernel_rfl) (by kernel_rfl) ?_
      refine seq_run (r := zRg82) [13, 14, 15] (s' := (zRg54 b1 x)) (ps := [b1 = b1, b1 = b1]) (by kernel_rfl) ⟨rfl, rfl, trivial⟩ ?_
      refine seq_call (f := 46) (args := [.agg (zRg1 x)]) (d := some 132) (args' := [.agg (zRg1 x)]) (s' := (zRg49 b1 x)) (by kernel_rfl) (fun _ _ => rfl) ⟨Sub.refl _, trivial⟩ (long_spec x hs) (by kernel_rfl) ?_
      refine seq_run (r := zRg77) [17, 18, 19, 20] (s' := (zRg28 b1 x)) (ps := []) (by kernel_rfl) trivial ?_
      rcases decC (x.n < ((jobOf x).length : Int)) with ⟨q43, p43⟩ | ⟨q43, p43⟩
      ·
        refine seq_bool (s' := (zRg34 b1 x)) 136 (b := decide (x.n < ((jobOf x).length : Int))) (v := true) q43 (by kernel_rfl) (by kernel_rfl) ?_
        refine seq_run (r := []) zRg77 (s' := (zRg10 b1 x)) (ps := []) (by kernel_rfl) trivial ?_
        refine hK45 _ ?_
        try clear hK45 K45
        refine awp_less ⟨[(2, aB true)], []⟩ ⟨Sub.refl _, trivial⟩ trivial ?_
        refine awp_ret ?_
        refine fin_ret ⟨[], [aB true], by kernel_rfl, trivial, ?_⟩
        show Copyhold.Sub (aB (true)) (aB _)
        have hSq : Seqs x.told := seqs_all hH1.2 (by omega)
        refine Sub.of_eq (congrArg aB (decide_eq_true ?_).symm)
        refine ⟨by omega, by omega, by omega, by omega, hSq, ?_, ?_⟩
        · unfold RT; omega
        · unfold RC; omega
      refine seq_bool (s' := (zRg33 b1 x)) 136 (b := decide (x.n < ((jobOf x).length : Int))) (v := false) q43 (by kernel_rfl) (by kernel_rfl) ?_
      refine seq_run (r := [25, 26, 27, 28, 29, 30, 31, 32]) [21, 22, 23, 24] (s' := (zRg18 b1 x)) (ps := [b1 = b1]) (by kernel_rfl) ⟨rfl, trivial⟩ ?_
      rcases beqC (x.phase) (2) with ⟨q44, p44⟩ | ⟨q44, p44⟩
      ·
        refine seq_bool (s' := (zRg23 b1 x)) 140 (b := x.phase == 2) (v := true) q44 (by kernel_rfl) (by kernel_rfl) ?_
        refine seq_run (r := [28, 29, 30, 31, 32]) [25, 26, 27] (s' := (zRg15 b1 x)) (ps := [b1 = b1, b1 = b1]) (by kernel_rfl) ⟨rfl, rfl, trivial⟩ ?_
        refine seq_call (f := 46) (args := [.agg (zRg1 x)]) (d := some 144) (args' := [.agg (zRg1 x)]) (s' := (zRg12 b1 x)) (by kernel_rfl) (fun _ _ => rfl) ⟨Sub.refl _, trivial⟩ (long_spec x hs) (by kernel_rfl) ?_
        refine seq_run (r := []) [29, 30, 31, 32] (s' := (zRg4 b1 x)) (ps := []) (by kernel_rfl) trivial ?_
        refine hK45 _ ?_
        try clear hK45 K45
        refine awp_less (zRg72 x) ⟨Sub.refl _, trivial⟩ trivial ?_
        refine awp_ret ?_
        refine fin_ret ⟨[], (zRg83 x), by kernel_rfl, trivial, ?_⟩
        show Copyhold.Sub (aB (x.n == ((jobOf x).length : Int))) (aB _)
        have hSq : Seqs x.told := seqs_all hH1.2 (by omega)
        rcases Bool.eq_false_or_eq_true (x.n == ((jobOf x).length : Int)) with z | z
        · have z2 := z
          simp only [beq_iff_eq, decide_eq_true_eq] at z2
          refine Sub.of_eq (congrArg aB (z.trans (decide_eq_true ?_).symm))
          refine ⟨by omega, by omega, by omega, by omega, hSq, ?_, ?_⟩
          · unfold RT; omega
          · unfold RC; omega
        · have z2 := z
          simp only [beq_eq_false_iff_ne, ne_eq, decide_eq_false_iff_not] at z2
          refine Sub.of_eq (congrArg aB (z.trans (decide_eq_false ?_).symm))
          intro h
          obtain ⟨g1, g2, g3, g4, g5, g6, g7⟩ := h
          unfold RT at g6
          unfold RC at g7
          omega
      refine seq_bool (s' := (zRg22 b1 x)) 140 (b := x.phase == 2) (v := false) q44 (by kernel_rfl) (by kernel_rfl) ?_
      refine seq_run (r := []) [25, 26, 27, 28, 29, 30, 31, 32] (s' := (zRg8 b1 x)) (ps := []) (by kernel_rfl) trivial ?_
      refine hK45 _ ?_
      try clear hK45 K45
      refine awp_less ⟨[(2, aB false)], []⟩ ⟨Sub.refl _, trivial⟩ trivial ?_
      refine awp_ret ?_
      refine fin_ret ⟨[], [aB false], by kernel_rfl, trivial, ?_⟩
      show Copyhold.Sub (aB (false)) (aB _)
      refine Sub.of_eq (congrArg aB (decide_eq_false ?_).symm)
      intro h
      obtain ⟨g1, g2, g3, g4, g5, g6, g7⟩ := h
      unfold RT at g6
      unfold RC at g7
      omega
    refine seq_bool (s' := (zRg63 b1 x)) 128 (b := x.phase == 1) (v := false) q42 (by kernel_rfl) (by kernel_rfl) ?_
    refine seq_run (r := [25, 26, 27, 28, 29, 30, 31, 32]) zRg102 (s' := (zRg38 b1 x)) (ps := [b1 = b1]) (by kernel_rfl) ⟨rfl, trivial⟩ ?_
    rcases beqC (x.phase) (2) with ⟨q45, p45⟩ | ⟨q45, p45⟩
    ·
      refine seq_bool (s' := (zRg42 b1 x)) 140 (b := x.phase == 2) (v := true) q45 (by kernel_rfl) (by kernel_rfl) ?_
      refine seq_run (r := [28, 29, 30, 31, 32]) [25, 26, 27] (s' := (zRg30 b1 x)) (ps := [b1 = b1, b1 = b1]) (by kernel_rfl) ⟨rfl, rfl, trivial⟩ ?_
      refine seq_call (f := 46) (args := [.agg (zRg1 x)]) (d := some 144) (args' := [.agg (zRg1 x)]) (s' := (zRg26 b1 x)) (by kernel_rfl) (fun _ _ => rfl) ⟨Sub.refl _, trivial⟩ (long_spec x hs) (by kernel_rfl) ?_
      refine seq_run (r := []) [29, 30, 31, 32] (s' := (zRg7 b1 x)) (ps := []) (by kernel_rfl) trivial ?_
      refine hK45 _ ?_
      try clear hK45 K45
      refine awp_less (zRg72 x) ⟨Sub.refl _, trivial⟩ trivial ?_
      refine awp_ret ?_
      refine fin_ret ⟨[], (zRg83 x), by kernel_rfl, trivial, ?_⟩
      show Copyhold.Sub (aB (x.n == ((jobOf x).length : Int))) (aB _)
      have hSq : Seqs x.told := seqs_all hH1.2 (by omega)
      rcases Bool.eq_false_or_eq_true (x.n == ((jobOf x).length : Int)) with z | z
      · have z2 := z
        simp only [beq_iff_eq, decide_eq_true_eq] at z2
        refine Sub.of_eq (congrArg aB (z.trans (decide_eq_true ?_).symm))
        refine ⟨by omega, by omega, by omega, by omega, hSq, ?_, ?_⟩
        · unfold RT; omega
        · unfold RC; omega
      · have z2 := z
        simp only [beq_eq_false_iff_ne, ne_eq, decide_eq_false_iff_not] at z2
        refine Sub.of_eq (congrArg aB (z.trans (decide_eq_false ?_).symm))
        intro h
        obtain ⟨g1, g2, g3, g4, g5, g6, g7⟩ := h
        unfold RT at g6
        unfold RC at g7
        omega
    refine seq_bool (s' := (zRg41 b1 x)) 140 (b := x.phase == 2) (v := false) q45 (by kernel_rfl) (by kernel_rfl) ?_
    refine seq_run (r := []) [25, 26, 27, 28, 29, 30, 31, 32] (s' := (zRg19 b1 x)) (ps := []) (by kernel_rfl) trivial ?_
    refine hK45 _ ?_
    try clear hK45 K45
    refine awp_less ⟨[(2, aB false)], []⟩ ⟨Sub.refl _, trivial⟩ trivial ?_
    refine awp_ret ?_
    refine fin_ret ⟨[], [aB false], by kernel_rfl, trivial, ?_⟩
    show Copyhold.Sub (aB (false)) (aB _)
    refine Sub.of_eq (congrArg aB (decide_eq_false ?_).symm)
    intro h
    obtain ⟨g1, g2, g3, g4, g5, g6, g7⟩ := h
    unfold RT at g6
    unfold RC at g7
    omega
  refine seq_bool (s' := ⟨[(1, .ptr 1 b1 0), (2, aB false), (51, .ptr 1 b1 6), (52, aI x.stamp), (53, aB (x.stamp != 0)), (54, aB false)], [(1, .box b1 26 (zRg1 x))]⟩) 54 (b := x.stamp != 0) (v := false) q9 (by kernel_rfl) (by kernel_rfl) ?_
  refine seq_run (r := []) [4, 5, 6, 7, 8, 9, 10, 11, 12] (s' := ⟨[(1, .ptr 1 b1 0), (2, aB false), (51, .ptr 1 b1 6), (52, aI x.stamp), (53, aB (x.stamp != 0)), (54, aB false), (55, .val undef), (56, .val undef), (57, .val undef), (58, aB false), (59, aB false), (60, .val undef), (61, .val undef), (62, .val undef), (63, aB false)], [(1, .box b1 26 (zRg1 x))]⟩) (ps := []) (by kernel_rfl) trivial ?_
  refine hK18 _ ?_
  try clear hK18 K18
  refine awp_less ⟨[(1, .ptr 1 b1 0), (2, aB false), (63, aB false)], [(1, .box b1 26 (zRg1 x))]⟩ ⟨Sub.refl _, Sub.refl _, Sub.refl _, trivial⟩ ⟨⟨_, rfl, SubB.refl _⟩, trivial⟩ ?_
  refine awp_if false (by omega) (by kernel_rfl) rfl ?_
  refine awp_skip ?_
  refine hK17 _ ?_
  try clear hK17 K17
  refine awp_less (zRg2 b1 x) ⟨Sub.refl _, Sub.refl _, trivial⟩ ⟨⟨_, rfl, SubB.refl _⟩, trivial⟩ ?_
  refine awp_seq_k (fun K46 hK46 => ?_)
  refine awp_seq_k (fun K47 hK47 => ?_)
  refine awp_region [0, 1, 2] (by rw [hc]; kernel_rfl) (by kernel_rfl) ?_
  refine seq_run (r := []) [0, 1, 2] (s' := (zRg99 b1 x)) (ps := [b1 = b1]) (by kernel_rfl) ⟨rfl, trivial⟩ ?_
  refine hK47 _ ?_
  try clear hK47 K47
  refine awp_less (zRg106 b1 x) ⟨Sub.refl _, Sub.refl _, Sub.refl _, trivial⟩ ⟨⟨_, rfl, SubB.refl _⟩, trivial⟩ ?_
  rcases beqC (x.phase) (3) with ⟨q46, p46⟩ | ⟨q46, p46⟩
  ·
    refine awp_if true (by omega) (by kernel_rfl) q46 ?_
    refine awp_seq_k (fun K48 hK48 => ?_)
    refine awp_region zRg107 (by rw [hc]; kernel_rfl) (by kernel_rfl) ?_
    refine seq_run (r := zRg91) [0, 1, 2, 3] (s' := (zRg86 b1 x)) (ps := [b1 = b1]) (by kernel_rfl) ⟨rfl, trivial⟩ ?_
    rcases beqC (x.n) (0) with ⟨q47, p47⟩ | ⟨q47, p47⟩
    ·
      refine seq_bool (s' := (zRg92 b1 x)) 70 (b := x.n == 0) (v := true) q47 (by kernel_rfl) (by kernel_rfl) ?_
      refine seq_run (r := [7, 8, 9, 10, 11, 12, 13, 14, 15, 16, 17, 18, 19, 20]) [4, 5, 6] (s' := (zRg70 b1 x)) (ps := [b1 = b1]) (by kernel_rfl) ⟨rfl, trivial⟩ ?_
      refine seq_val (s' := (zRg74 b1 x)) 73 (x := aI ((x.told.map donA).length : Int)) (y := aI (x.told.length : Int)) (by rw [List.length_map]) (by kernel_rfl) (by kernel_rfl) ?_
      refine seq_run (r := zRg105) [7, 8, 9, 10, 11] (s' := (zRg50 b1 x)) (ps := [b1 = b1]) (by kernel_rfl) ⟨rfl, trivial⟩ ?_
      rcases beqC ((x.told.length : Int)) (x.seq) with ⟨q48, p48⟩ | ⟨q48, p48⟩
      ·
        refine seq_bool (s' := (zRg52 b1 x)) 78 (b := (x.told.length : Int) == x.seq) (v := true) q48 (by kernel_rfl) (by kernel_rfl) ?_
        refine seq_run (r := [15, 16, 17, 18, 19, 20]) [12, 13, 14] (s' := (zRg45 b1 x)) (ps := [b1 = b1]) (by kernel_rfl) ⟨rfl, trivial⟩ ?_
        refine seq_val (s' := (zRg46 b1 x)) 81 (x := aI ((x.told.map donA).length : Int)) (y := aI (x.told.length : Int)) (by rw [List.length_map]) (by kernel_rfl) (by kernel_rfl) ?_
        refine seq_run (r := [18, 19, 20]) [15, 16, 17] (s' := (zRg35 b1 x)) (ps := [b1 = b1]) (by kernel_rfl) ⟨rfl, trivial⟩ ?_
        refine seq_val (s' := (zRg37 b1 x)) 84 (x := aI ((x.jobs.map jobA).length : Int)) (y := aI (x.jobs.length : Int)) (by rw [List.length_map]) (by kernel_rfl) (by kernel_rfl) ?_
        refine seq_run (r := []) [18, 19, 20] (s' := (zRg13 b1 x)) (ps := []) (by kernel_rfl) trivial ?_
        refine hK48 _ ?_
        try clear hK48 K48
        refine awp_less (zRg103 b1 x) ⟨Sub.refl _, Sub.refl _, trivial⟩ ⟨⟨_, rfl, SubB.refl _⟩, trivial⟩ ?_
        refine awp_ret ?_
        refine fin_ret ⟨[], [aB (decide ((x.told.length : Int) ≤ (x.jobs.length : Int)))], by kernel_rfl, trivial, ?_⟩
        show Copyhold.Sub (aB (decide ((x.told.length : Int) ≤ (x.jobs.length : Int)))) (aB _)
        have hSq : Seqs x.told := seqs_all hH1.2 (by omega)
        rcases Bool.eq_false_or_eq_true (decide ((x.told.length : Int) ≤ (x.jobs.length : Int))) with z | z
        · have z2 := z
          simp only [beq_iff_eq, decide_eq_true_eq] at z2
          refine Sub.of_eq (congrArg aB (z.trans (decide_eq_true ?_).symm))
          refine ⟨by omega, by omega, by omega, by omega, hSq, ?_, ?_⟩
          · unfold RT; omega
          · unfold RC; omega
        · have z2 := z
          simp only [beq_eq_false_iff_ne, ne_eq, decide_eq_false_iff_not] at z2
          refine Sub.of_eq (congrArg aB (z.trans (decide_eq_false ?_).symm))
          intro h
          obtain ⟨g1, g2, g3, g4, g5, g6, g7⟩ := h
          unfold RT at g6
          unfold RC at g7
          omega
      refine seq_bool (s' := (zRg51 b1 x)) 78 (b := (x.told.length : Int) == x.seq) (v := false) q48 (by kernel_rfl) (by kernel_rfl) ?_
      refine seq_run (r := []) zRg105 (s' := (zRg43 b1 x)) (ps := []) (by kernel_rfl) trivial ?_
      refine hK48 _ ?_
      try clear hK48 K48
      refine awp_less (zRg2 b1 x) ⟨Sub.refl _, Sub.refl _, trivial⟩ ⟨⟨_, rfl, SubB.refl _⟩, trivial⟩ ?_
      refine awp_ret ?_
      refine fin_ret ⟨[], [aB false], by kernel_rfl, trivial, ?_⟩
      show Copyhold.Sub (aB (false)) (aB _)
      refine Sub.of_eq (congrArg aB (decide_eq_false ?_).symm)
      intro h
      obtain ⟨g1, g2, g3, g4, g5, g6, g7⟩ := h
      unfold RT at g6
      unfold RC at g7
      omega
    refine seq_bool (s' := (zRg89 b1 x)) 70 (b := x.n == 0) (v := false) q47 (by kernel_rfl) (by kernel_rfl) ?_
    refine seq_run (r := []) zRg91 (s' := (zRg47 b1 x)) (ps := []) (by kernel_rfl) trivial ?_
    refine hK48 _ ?_
    try clear hK48 K48
    refine awp_less (zRg2 b1 x) ⟨Sub.refl _, Sub.refl _, trivial⟩ ⟨⟨_, rfl, SubB.refl _⟩, trivial⟩ ?_
    refine awp_ret ?_
    refine fin_ret ⟨[], [aB false], by kernel_rfl, trivial, ?_⟩
    show Copyhold.Sub (aB (false)) (aB _)
    refine Sub.of_eq (congrArg aB (decide_eq_false ?_).symm)
    intro h
    obtain ⟨g1, g2, g3, g4, g5, g6, g7⟩ := h
    unfold RT at g6
    unfold RC at g7
    omega
  refine awp_if false (by omega) (by kernel_rfl) q46 ?_
  refine awp_skip ?_
  refine hK46 _ ?_
  try clear hK46 K46
  refine awp_less (zRg2 b1 x) ⟨Sub.refl _, Sub.refl _, trivial⟩ ⟨⟨_, rfl, SubB.refl _⟩, trivial⟩ ?_
  refine awp_seq_k (fun K49 hK49 => ?_)
  refine awp_seq_k (fun K50 hK50 => ?_)
  refine awp_region [0, 1, 2, 3, 4, 5, 6] (by rw [hc]; kernel_rfl) (by kernel_rfl) ?_
  refine seq_run (r := [3, 4, 5, 6]) [0, 1, 2] (s' := (zRg87 b1 x)) (ps := [b1 = b1]) (by kernel_rfl) ⟨rfl, trivial⟩ ?_
  refine seq_val (s' := (zRg95 b1 x)) 89 (x := aI ((x.told.map donA).length : Int)) (y := aI (x.told.length : Int)) (by rw [List.length_map]) (by kernel_rfl) (by kernel_rfl) ?_
  refine seq_run (r := []) [3, 4, 5, 6] (s' := (zRg69 b1 x)) (ps := [b1 = b1, rng .i64 (x.seq - 1)]) (by kernel_rfl) ⟨rfl, rng64 (by omega) (by omega), trivial⟩ ?_
  refine hK50 _ ?_
  try clear hK50 K50
  refine awp_less (zRg67 b1 x) ⟨Sub.refl _, Sub.refl _, Sub.refl _, trivial⟩ ⟨⟨_, rfl, SubB.refl _⟩, trivial⟩ ?_
  rcases bneC ((x.told.length : Int)) ((x.seq - 1)) with ⟨q49, p49⟩ | ⟨q49, p49⟩
  ·
    refine awp_if true (by omega) (by kernel_rfl) q49 ?_
    refine awp_seq_k (fun K51 hK51 => ?_)
    refine awp_region [0] (by rw [hc]; kernel_rfl) (by kernel_rfl) ?_
    refine seq_run (r := []) [0] (s' := (zRg67 b1 x)) (ps := []) (by kernel_rfl) trivial ?_
    refine hK51 _ ?_
    try clear hK51 K51
    refine awp_less (zRg2 b1 x) ⟨Sub.refl _, Sub.refl _, trivial⟩ ⟨⟨_, rfl, SubB.refl _⟩, trivial⟩ ?_
    refine awp_ret ?_
    refine fin_ret ⟨[], [aB false], by kernel_rfl, trivial, ?_⟩
    show Copyhold.Sub (aB (false)) (aB _)
    refine Sub.of_eq (congrArg aB (decide_eq_false ?_).symm)
    intro h
    obtain ⟨g1, g2, g3, g4, g5, g6, g7⟩ := h
    unfold RT at g6
    unfold RC at g7
    omega
  refine awp_if false (by omega) (by kernel_rfl) q49 ?_
  refine awp_skip ?_
  refine hK49 _ ?_
  try clear hK49 K49
  refine awp_less (zRg2 b1 x) ⟨Sub.refl _, Sub.refl _, trivial⟩ ⟨⟨_, rfl, SubB.refl _⟩, trivial⟩ ?_
  refine awp_seq_k (fun K52 hK52 => ?_)
  refine awp_seq_k (fun K53 hK53 => ?_)
  refine awp_region [0, 1, 2] (by rw [hc]; kernel_rfl) (by kernel_rfl) ?_
  refine seq_run (r := []) [0, 1, 2] (s' := (zRg100 b1 x)) (ps := [b1 = b1]) (by kernel_rfl) ⟨rfl, trivial⟩ ?_
  refine hK53 _ ?_
  try clear hK53 K53
  refine awp_less (zRg108 b1 x) ⟨Sub.refl _, Sub.refl _, Sub.refl _, trivial⟩ ⟨⟨_, rfl, SubB.refl _⟩, trivial⟩ ?_
  rcases beqC (x.phase) (4) with ⟨q50, p50⟩ | ⟨q50, p50⟩
  ·
    refine awp_if true (by omega) (by kernel_rfl) q50 ?_
    refine awp_seq_k (fun K54 hK54 => ?_)
    refine awp_region [0, 1, 2, 3, 4, 5, 6, 7, 8, 9, 10, 11, 12] (by rw [hc]; kernel_rfl) (by kernel_rfl) ?_
    refine seq_run (r := [4, 5, 6, 7, 8, 9, 10, 11, 12]) [0, 1, 2, 3] (s' := (zRg85 b1 x)) (ps := [b1 = b1]) (by kernel_rfl) ⟨rfl, trivial⟩ ?_
    rcases beqC (x.n) (0) with ⟨q51, p51⟩ | ⟨q51, p51⟩
    ·
      refine seq_bool (s' := (zRg90 b1 x)) 100 (b := x.n == 0) (v := true) q51 (by kernel_rfl) (by kernel_rfl) ?_
      refine seq_run (r := [7, 8, 9, 10, 11, 12]) [4, 5, 6] (s' := (zRg68 b1 x)) (ps := [b1 = b1]) (by kernel_rfl) ⟨rfl, trivial⟩ ?_
      refine seq_val (s' := (zRg73 b1 x)) 103 (x := aI ((x.told.map donA).length : Int)) (y := aI (x.told.length : Int)) (by rw [List.length_map]) (by kernel_rfl) (by kernel_rfl) ?_
      refine seq_run (r := [10, 11, 12]) [7, 8, 9] (s' := (zRg55 b1 x)) (ps := [b1 = b1]) (by kernel_rfl) ⟨rfl, trivial⟩ ?_
      refine seq_val (s' := (zRg56 b1 x)) 106 (x := aI ((x.jobs.map jobA).length : Int)) (y := aI (x.jobs.length : Int)) (by rw [List.length_map]) (by kernel_rfl) (by kernel_rfl) ?_
      refine seq_run (r := []) [10, 11, 12] (s' := (zRg44 b1 x)) (ps := []) (by kernel_rfl) trivial ?_
      refine hK54 _ ?_
      try clear hK54 K54
      refine awp_less (zRg104 b1 x) ⟨Sub.refl _, Sub.refl _, trivial⟩ ⟨⟨_, rfl, SubB.refl _⟩, trivial⟩ ?_
      refine awp_ret ?_
      refine fin_ret ⟨[], [aB ((x.told.length : Int) == (x.jobs.length : Int))], by kernel_rfl, trivial, ?_⟩
      show Copyhold.Sub (aB ((x.told.length : Int) == (x.jobs.length : Int))) (aB _)
      have hSq : Seqs x.told := seqs_all hH1.2 (by omega)
      rcases Bool.eq_false_or_eq_true ((x.told.length : Int) == (x.jobs.length : Int)) with z | z
      · have z2 := z
        simp only [beq_iff_eq, decide_eq_true_eq] at z2
        refine Sub.of_eq (congrArg aB (z.trans (decide_eq_true ?_).symm))
        refine ⟨by omega, by omega, by omega, by omega, hSq, ?_, ?_⟩
        · unfold RT; omega
        · unfold RC; omega
      · have z2 := z
        simp only [beq_eq_false_iff_ne, ne_eq, decide_eq_false_iff_not] at z2
        refine Sub.of_eq (congrArg aB (z.trans (decide_eq_false ?_).symm))
        intro h
        obtain ⟨g1, g2, g3, g4, g5, g6, g7⟩ := h
        unfold RT at g6
        unfold RC at g7
        omega
    refine seq_bool (s' := (zRg88 b1 x)) 100 (b := x.n == 0) (v := false) q51 (by kernel_rfl) (by kernel_rfl) ?_
    refine seq_run (r := []) [4, 5, 6, 7, 8, 9, 10, 11, 12] (s' := (zRg66 b1 x)) (ps := []) (by kernel_rfl) trivial ?_
    refine hK54 _ ?_
    try clear hK54 K54
    refine awp_less (zRg2 b1 x) ⟨Sub.refl _, Sub.refl _, trivial⟩ ⟨⟨_, rfl, SubB.refl _⟩, trivial⟩ ?_
    refine awp_ret ?_
    refine fin_ret ⟨[], [aB false], by kernel_rfl, trivial, ?_⟩
    show Copyhold.Sub (aB (false)) (aB _)
    refine Sub.of_eq (congrArg aB (decide_eq_false ?_).symm)
    intro h
    obtain ⟨g1, g2, g3, g4, g5, g6, g7⟩ := h
    unfold RT at g6
    unfold RC at g7
    omega
  refine awp_if false (by omega) (by kernel_rfl) q50 ?_
  refine awp_skip ?_
  refine hK52 _ ?_
  try clear hK52 K52
  refine awp_less (zRg2 b1 x) ⟨Sub.refl _, Sub.refl _, trivial⟩ ⟨⟨_, rfl, SubB.refl _⟩, trivial⟩ ?_
  refine awp_seq_k (fun K55 hK55 => ?_)
  refine awp_seq_k (fun K56 hK56 => ?_)
  refine awp_region [0, 1, 2, 3, 4, 5, 6] (by rw [hc]; kernel_rfl) (by kernel_rfl) ?_
  refine seq_run (r := [3, 4, 5, 6]) [0, 1, 2] (s' := (zRg84 b1 x)) (ps := [b1 = b1]) (by kernel_rfl) ⟨rfl, trivial⟩ ?_
  refine seq_val (s' := (zRg93 b1 x)) 111 (x := aI ((x.told.map donA).length : Int)) (y := aI (x.told.length : Int)) (by rw [List.length_map]) (by kernel_rfl) (by kernel_rfl) ?_
  refine seq_run (r := [6]) [3, 4, 5] (s' := (zRg71 b1 x)) (ps := [b1 = b1]) (by kernel_rfl) ⟨rfl, trivial⟩ ?_
  refine seq_val (s' := (zRg75 b1 x)) 114 (x := aI ((x.jobs.map jobA).length : Int)) (y := aI (x.jobs.length : Int)) (by rw [List.length_map]) (by kernel_rfl) (by kernel_rfl) ?_
  refine seq_run (r := []) [6] (s' := (zRg65 b1 x)) (ps := []) (by kernel_rfl) trivial ?_
  refine hK56 _ ?_
  try clear hK56 K56
  refine awp_less (zRg62 b1 x) ⟨Sub.refl _, Sub.refl _, Sub.refl _, trivial⟩ ⟨⟨_, rfl, SubB.refl _⟩, trivial⟩ ?_
  rcases decC ((x.told.length : Int) ≥ (x.jobs.length : Int)) with ⟨q52, p52⟩ | ⟨q52, p52⟩
  ·
    refine awp_if true (by omega) (by kernel_rfl) q52 ?_
    refine awp_seq_k (fun K57 hK57 => ?_)
    refine awp_region [0] (by rw [hc]; kernel_rfl) (by kernel_rfl) ?_
    refine seq_run (r := []) [0] (s' := (zRg62 b1 x)) (ps := []) (by kernel_rfl) trivial ?_
    refine hK57 _ ?_
    try clear hK57 K57
    refine awp_less (zRg2 b1 x) ⟨Sub.refl _, Sub.refl _, trivial⟩ ⟨⟨_, rfl, SubB.refl _⟩, trivial⟩ ?_
    refine awp_ret ?_
    refine fin_ret ⟨[], [aB false], by kernel_rfl, trivial, ?_⟩
    show Copyhold.Sub (aB (false)) (aB _)
    refine Sub.of_eq (congrArg aB (decide_eq_false ?_).symm)
    intro h
    obtain ⟨g1, g2, g3, g4, g5, g6, g7⟩ := h
    unfold RT at g6
    unfold RC at g7
    omega
  refine awp_if false (by omega) (by kernel_rfl) q52 ?_
  refine awp_skip ?_
  refine hK55 _ ?_
  try clear hK55 K55
  refine awp_less (zRg2 b1 x) ⟨Sub.refl _, Sub.refl _, trivial⟩ ⟨⟨_, rfl, SubB.refl _⟩, trivial⟩ ?_
  refine awp_seq_k (fun K58 hK58 => ?_)
  refine awp_region_draw zRg98 (by kernel_rfl) (by rw [hc]; kernel_rfl) (by kernel_rfl) ?_
  refine seq_run (r := zRg101) [0, 1, 2, 3] (s' := (zRg94 b1 x)) (ps := [b1 = b1]) (by kernel_rfl) ⟨rfl, trivial⟩ ?_
  rcases beqC (x.phase) (0) with ⟨q53, p53⟩ | ⟨q53, p53⟩
  ·
    refine seq_bool (s' := (zRg97 b1 x)) 119 (b := x.phase == 0) (v := true) q53 (by kernel_rfl) (by kernel_rfl) ?_
    refine seq_run (r := zRg79) [4, 5, 6, 7, 8] (s' := (zRg76 b1 x)) (ps := [b1 = b1]) (by kernel_rfl) ⟨rfl, trivial⟩ ?_
    rcases beqC (x.n) (0) with ⟨q54, p54⟩ | ⟨q54, p54⟩
    ·
      refine seq_bool (s' := (zRg80 b1 x)) 124 (b := x.n == 0) (v := true) q54 (by kernel_rfl) (by kernel_rfl) ?_
      refine seq_run (r := []) zRg79 (s' := (zRg24 b1 x)) (ps := []) (by kernel_rfl) trivial ?_
      refine hK58 _ ?_
      try clear hK58 K58
      refine awp_less ⟨[(2, aB true)], []⟩ ⟨Sub.refl _, trivial⟩ trivial ?_
      refine awp_ret ?_
      refine fin_ret ⟨[], [aB true], by kernel_rfl, trivial, ?_⟩
      show Copyhold.Sub (aB (true)) (aB _)
      have hSq : Seqs x.told := seqs_all hH1.2 (by omega)
      refine Sub.of_eq (congrArg aB (decide_eq_true ?_).symm)
      refine ⟨by omega, by omega, by omega, by omega, hSq, ?_, ?_⟩
      · unfold RT; omega
      · unfold RC; omega
    refine seq_bool (s' := (zRg78 b1 x)) 124 (b := x.n == 0) (v := false) q54 (by kernel_rfl) (by kernel_rfl) ?_
    refine seq_run (r := zRg81) [9, 10, 11, 12] (s' := (zRg57 b1 x)) (ps := [b1 = b1]) (by kernel_rfl) ⟨rfl, trivial⟩ ?_
    rcases beqC (x.phase) (1) with ⟨q55, p55⟩ | ⟨q55, p55⟩
    ·
      refine seq_bool (s' := (zRg61 b1 x)) 128 (b := x.phase == 1) (v := true) q55 (by kernel_rfl) (by kernel_rfl) ?_
      refine seq_run (r := zRg82) [13, 14, 15] (s' := (zRg53 b1 x)) (ps := [b1 = b1, b1 = b1]) (by kernel_rfl) ⟨rfl, rfl, trivial⟩ ?_
      refine seq_call (f := 46) (args := [.agg (zRg1 x)]) (d := some 132) (args' := [.agg (zRg1 x)]) (s' := (zRg48 b1 x)) (by kernel_rfl) (fun _ _ => rfl) ⟨Sub.refl _, trivial⟩ (long_spec x hs) (by kernel_rfl) ?_
      refine seq_run (r := zRg77) [17, 18, 19, 20] (s' := (zRg27 b1 x)) (ps := []) (by kernel_rfl) trivial ?_
      rcases decC (x.n < ((jobOf x).length : Int)) with ⟨q56, p56⟩ | ⟨q56, p56⟩
      ·
        refine seq_bool (s' := (zRg32 b1 x)) 136 (b := decide (x.n < ((jobOf x).length : Int))) (v := true) q56 (by kernel_rfl) (by kernel_rfl) ?_
        refine seq_run (r := []) zRg77 (s' := (zRg9 b1 x)) (ps := []) (by kernel_rfl) trivial ?_
        refine hK58 _ ?_
        try clear hK58 K58
        refine awp_less ⟨[(2, aB true)], []⟩ ⟨Sub.refl _, trivial⟩ trivial ?_
        refine awp_ret ?_
        refine fin_ret ⟨[], [aB true], by kernel_rfl, trivial, ?_⟩
        show Copyhold.Sub (aB (true)) (aB _)
        have hSq : Seqs x.told := seqs_all hH1.2 (by omega)
        refine Sub.of_eq (congrArg aB (decide_eq_true ?_).symm)
        refine ⟨by omega, by omega, by omega, by omega, hSq, ?_, ?_⟩
        · unfold RT; omega
        · unfold RC; omega
      refine seq_bool (s' := (zRg31 b1 x)) 136 (b := decide (x.n < ((jobOf x).length : Int))) (v := false) q56 (by kernel_rfl) (by kernel_rfl) ?_
      refine seq_run (r := [25, 26, 27, 28, 29, 30, 31, 32]) [21, 22, 23, 24] (s' := (zRg16 b1 x)) (ps := [b1 = b1]) (by kernel_rfl) ⟨rfl, trivial⟩ ?_
      rcases beqC (x.phase) (2) with ⟨q57, p57⟩ | ⟨q57, p57⟩
      ·
        refine seq_bool (s' := (zRg21 b1 x)) 140 (b := x.phase == 2) (v := true) q57 (by kernel_rfl) (by kernel_rfl) ?_
        refine seq_run (r := [28, 29, 30, 31, 32]) [25, 26, 27] (s' := (zRg14 b1 x)) (ps := [b1 = b1, b1 = b1]) (by kernel_rfl) ⟨rfl, rfl, trivial⟩ ?_
        refine seq_call (f := 46) (args := [.agg (zRg1 x)]) (d := some 144) (args' := [.agg (zRg1 x)]) (s' := (zRg11 b1 x)) (by kernel_rfl) (fun _ _ => rfl) ⟨Sub.refl _, trivial⟩ (long_spec x hs) (by kernel_rfl) ?_
        refine seq_run (r := []) [29, 30, 31, 32] (s' := (zRg3 b1 x)) (ps := []) (by kernel_rfl) trivial ?_
        refine hK58 _ ?_
        try clear hK58 K58
        refine awp_less (zRg72 x) ⟨Sub.refl _, trivial⟩ trivial ?_
        refine awp_ret ?_
        refine fin_ret ⟨[], (zRg83 x), by kernel_rfl, trivial, ?_⟩
        show Copyhold.Sub (aB (x.n == ((jobOf x).length : Int))) (aB _)
        have hSq : Seqs x.told := seqs_all hH1.2 (by omega)
        rcases Bool.eq_false_or_eq_true (x.n == ((jobOf x).length : Int)) with z | z
        · have z2 := z
          simp only [beq_iff_eq, decide_eq_true_eq] at z2
          refine Sub.of_eq (congrArg aB (z.trans (decide_eq_true ?_).symm))
          refine ⟨by omega, by omega, by omega, by omega, hSq, ?_, ?_⟩
          · unfold RT; omega
          · unfold RC; omega
        · have z2 := z
          simp only [beq_eq_false_iff_ne, ne_eq, decide_eq_false_iff_not] at z2
          refine Sub.of_eq (congrArg aB (z.trans (decide_eq_false ?_).symm))
          intro h
          obtain ⟨g1, g2, g3, g4, g5, g6, g7⟩ := h
          unfold RT at g6
          unfold RC at g7
          omega
      refine seq_bool (s' := (zRg20 b1 x)) 140 (b := x.phase == 2) (v := false) q57 (by kernel_rfl) (by kernel_rfl) ?_
      refine seq_run (r := []) [25, 26, 27, 28, 29, 30, 31, 32] (s' := (zRg6 b1 x)) (ps := []) (by kernel_rfl) trivial ?_
      refine hK58 _ ?_
      try clear hK58 K58
      refine awp_less ⟨[(2, aB false)], []⟩ ⟨Sub.refl _, trivial⟩ trivial ?_
      refine awp_ret ?_
      refine fin_ret ⟨[], [aB false], by kernel_rfl, trivial, ?_⟩
      show Copyhold.Sub (aB (false)) (aB _)
      refine Sub.of_eq (congrArg aB (decide_eq_false ?_).symm)
      intro h
      obtain ⟨g1, g2, g3, g4, g5, g6, g7⟩ := h
      unfold RT at g6
      unfold RC at g7
      omega
    refine seq_bool (s' := (zRg60 b1 x)) 128 (b := x.phase == 1) (v := false) q55 (by kernel_rfl) (by kernel_rfl) ?_
    refine seq_run (r := [25, 26, 27, 28, 29, 30, 31, 32]) zRg102 (s' := (zRg36 b1 x)) (ps := [b1 = b1]) (by kernel_rfl) ⟨rfl, trivial⟩ ?_
    rcases beqC (x.phase) (2) with ⟨q58, p58⟩ | ⟨q58, p58⟩
    ·
      refine seq_bool (s' := (zRg40 b1 x)) 140 (b := x.phase == 2) (v := true) q58 (by kernel_rfl) (by kernel_rfl) ?_
      refine seq_run (r := [28, 29, 30, 31, 32]) [25, 26, 27] (s' := (zRg29 b1 x)) (ps := [b1 = b1, b1 = b1]) (by kernel_rfl) ⟨rfl, rfl, trivial⟩ ?_
      refine seq_call (f := 46) (args := [.agg (zRg1 x)]) (d := some 144) (args' := [.agg (zRg1 x)]) (s' := (zRg25 b1 x)) (by kernel_rfl) (fun _ _ => rfl) ⟨Sub.refl _, trivial⟩ (long_spec x hs) (by kernel_rfl) ?_
      refine seq_run (r := []) [29, 30, 31, 32] (s' := (zRg5 b1 x)) (ps := []) (by kernel_rfl) trivial ?_
      refine hK58 _ ?_
      try clear hK58 K58
      refine awp_less (zRg72 x) ⟨Sub.refl _, trivial⟩ trivial ?_
      refine awp_ret ?_
      refine fin_ret ⟨[], (zRg83 x), by kernel_rfl, trivial, ?_⟩
      show Copyhold.Sub (aB (x.n == ((jobOf x).length : Int))) (aB _)
      have hSq : Seqs x.told := seqs_all hH1.2 (by omega)
      rcases Bool.eq_false_or_eq_true (x.n == ((jobOf x).length : Int)) with z | z
      · have z2 := z
        simp only [beq_iff_eq, decide_eq_true_eq] at z2
        refine Sub.of_eq (congrArg aB (z.trans (decide_eq_true ?_).symm))
        refine ⟨by omega, by omega, by omega, by omega, hSq, ?_, ?_⟩
        · unfold RT; omega
        · unfold RC; omega
      · have z2 := z
        simp only [beq_eq_false_iff_ne, ne_eq, decide_eq_false_iff_not] at z2
        refine Sub.of_eq (congrArg aB (z.trans (decide_eq_false ?_).symm))
        intro h
        obtain ⟨g1, g2, g3, g4, g5, g6, g7⟩ := h
        unfold RT at g6
        unfold RC at g7
        omega
    refine seq_bool (s' := (zRg39 b1 x)) 140 (b := x.phase == 2) (v := false) q58 (by kernel_rfl) (by kernel_rfl) ?_
    refine seq_run (r := []) [25, 26, 27, 28, 29, 30, 31, 32] (s' := (zRg17 b1 x)) (ps := []) (by kernel_rfl) trivial ?_
    refine hK58 _ ?_
    try clear hK58 K58
    refine awp_less ⟨[(2, aB false)], []⟩ ⟨Sub.refl _, trivial⟩ trivial ?_
    refine awp_ret ?_
    refine fin_ret ⟨[], [aB false], by kernel_rfl, trivial, ?_⟩
    show Copyhold.Sub (aB (false)) (aB _)
    refine Sub.of_eq (congrArg aB (decide_eq_false ?_).symm)
    intro h
    obtain ⟨g1, g2, g3, g4, g5, g6, g7⟩ := h
    unfold RT at g6
    unfold RC at g7
    omega
  refine seq_bool (s' := (zRg96 b1 x)) 119 (b := x.phase == 0) (v := false) q53 (by kernel_rfl) (by kernel_rfl) ?_
  refine seq_run (r := zRg81) [4, 5, 6, 7, 8, 9, 10, 11, 12] (s' := (zRg58 b1 x)) (ps := [b1 = b1]) (by kernel_rfl) ⟨rfl, trivial⟩ ?_
  rcases beqC (x.phase) (1) with ⟨q59, p59⟩ | ⟨q59, p59⟩
  ·
    refine seq_bool (s' := (zRg64 b1 x)) 128 (b := x.phase == 1) (v := true) q59 (by kernel_rfl) (by kernel_rfl) ?_
    refine seq_run (r := zRg82) [13, 14, 15] (s' := (zRg54 b1 x)) (ps := [b1 = b1, b1 = b1]) (by kernel_rfl) ⟨rfl, rfl, trivial⟩ ?_
    refine seq_call (f := 46) (args := [.agg (zRg1 x)]) (d := some 132) (args' := [.agg (zRg1 x)]) (s' := (zRg49 b1 x)) (by kernel_rfl) (fun _ _ => rfl) ⟨Sub.refl _, trivial⟩ (long_spec x hs) (by kernel_rfl) ?_
    refine seq_run (r := zRg77) [17, 18, 19, 20] (s' := (zRg28 b1 x)) (ps := []) (by kernel_rfl) trivial ?_
    rcases decC (x.n < ((jobOf x).length : Int)) with ⟨q60, p60⟩ | ⟨q60, p60⟩
    ·
      refine seq_bool (s' := (zRg34 b1 x)) 136 (b := decide (x.n < ((jobOf x).length : Int))) (v := true) q60 (by kernel_rfl) (by kernel_rfl) ?_
      refine seq_run (r := []) zRg77 (s' := (zRg10 b1 x)) (ps := []) (by kernel_rfl) trivial ?_
      refine hK58 _ ?_
      try clear hK58 K58
      refine awp_less ⟨[(2, aB true)], []⟩ ⟨Sub.refl _, trivial⟩ trivial ?_
      refine awp_ret ?_
      refine fin_ret ⟨[], [aB true], by kernel_rfl, trivial, ?_⟩
      show Copyhold.Sub (aB (true)) (aB _)
      have hSq : Seqs x.told := seqs_all hH1.2 (by omega)
      refine Sub.of_eq (congrArg aB (decide_eq_true ?_).symm)
      refine ⟨by omega, by omega, by omega, by omega, hSq, ?_, ?_⟩
      · unfold RT; omega
      · unfold RC; omega
    refine seq_bool (s' := (zRg33 b1 x)) 136 (b := decide (x.n < ((jobOf x).length : Int))) (v := false) q60 (by kernel_rfl) (by kernel_rfl) ?_
    refine seq_run (r := [25, 26, 27, 28, 29, 30, 31, 32]) [21, 22, 23, 24] (s' := (zRg18 b1 x)) (ps := [b1 = b1]) (by kernel_rfl) ⟨rfl, trivial⟩ ?_
    rcases beqC (x.phase) (2) with ⟨q61, p61⟩ | ⟨q61, p61⟩
    ·
      refine seq_bool (s' := (zRg23 b1 x)) 140 (b := x.phase == 2) (v := true) q61 (by kernel_rfl) (by kernel_rfl) ?_
      refine seq_run (r := [28, 29, 30, 31, 32]) [25, 26, 27] (s' := (zRg15 b1 x)) (ps := [b1 = b1, b1 = b1]) (by kernel_rfl) ⟨rfl, rfl, trivial⟩ ?_
      refine seq_call (f := 46) (args := [.agg (zRg1 x)]) (d := some 144) (args' := [.agg (zRg1 x)]) (s' := (zRg12 b1 x)) (by kernel_rfl) (fun _ _ => rfl) ⟨Sub.refl _, trivial⟩ (long_spec x hs) (by kernel_rfl) ?_
      refine seq_run (r := []) [29, 30, 31, 32] (s' := (zRg4 b1 x)) (ps := []) (by kernel_rfl) trivial ?_
      refine hK58 _ ?_
      try clear hK58 K58
      refine awp_less (zRg72 x) ⟨Sub.refl _, trivial⟩ trivial ?_
      refine awp_ret ?_
      refine fin_ret ⟨[], (zRg83 x), by kernel_rfl, trivial, ?_⟩
      show Copyhold.Sub (aB (x.n == ((jobOf x).length : Int))) (aB _)
      have hSq : Seqs x.told := seqs_all hH1.2 (by omega)
      rcases Bool.eq_false_or_eq_true (x.n == ((jobOf x).length : Int)) with z | z
      · have z2 := z
        simp only [beq_iff_eq, decide_eq_true_eq] at z2
        refine Sub.of_eq (congrArg aB (z.trans (decide_eq_true ?_).symm))
        refine ⟨by omega, by omega, by omega, by omega, hSq, ?_, ?_⟩
        · unfold RT; omega
        · unfold RC; omega
      · have z2 := z
        simp only [beq_eq_false_iff_ne, ne_eq, decide_eq_false_iff_not] at z2
        refine Sub.of_eq (congrArg aB (z.trans (decide_eq_false ?_).symm))
        intro h
        obtain ⟨g1, g2, g3, g4, g5, g6, g7⟩ := h
        unfold RT at g6
        unfold RC at g7
        omega
    refine seq_bool (s' := (zRg22 b1 x)) 140 (b := x.phase == 2) (v := false) q61 (by kernel_rfl) (by kernel_rfl) ?_
    refine seq_run (r := []) [25, 26, 27, 28, 29, 30, 31, 32] (s' := (zRg8 b1 x)) (ps := []) (by kernel_rfl) trivial ?_
    refine hK58 _ ?_
    try clear hK58 K58
    refine awp_less ⟨[(2, aB false)], []⟩ ⟨Sub.refl _, trivial⟩ trivial ?_
    refine awp_ret ?_
    refine fin_ret ⟨[], [aB false], by kernel_rfl, trivial, ?_⟩
    show Copyhold.Sub (aB (false)) (aB _)
    refine Sub.of_eq (congrArg aB (decide_eq_false ?_).symm)
    intro h
    obtain ⟨g1, g2, g3, g4, g5, g6, g7⟩ := h
    unfold RT at g6
    unfold RC at g7
    omega
  refine seq_bool (s' := (zRg63 b1 x)) 128 (b := x.phase == 1) (v := false) q59 (by kernel_rfl) (by kernel_rfl) ?_
  refine seq_run (r := [25, 26, 27, 28, 29, 30, 31, 32]) zRg102 (s' := (zRg38 b1 x)) (ps := [b1 = b1]) (by kernel_rfl) ⟨rfl, trivial⟩ ?_
  rcases beqC (x.phase) (2) with ⟨q62, p62⟩ | ⟨q62, p62⟩
  ·
    refine seq_bool (s' := (zRg42 b1 x)) 140 (b := x.phase == 2) (v := true) q62 (by kernel_rfl) (by kernel_rfl) ?_
    refine seq_run (r := [28, 29, 30, 31, 32]) [25, 26, 27] (s' := (zRg30 b1 x)) (ps := [b1 = b1, b1 = b1]) (by kernel_rfl) ⟨rfl, rfl, trivial⟩ ?_
    refine seq_call (f := 46) (args := [.agg (zRg1 x)]) (d := some 144) (args' := [.agg (zRg1 x)]) (s' := (zRg26 b1 x)) (by kernel_rfl) (fun _ _ => rfl) ⟨Sub.refl _, trivial⟩ (long_spec x hs) (by kernel_rfl) ?_
    refine seq_run (r := []) [29, 30, 31, 32] (s' := (zRg7 b1 x)) (ps := []) (by kernel_rfl) trivial ?_
    refine hK58 _ ?_
    try clear hK58 K58
    refine awp_less (zRg72 x) ⟨Sub.refl _, trivial⟩ trivial ?_
    refine awp_ret ?_
    refine fin_ret ⟨[], (zRg83 x), by kernel_rfl, trivial, ?_⟩
    show Copyhold.Sub (aB (x.n == ((jobOf x).length : Int))) (aB _)
    have hSq : Seqs x.told := seqs_all hH1.2 (by omega)
    rcases Bool.eq_false_or_eq_true (x.n == ((jobOf x).length : Int)) with z | z
    · have z2 := z
      simp only [beq_iff_eq, decide_eq_true_eq] at z2
      refine Sub.of_eq (congrArg aB (z.trans (decide_eq_true ?_).symm))
      refine ⟨by omega, by omega, by omega, by omega, hSq, ?_, ?_⟩
      · unfold RT; omega
      · unfold RC; omega
    · have z2 := z
      simp only [beq_eq_false_iff_ne, ne_eq, decide_eq_false_iff_not] at z2
      refine Sub.of_eq (congrArg aB (z.trans (decide_eq_false ?_).symm))
      intro h
      obtain ⟨g1, g2, g3, g4, g5, g6, g7⟩ := h
      unfold RT at g6
      unfold RC at g7
      omega
  refine seq_bool (s' := (zRg41 b1 x)) 140 (b := x.phase == 2) (v := false) q62 (by kernel_rfl) (by kernel_rfl) ?_
  refine seq_run (r := []) [25, 26, 27, 28, 29, 30, 31, 32] (s' := (zRg19 b1 x)) (ps := []) (by kernel_rfl) trivial ?_
  refine hK58 _ ?_
  try clear hK58 K58
  refine awp_less ⟨[(2, aB false)], []⟩ ⟨Sub.refl _, trivial⟩ trivial ?_
  refine awp_ret ?_
  refine fin_ret ⟨[], [aB false], by kernel_rfl, trivial, ?_⟩
  show Copyhold.Sub (aB (false)) (aB _)
  refine Sub.of_eq (congrArg aB (decide_eq_false ?_).symm)
  intro h
  obtain ⟨g1, g2, g3, g4, g5, g6, g7⟩ := h
  unfold RT at g6
  unfold RC at g7
  omega
set_option maxRecDepth 100000 in
set_option maxHeartbeats 4000000 in
theorem good_spec (x : Cli) (ok : OkX x) : FSpec Try.prog 11 [.agg [aI x.me, aI x.epoch, aI x.seq, .sl 1 false (x.jobs.map jobA), aI x.phase, aI x.n, aI x.stamp, .sl 4 false (x.told.map donA), .sl 6 false (x.now.map repA)]] (aB (goodB x)) := by
  refine spec_enter ⟨[(0, .agg (zRg1 x))], []⟩ Try.func11 rfl (by kernel_rfl) (by kernel_rfl) rfl (fun t => match t with | 0 => rfl | _ + 1 => rfl) (fun c hc => ?_)
  replace hc : c.n = 9 := hc
  refine awp_seq_k (fun K1 hK1 => ?_)
  refine awp_region [0, 1] (by rw [hc]; kernel_rfl) (by kernel_rfl) ?_
  refine seq_new (f := fun b1 => ⟨[(0, .agg (zRg1 x)), (1, .ptr 1 b1 0)], [(1, .box b1 26 (zRg1 x))]⟩) (by kernel_rfl) (fun b1 => ?_)
  refine seq_run (r := []) [1] (s' := ⟨[(0, .agg (zRg1 x)), (1, .ptr 1 b1 0), (2, aB false)], [(1, .box b1 26 (zRg1 x))]⟩) (ps := []) (by kernel_rfl) trivial ?_
  refine hK1 _ ?_
  try clear hK1 K1
  refine awp_less (zRg2 b1 x) ⟨Sub.refl _, Sub.refl _, trivial⟩ ⟨⟨_, rfl, SubB.refl _⟩, trivial⟩ ?_
  refine awp_seq_k (fun K2 hK2 => ?_)
  refine awp_region [0, 1, 2, 3, 4, 5, 6] (by rw [hc]; kernel_rfl) (by kernel_rfl) ?_
  refine seq_run (r := [1, 2, 3, 4, 5, 6]) [0] (s' := ⟨[(1, .ptr 1 b1 0), (2, aB false), (3, .agg (zRg1 x))], [(1, .box b1 26 (zRg1 x))]⟩) (ps := [b1 = b1]) (by kernel_rfl) ⟨rfl, trivial⟩ ?_
  refine seq_call (f := 20) (args := [.agg (zRg1 x)]) (d := some 4) (args' := [.agg (zRg1 x)]) (s' := ⟨[(1, .ptr 1 b1 0), (2, aB false), (3, .agg (zRg1 x)), (4, aB (fewB x))], [(1, .box b1 26 (zRg1 x))]⟩) (by kernel_rfl) (fun _ _ => rfl) ⟨Sub.refl _, trivial⟩ (few_spec x ok) (by kernel_rfl) ?_
  refine seq_run (r := [3, 4, 5, 6]) [2] (s' := ⟨[(1, .ptr 1 b1 0), (2, aB false), (3, .agg (zRg1 x)), (4, aB (fewB x)), (5, aB (fewB x))], [(1, .box b1 26 (zRg1 x))]⟩) (ps := []) (by kernel_rfl) trivial ?_
  rcases boolC (fewB x) with ⟨q1, p1⟩ | ⟨q1, p1⟩
  ·
    refine seq_bool (s' := ⟨[(1, .ptr 1 b1 0), (2, aB false), (3, .agg (zRg1 x)), (4, aB (fewB x)), (5, aB true)], [(1, .box b1 26 (zRg1 x))]⟩) 5 (b := fewB x) (v := true) q1 (by kernel_rfl) (by kernel_rfl) ?_
    refine seq_run (r := [4, 5, 6]) [3] (s' := ⟨[(1, .ptr 1 b1 0), (2, aB false), (3, .agg (zRg1 x)), (4, aB (fewB x)), (5, aB true), (6, .agg (zRg1 x))], [(1, .box b1 26 (zRg1 x))]⟩) (ps := [b1 = b1]) (by kernel_rfl) ⟨rfl, trivial⟩ ?_
    refine seq_call (f := 24) (args := [.agg (zRg1 x)]) (d := some 7) (args' := [.agg (zRg1 x)]) (s' := ⟨[(1, .ptr 1 b1 0), (2, aB false), (3, .agg (zRg1 x)), (4, aB (fewB x)), (5, aB true), (6, .agg (zRg1 x)), (7, aB (decide (RightP x)))], [(1, .box b1 26 (zRg1 x))]⟩) (by kernel_rfl) (fun _ _ => rfl) ⟨Sub.refl _, trivial⟩ (rright_spec x ok) (by kernel_rfl) ?_
    refine seq_run (r := []) [5, 6] (s' := ⟨[(1, .ptr 1 b1 0), (2, aB (decide (RightP x))), (3, .agg (zRg1 x)), (4, aB (fewB x)), (5, aB true), (6, .agg (zRg1 x)), (7, aB (decide (RightP x))), (8, aB (decide (RightP x)))], [(1, .box b1 26 (zRg1 x))]⟩) (ps := []) (by kernel_rfl) trivial ?_
    refine hK2 _ ?_
    try clear hK2 K2
    refine awp_less ⟨[(2, aB (decide (RightP x)))], []⟩ ⟨Sub.refl _, trivial⟩ trivial ?_
    refine awp_ret ?_
    refine fin_ret ⟨[], [aB (decide (RightP x))], by kernel_rfl, trivial, ?_⟩
    exact Sub.of_eq (show resOf [aB (decide (RightP x))] = _ from by unfold goodB; rw [q1]; rfl)
  refine seq_bool (s' := ⟨[(1, .ptr 1 b1 0), (2, aB false), (3, .agg (zRg1 x)), (4, aB (fewB x)), (5, aB false)], [(1, .box b1 26 (zRg1 x))]⟩) 5 (b := fewB x) (v := false) q1 (by kernel_rfl) (by kernel_rfl) ?_
  refine seq_run (r := []) [3, 4, 5, 6] (s' := ⟨[(1, .ptr 1 b1 0), (2, aB false), (3, .agg (zRg1 x)), (4, aB (fewB x)), (5, aB false), (6, .val undef), (7, .val undef), (8, aB false)], [(1, .box b1 26 (zRg1 x))]⟩) (ps := []) (by kernel_rfl) trivial ?_
  refine hK2 _ ?_
  try clear hK2 K2
  refine awp_less ⟨[(2, aB false)], []⟩ ⟨Sub.refl _, trivial⟩ trivial ?_
  refine awp_ret ?_
  refine fin_ret ⟨[], [aB false], by kernel_rfl, trivial, ?_⟩
  exact Sub.of_eq (show resOf [aB false] = _ from by unfold goodB; rw [q1]; rfl)
end Go.Proofs.Ytpdedjbkfcaebaa
