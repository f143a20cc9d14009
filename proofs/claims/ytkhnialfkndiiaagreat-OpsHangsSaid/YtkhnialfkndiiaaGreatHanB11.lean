/- The law OpsHangs over data. -/
import Derived.Test.YtkhnialfkndiiaaGreatMrgAB
set_option maxRecDepth 100000
set_option maxHeartbeats 8000000
set_option linter.unusedVariables false
set_option linter.unusedSimpArgs false
namespace Go.Proofs.YtkhnialfkndiiaaGreat
open Go Go.RowKit Copyhold
theorem addErr_of {f : Fsy} {dir : Int} {s : Txt} {n d : Nod} (A : AddsP f dir s n d) : addErr f dir s n = 0 := by
  obtain ⟨h1, h2⟩ := dir_of A.dir A.kind
  have b1 := A.few
  have b2 := A.fewd
  unfold addErr
  rw [first5, if_pos h1, if_pos A.check, h2, if_pos ((when0 (by decide)).2 A.away), if_pos ((when0 (by decide)).2 (by simp; omega))]
  refine (when0 (by decide)).2 ?_
  rw [dP_true.2 A.node, A.nol]
  rfl
theorem hangs {f : Fsy} {c : Cal} {dir : Int} {s : Txt} {n : Nod} (okf : OkF f) (T : TreeP f) (okc : OkCal c) (okn : OkN n) (hs : s.length ≤ 1000000) (hx : f.next < 1152921504606846977) (hw : ¬ wholeC c) (he : addErr f dir s n = 0)
    (hl : ∀ x ∈ looksU f c, ¬ x = dir ∧ ¬ x = f.next) : (doF (addF f dir s (addN f n)) c).2 = (doF f c).2 ∧ looksU f c = looksU (addF f dir s (addN f n)) c ∧ addErr (doF f c).1 dir s n = 0 ∧ (doF (addF f dir s (addN f n)) c).1 = addF (doF f c).1 dir s (addN (doF f c).1 n) := by
  have hp := T.rows
  have K := kept_add okf T okn hs (by omega) he
  have kd := kept_do okf okc T (by omega)
  have kg := kept_do K.ok okc K.tree (by have := K.next.2; omega)
  obtain ⟨d, A, hu, hgn⟩ := add_upd hp he
  have h15 : ¬ c.kind = 15 := fun h => hw (.inr (.inr (.inr (.inr h))))
  have hL : ∀ x ∈ looksL f c, ¬ x = dir ∧ ¬ x = f.next := fun x hxx => hl x (by unfold looksU; rw [if_neg h15]; exact sortU_mem.2 hxx)
  have hag : ∀ i ∈ looksL f c, atF f i = atF (addF f dir s (addN f n)) i := fun i hi => (hu.out fun p hp e => by
    obtain ⟨h1, h2⟩ := hL i hi
    rcases List.mem_cons.1 hp with rfl | hp
    · exact h2 e.symm
    · obtain rfl := List.mem_singleton.1 hp; exact h1 e.symm).symm
  obtain ⟨u, G⟩ := do_agree okf K.ok hp K.tree.rows okc hw hag
  have hdu : ∀ p ∈ u, ¬ p.1 = dir := fun p hp e => (hL _ (G.looks p hp)).1 e
  have hnu : ∀ p ∈ u, ¬ p.1 = f.next := fun p hp e => (hL _ (G.looks p hp)).2 e
  have hkd : atF (doF f c).1 dir = some d := (G.updf.out hdu).trans A.dir
  have hN : addN (doF f c).1 n = addN f n := by unfold addN; rw [G.nextf]
  have A2 : AddsP (doF f c).1 dir s n d := ⟨hkd, A.kind, A.check, A.away, Nat.lt_of_le_of_lt G.lenf A.few, A.fewd, by rw [hN]; exact A.node, A.nol⟩
  have he2 := addErr_of A2
  have K2 := kept_add kd.ok kd.tree okn hs (by have := kd.next.2; omega) he2
  obtain ⟨d2, A3, hu2, hpn⟩ := add_upd kd.tree.rows he2
  have hdd : d2 = d := by have := A3.dir; rw [hkd] at this; exact (Option.some.inj this).symm
  subst hdd
  refine ⟨G.same.symm, looks_agree hag, he2, fsy_ext (rows_rise kg.tree.rows) (rows_rise K2.tree.rows) (fun i => ?_) ?_⟩
  · rw [hu2 i, G.updg i]
    show _ = (if i = (doF f c).1.next then some (withL (addN (doF f c).1 n) []) else if i = dir then some (withL d2 (entL d2.l s (doF f c).1.next)) else atF (doF f c).1 i)
    rw [hN, G.nextf]
    have hgi : atF (addF f dir s (addN f n)) i = if i = f.next then some (withL (addN f n) []) else if i = dir then some (withL d2 (entL d2.l s f.next)) else atF f i := hu i
    by_cases hi : ∃ p ∈ u, p.1 = i
    · obtain ⟨p, hp1, hp2⟩ := hi
      rw [if_neg (fun e => hnu p hp1 (hp2.trans e)), if_neg (fun e => hdu p hp1 (hp2.trans e)), G.updf i]
      exact updF_in ⟨p, hp1, hp2⟩
    · have hno : ∀ p ∈ u, ¬ p.1 = i := fun p hp e => hi ⟨p, hp, e⟩
      rw [← G.updg i, G.updg.out hno, hgi, G.updf.out hno]
  · rw [G.nextg, hgn, hpn, G.nextf]
structure Hng where
  f : Fsy
  c : Cal
  dir : Int
  s : Txt
def hngA (a : Hng) : List AV := [.sl 5 false (a.f.l.map nodA), aI a.f.next, aI a.c.kind, aI a.c.ino, aI a.c.to, aI a.c.at_, aI a.c.many, aS a.c.name, aS a.c.name2, aS a.c.text, aI a.dir, aS a.s]
structure OkHng (a : Hng) : Prop where
  f : OkF a.f
  c : OkC0 a.c
  dir : I64 a.dir
  s : a.s.length ≤ 140737488351232
theorem knew_ok : OkN ⟨0, 1, 0, [110, 101, 119], []⟩ := ⟨i0, ismall (by decide) (by decide), i0, by show 3 ≤ _; omega, Nat.zero_le _, fun e h => by cases h⟩
theorem opsHangs_data (f : Fsy) (c : Cal) (dir : Int) (s : Txt) (okf : OkF f) (okc0 : OkC0 c) (hdir : I64 dir) (hs0 : s.length ≤ 140737488351232) : FSpec Tryz.prog 9 [.agg [.sl 5 false (f.l.map nodA), aI f.next, aI c.kind, aI c.ino, aI c.to, aI c.at_, aI c.many, aS c.name, aS c.name2, aS c.text, aI dir, aS s]] (aB true) := by
  exact spec_vc (F := Tryz.f9) 400 (
 .new fun b1 => .r 1 <| let J1 : Jn (Nat × Nat) := ⟨fun j1 => ⟨[(2, aB false), (3, .ptr 3 j1.1 0), (4, .ptr 4 j1.2 0), (5, aI dir), (6, aS s)], [(3, .box j1.1 24 [.sl 5 false (f.l.map nodA), aI f.next]), (4, .box j1.2 26 [aI c.kind, aI c.ino, aI c.to, aI c.at_, aI c.many, aS c.name, aS c.name2, aS c.text])]⟩, fun _ => True⟩
 .cut J1 (.pick [0, 1, 2, 4, 6] <| .run 5 [b1 = b1] rt1 <|
 .fork <| .alt (.run 1 [b1 = b1] rt1 <|
 .fork <| .alt (.run 1 [b1 = b1] rt1 <|
 .fork <| .alt (.run 1 [b1 = b1] rt1 <|
 .fork <| .alt (.new fun b2 => .pick [9, 10, 11, 12, 13] <| .new fun b3 => .run 4 [b2 = b2, b3 = b3] rt2 <|
 .join J1 (b2, b3) trivial ⟨[(2, aB false), (3, .ptr 3 b2 0), (4, .ptr 4 b3 0), (5, aI dir), (6, aS s)], [(3, .box b2 24 [.sl 5 false (f.l.map nodA), aI f.next]), (4, .box b3 26 [aI c.kind, aI c.ino, aI c.to, aI c.at_, aI c.many, aS c.name, aS c.name2, aS c.text])]⟩ sr5 ⟨⟨_, rfl, SubB.refl _⟩, ⟨_, rfl, SubB.refl _⟩, trivial⟩)
 <| .new fun b4 => .pick [8, 10, 11, 12, 13] <| .new fun b5 => .run 4 [b5 = b5, b4 = b4] rt2 <|
 .join J1 (b5, b4) trivial ⟨[(2, aB false), (3, .ptr 3 b5 0), (4, .ptr 4 b4 0), (5, aI dir), (6, aS s)], [(3, .box b5 24 [.sl 5 false (f.l.map nodA), aI f.next]), (4, .box b4 26 [aI c.kind, aI c.ino, aI c.to, aI c.at_, aI c.many, aS c.name, aS c.name2, aS c.text])]⟩ sr5 ⟨⟨_, rfl, SubB.refl _⟩, ⟨_, rfl, SubB.refl _⟩, trivial⟩)
 <| .alt (.new fun b6 => .fork <| .alt (.run 1 [b1 = b1] rt1 <|
 .pick [9, 10, 11, 12, 13] <| .new fun b7 => .run 4 [b6 = b6, b7 = b7] rt2 <|
 .join J1 (b6, b7) trivial ⟨[(2, aB false), (3, .ptr 3 b6 0), (4, .ptr 4 b7 0), (5, aI dir), (6, aS s)], [(3, .box b6 24 [.sl 5 false (f.l.map nodA), aI f.next]), (4, .box b7 26 [aI c.kind, aI c.ino, aI c.to, aI c.at_, aI c.many, aS c.name, aS c.name2, aS c.text])]⟩ sr5 ⟨⟨_, rfl, SubB.refl _⟩, ⟨_, rfl, SubB.refl _⟩, trivial⟩)
 <| .new fun b8 => .fork <| .alt (.run 1 [b1 = b1] rt1 <|
 .pick [10, 11, 12, 13] <| .run 4 [b6 = b6, b8 = b8] rt2 <|
 .join J1 (b6, b8) trivial ⟨[(2, aB false), (3, .ptr 3 b6 0), (4, .ptr 4 b8 0), (5, aI dir), (6, aS s)], [(3, .box b6 24 [.sl 5 false (f.l.map nodA), aI f.next]), (4, .box b8 26 [aI c.kind, aI c.ino, aI c.to, aI c.at_, aI c.many, aS c.name, aS c.name2, aS c.text])]⟩ sr5 ⟨⟨_, rfl, SubB.refl _⟩, ⟨_, rfl, SubB.refl _⟩, trivial⟩)
 <| .run 1 [b6 = b6] rt1 <|
 .fork <| .alt (.run 1 [b1 = b1] rt1 <|
 .pick [11, 12, 13] <| .run 3 [b8 = b8] rt1 <|
 .join J1 (b6, b8) trivial ⟨[(2, aB false), (3, .ptr 3 b6 0), (4, .ptr 4 b8 0), (5, aI dir), (6, aS s)], [(3, .box b6 24 [.sl 5 false (f.l.map nodA), aI f.next]), (4, .box b8 26 [aI c.kind, aI c.ino, aI c.to, aI c.at_, aI c.many, aS c.name, aS c.name2, aS c.text])]⟩ sr5 ⟨⟨_, rfl, SubB.refl _⟩, ⟨_, rfl, SubB.refl _⟩, trivial⟩)
 <| .run 1 [b8 = b8] rt1 <|
 .pick [7, 12, 13] <| .run 3 [b1 = b1] rt1 <|
 .join J1 (b6, b8) trivial ⟨[(2, aB false), (3, .ptr 3 b6 0), (4, .ptr 4 b8 0), (5, aI dir), (6, aS s)], [(3, .box b6 24 [.sl 5 false (f.l.map nodA), aI f.next]), (4, .box b8 26 [aI c.kind, aI c.ino, aI c.to, aI c.at_, aI c.many, aS c.name, aS c.name2, aS c.text])]⟩ sr5 ⟨⟨_, rfl, SubB.refl _⟩, ⟨_, rfl, SubB.refl _⟩, trivial⟩)
 <| .new fun b9 => .fork <| .alt (.run 1 [b1 = b1] rt1 <|
 .pick [8, 10, 11, 12, 13] <| .new fun b10 => .run 4 [b10 = b10, b9 = b9] rt2 <|
 .join J1 (b10, b9) trivial ⟨[(2, aB false), (3, .ptr 3 b10 0), (4, .ptr 4 b9 0), (5, aI dir), (6, aS s)], [(3, .box b10 24 [.sl 5 false (f.l.map nodA), aI f.next]), (4, .box b9 26 [aI c.kind, aI c.ino, aI c.to, aI c.at_, aI c.many, aS c.name, aS c.name2, aS c.text])]⟩ sr5 ⟨⟨_, rfl, SubB.refl _⟩, ⟨_, rfl, SubB.refl _⟩, trivial⟩)
 <| .new fun b11 => .fork <| .alt (.run 1 [b1 = b1] rt1 <|
 .pick [10, 11, 12, 13] <| .run 4 [b11 = b11, b9 = b9] rt2 <|
 .join J1 (b11, b9) trivial ⟨[(2, aB false), (3, .ptr 3 b11 0), (4, .ptr 4 b9 0), (5, aI dir), (6, aS s)], [(3, .box b11 24 [.sl 5 false (f.l.map nodA), aI f.next]), (4, .box b9 26 [aI c.kind, aI c.ino, aI c.to, aI c.at_, aI c.many, aS c.name, aS c.name2, aS c.text])]⟩ sr5 ⟨⟨_, rfl, SubB.refl _⟩, ⟨_, rfl, SubB.refl _⟩, trivial⟩)
 <| .run 1 [b11 = b11] rt1 <|
 .fork <| .alt (.run 1 [b1 = b1] rt1 <|
 .pick [11, 12, 13] <| .run 3 [b9 = b9] rt1 <|
 .join J1 (b11, b9) trivial ⟨[(2, aB false), (3, .ptr 3 b11 0), (4, .ptr 4 b9 0), (5, aI dir), (6, aS s)], [(3, .box b11 24 [.sl 5 false (f.l.map nodA), aI f.next]), (4, .box b9 26 [aI c.kind, aI c.ino, aI c.to, aI c.at_, aI c.many, aS c.name, aS c.name2, aS c.text])]⟩ sr5 ⟨⟨_, rfl, SubB.refl _⟩, ⟨_, rfl, SubB.refl _⟩, trivial⟩)
 <| .run 1 [b9 = b9] rt1 <|
 .pick [7, 12, 13] <| .run 3 [b1 = b1] rt1 <|
 .join J1 (b11, b9) trivial ⟨[(2, aB false), (3, .ptr 3 b11 0), (4, .ptr 4 b9 0), (5, aI dir), (6, aS s)], [(3, .box b11 24 [.sl 5 false (f.l.map nodA), aI f.next]), (4, .box b9 26 [aI c.kind, aI c.ino, aI c.to, aI c.at_, aI c.many, aS c.name, aS c.name2, aS c.text])]⟩ sr5 ⟨⟨_, rfl, SubB.refl _⟩, ⟨_, rfl, SubB.refl _⟩, trivial⟩)
 <| .alt (.run 1 [b1 = b1] rt1 <|
 .fork <| .alt (.run 1 [b1 = b1] rt1 <|
 .fork <| .alt (.new fun b12 => .pick [9, 10, 11, 12, 13] <| .new fun b13 => .run 4 [b12 = b12, b13 = b13] rt2 <|
 .join J1 (b12, b13) trivial ⟨[(2, aB false), (3, .ptr 3 b12 0), (4, .ptr 4 b13 0), (5, aI dir), (6, aS s)], [(3, .box b12 24 [.sl 5 false (f.l.map nodA), aI f.next]), (4, .box b13 26 [aI c.kind, aI c.ino, aI c.to, aI c.at_, aI c.many, aS c.name, aS c.name2, aS c.text])]⟩ sr5 ⟨⟨_, rfl, SubB.refl _⟩, ⟨_, rfl, SubB.refl _⟩, trivial⟩)
 <| .new fun b14 => .pick [8, 10, 11, 12, 13] <| .new fun b15 => .run 4 [b15 = b15, b14 = b14] rt2 <|
 .join J1 (b15, b14) trivial ⟨[(2, aB false), (3, .ptr 3 b15 0), (4, .ptr 4 b14 0), (5, aI dir), (6, aS s)], [(3, .box b15 24 [.sl 5 false (f.l.map nodA), aI f.next]), (4, .box b14 26 [aI c.kind, aI c.ino, aI c.to, aI c.at_, aI c.many, aS c.name, aS c.name2, aS c.text])]⟩ sr5 ⟨⟨_, rfl, SubB.refl _⟩, ⟨_, rfl, SubB.refl _⟩, trivial⟩)
 <| .alt (.new fun b16 => .fork <| .alt (.run 1 [b1 = b1] rt1 <|
 .pick [9, 10, 11, 12, 13] <| .new fun b17 => .run 4 [b16 = b16, b17 = b17] rt2 <|
 .join J1 (b16, b17) trivial ⟨[(2, aB false), (3, .ptr 3 b16 0), (4, .ptr 4 b17 0), (5, aI dir), (6, aS s)], [(3, .box b16 24 [.sl 5 false (f.l.map nodA), aI f.next]), (4, .box b17 26 [aI c.kind, aI c.ino, aI c.to, aI c.at_, aI c.many, aS c.name, aS c.name2, aS c.text])]⟩ sr5 ⟨⟨_, rfl, SubB.refl _⟩, ⟨_, rfl, SubB.refl _⟩, trivial⟩)
 <| .new fun b18 => .fork <| .alt (.run 1 [b1 = b1] rt1 <|
 .pick [10, 11, 12, 13] <| .run 4 [b16 = b16, b18 = b18] rt2 <|
 .join J1 (b16, b18) trivial ⟨[(2, aB false), (3, .ptr 3 b16 0), (4, .ptr 4 b18 0), (5, aI dir), (6, aS s)], [(3, .box b16 24 [.sl 5 false (f.l.map nodA), aI f.next]), (4, .box b18 26 [aI c.kind, aI c.ino, aI c.to, aI c.at_, aI c.many, aS c.name, aS c.name2, aS c.text])]⟩ sr5 ⟨⟨_, rfl, SubB.refl _⟩, ⟨_, rfl, SubB.refl _⟩, trivial⟩)
 <| .run 1 [b16 = b16] rt1 <|
 .fork <| .alt (.run 1 [b1 = b1] rt1 <|
 .pick [11, 12, 13] <| .run 3 [b18 = b18] rt1 <|
 .join J1 (b16, b18) trivial ⟨[(2, aB false), (3, .ptr 3 b16 0), (4, .ptr 4 b18 0), (5, aI dir), (6, aS s)], [(3, .box b16 24 [.sl 5 false (f.l.map nodA), aI f.next]), (4, .box b18 26 [aI c.kind, aI c.ino, aI c.to, aI c.at_, aI c.many, aS c.name, aS c.name2, aS c.text])]⟩ sr5 ⟨⟨_, rfl, SubB.refl _⟩, ⟨_, rfl, SubB.refl _⟩, trivial⟩)
 <| .run 1 [b18 = b18] rt1 <|
 .pick [5, 12, 13] <| .run 3 [b1 = b1] rt1 <|
 .join J1 (b16, b18) trivial ⟨[(2, aB false), (3, .ptr 3 b16 0), (4, .ptr 4 b18 0), (5, aI dir), (6, aS s)], [(3, .box b16 24 [.sl 5 false (f.l.map nodA), aI f.next]), (4, .box b18 26 [aI c.kind, aI c.ino, aI c.to, aI c.at_, aI c.many, aS c.name, aS c.name2, aS c.text])]⟩ sr5 ⟨⟨_, rfl, SubB.refl _⟩, ⟨_, rfl, SubB.refl _⟩, trivial⟩)
 <| .new fun b19 => .fork <| .alt (.run 1 [b1 = b1] rt1 <|
 .pick [8, 10, 11, 12, 13] <| .new fun b20 => .run 4 [b20 = b20, b19 = b19] rt2 <|
 .join J1 (b20, b19) trivial ⟨[(2, aB false), (3, .ptr 3 b20 0), (4, .ptr 4 b19 0), (5, aI dir), (6, aS s)], [(3, .box b20 24 [.sl 5 false (f.l.map nodA), aI f.next]), (4, .box b19 26 [aI c.kind, aI c.ino, aI c.to, aI c.at_, aI c.many, aS c.name, aS c.name2, aS c.text])]⟩ sr5 ⟨⟨_, rfl, SubB.refl _⟩, ⟨_, rfl, SubB.refl _⟩, trivial⟩)
 <| .new fun b21 => .fork <| .alt (.run 1 [b1 = b1] rt1 <|
 .pick [10, 11, 12, 13] <| .run 4 [b21 = b21, b19 = b19] rt2 <|
 .join J1 (b21, b19) trivial ⟨[(2, aB false), (3, .ptr 3 b21 0), (4, .ptr 4 b19 0), (5, aI dir), (6, aS s)], [(3, .box b21 24 [.sl 5 false (f.l.map nodA), aI f.next]), (4, .box b19 26 [aI c.kind, aI c.ino, aI c.to, aI c.at_, aI c.many, aS c.name, aS c.name2, aS c.text])]⟩ sr5 ⟨⟨_, rfl, SubB.refl _⟩, ⟨_, rfl, SubB.refl _⟩, trivial⟩)
 <| .run 1 [b21 = b21] rt1 <|
 .fork <| .alt (.run 1 [b1 = b1] rt1 <|
 .pick [11, 12, 13] <| .run 3 [b19 = b19] rt1 <|
 .join J1 (b21, b19) trivial ⟨[(2, aB false), (3, .ptr 3 b21 0), (4, .ptr 4 b19 0), (5, aI dir), (6, aS s)], [(3, .box b21 24 [.sl 5 false (f.l.map nodA), aI f.next]), (4, .box b19 26 [aI c.kind, aI c.ino, aI c.to, aI c.at_, aI c.many, aS c.name, aS c.name2, aS c.text])]⟩ sr5 ⟨⟨_, rfl, SubB.refl _⟩, ⟨_, rfl, SubB.refl _⟩, trivial⟩)
 <| .run 1 [b19 = b19] rt1 <|
 .pick [5, 12, 13] <| .run 3 [b1 = b1] rt1 <|
 .join J1 (b21, b19) trivial ⟨[(2, aB false), (3, .ptr 3 b21 0), (4, .ptr 4 b19 0), (5, aI dir), (6, aS s)], [(3, .box b21 24 [.sl 5 false (f.l.map nodA), aI f.next]), (4, .box b19 26 [aI c.kind, aI c.ino, aI c.to, aI c.at_, aI c.many, aS c.name, aS c.name2, aS c.text])]⟩ sr5 ⟨⟨_, rfl, SubB.refl _⟩, ⟨_, rfl, SubB.refl _⟩, trivial⟩)
 <| .alt (.new fun b22 => .fork <| .alt (.run 1 [b1 = b1] rt1 <|
 .fork <| .alt (.run 1 [b1 = b1] rt1 <|
 .pick [9, 10, 11, 12, 13] <| .new fun b23 => .run 4 [b22 = b22, b23 = b23] rt2 <|
 .join J1 (b22, b23) trivial ⟨[(2, aB false), (3, .ptr 3 b22 0), (4, .ptr 4 b23 0), (5, aI dir), (6, aS s)], [(3, .box b22 24 [.sl 5 false (f.l.map nodA), aI f.next]), (4, .box b23 26 [aI c.kind, aI c.ino, aI c.to, aI c.at_, aI c.many, aS c.name, aS c.name2, aS c.text])]⟩ sr5 ⟨⟨_, rfl, SubB.refl _⟩, ⟨_, rfl, SubB.refl _⟩, trivial⟩)
 <| .new fun b24 => .fork <| .alt (.run 1 [b1 = b1] rt1 <|
 .pick [10, 11, 12, 13] <| .run 4 [b22 = b22, b24 = b24] rt2 <|
 .join J1 (b22, b24) trivial ⟨[(2, aB false), (3, .ptr 3 b22 0), (4, .ptr 4 b24 0), (5, aI dir), (6, aS s)], [(3, .box b22 24 [.sl 5 false (f.l.map nodA), aI f.next]), (4, .box b24 26 [aI c.kind, aI c.ino, aI c.to, aI c.at_, aI c.many, aS c.name, aS c.name2, aS c.text])]⟩ sr5 ⟨⟨_, rfl, SubB.refl _⟩, ⟨_, rfl, SubB.refl _⟩, trivial⟩)
 <| .run 1 [b22 = b22] rt1 <|
 .fork <| .alt (.run 1 [b1 = b1] rt1 <|
 .pick [11, 12, 13] <| .run 3 [b24 = b24] rt1 <|
 .join J1 (b22, b24) trivial ⟨[(2, aB false), (3, .ptr 3 b22 0), (4, .ptr 4 b24 0), (5, aI dir), (6, aS s)], [(3, .box b22 24 [.sl 5 false (f.l.map nodA), aI f.next]), (4, .box b24 26 [aI c.kind, aI c.ino, aI c.to, aI c.at_, aI c.many, aS c.name, aS c.name2, aS c.text])]⟩ sr5 ⟨⟨_, rfl, SubB.refl _⟩, ⟨_, rfl, SubB.refl _⟩, trivial⟩)
 <| .run 1 [b24 = b24] rt1 <|
 .pick [7, 12, 13] <| .run 3 [b1 = b1] rt1 <|
 .join J1 (b22, b24) trivial ⟨[(2, aB false), (3, .ptr 3 b22 0), (4, .ptr 4 b24 0), (5, aI dir), (6, aS s)], [(3, .box b22 24 [.sl 5 false (f.l.map nodA), aI f.next]), (4, .box b24 26 [aI c.kind, aI c.ino, aI c.to, aI c.at_, aI c.many, aS c.name, aS c.name2, aS c.text])]⟩ sr5 ⟨⟨_, rfl, SubB.refl _⟩, ⟨_, rfl, SubB.refl _⟩, trivial⟩)
 <| .alt (.run 1 [b1 = b1] rt1 <|
 .fork <| .alt (.run 1 [b1 = b1] rt1 <|
 .pick [9, 10, 11, 12, 13] <| .new fun b25 => .run 4 [b22 = b22, b25 = b25] rt2 <|
 .join J1 (b22, b25) trivial ⟨[(2, aB false), (3, .ptr 3 b22 0), (4, .ptr 4 b25 0), (5, aI dir), (6, aS s)], [(3, .box b22 24 [.sl 5 false (f.l.map nodA), aI f.next]), (4, .box b25 26 [aI c.kind, aI c.ino, aI c.to, aI c.at_, aI c.many, aS c.name, aS c.name2, aS c.text])]⟩ sr5 ⟨⟨_, rfl, SubB.refl _⟩, ⟨_, rfl, SubB.refl _⟩, trivial⟩)
 <| .new fun b26 => .fork <| .alt (.run 1 [b1 = b1] rt1 <|
 .pick [10, 11, 12, 13] <| .run 4 [b22 = b22, b26 = b26] rt2 <|
 .join J1 (b22, b26) trivial ⟨[(2, aB false), (3, .ptr 3 b22 0), (4, .ptr 4 b26 0), (5, aI dir), (6, aS s)], [(3, .box b22 24 [.sl 5 false (f.l.map nodA), aI f.next]), (4, .box b26 26 [aI c.kind, aI c.ino, aI c.to, aI c.at_, aI c.many, aS c.name, aS c.name2, aS c.text])]⟩ sr5 ⟨⟨_, rfl, SubB.refl _⟩, ⟨_, rfl, SubB.refl _⟩, trivial⟩)
 <| .run 1 [b22 = b22] rt1 <|
 .fork <| .alt (.run 1 [b1 = b1] rt1 <|
 .pick [11, 12, 13] <| .run 3 [b26 = b26] rt1 <|
 .join J1 (b22, b26) trivial ⟨[(2, aB false), (3, .ptr 3 b22 0), (4, .ptr 4 b26 0), (5, aI dir), (6, aS s)], [(3, .box b22 24 [.sl 5 false (f.l.map nodA), aI f.next]), (4, .box b26 26 [aI c.kind, aI c.ino, aI c.to, aI c.at_, aI c.many, aS c.name, aS c.name2, aS c.text])]⟩ sr5 ⟨⟨_, rfl, SubB.refl _⟩, ⟨_, rfl, SubB.refl _⟩, trivial⟩)
 <| .run 1 [b26 = b26] rt1 <|
 .pick [5, 12, 13] <| .run 3 [b1 = b1] rt1 <|
 .join J1 (b22, b26) trivial ⟨[(2, aB false), (3, .ptr 3 b22 0), (4, .ptr 4 b26 0), (5, aI dir), (6, aS s)], [(3, .box b22 24 [.sl 5 false (f.l.map nodA), aI f.next]), (4, .box b26 26 [aI c.kind, aI c.ino, aI c.to, aI c.at_, aI c.many, aS c.name, aS c.name2, aS c.text])]⟩ sr5 ⟨⟨_, rfl, SubB.refl _⟩, ⟨_, rfl, SubB.refl _⟩, trivial⟩)
 <| .new fun b27 => .fork <| .alt (.run 1 [b1 = b1] rt1 <|
 .fork <| .alt (.run 1 [b1 = b1] rt1 <|
 .pick [10, 11, 12, 13] <| .run 4 [b22 = b22, b27 = b27] rt2 <|
 .join J1 (b22, b27) trivial ⟨[(2, aB false), (3, .ptr 3 b22 0), (4, .ptr 4 b27 0), (5, aI dir), (6, aS s)], [(3, .box b22 24 [.sl 5 false (f.l.map nodA), aI f.next]), (4, .box b27 26 [aI c.kind, aI c.ino, aI c.to, aI c.at_, aI c.many, aS c.name, aS c.name2, aS c.text])]⟩ sr5 ⟨⟨_, rfl, SubB.refl _⟩, ⟨_, rfl, SubB.refl _⟩, trivial⟩)
 <| .run 1 [b22 = b22] rt1 <|
 .fork <| .alt (.run 1 [b1 = b1] rt1 <|
 .pick [11, 12, 13] <| .run 3 [b27 = b27] rt1 <|
 .join J1 (b22, b27) trivial ⟨[(2, aB false), (3, .ptr 3 b22 0), (4, .ptr 4 b27 0), (5, aI dir), (6, aS s)], [(3, .box b22 24 [.sl 5 false (f.l.map nodA), aI f.next]), (4, .box b27 26 [aI c.kind, aI c.ino, aI c.to, aI c.at_, aI c.many, aS c.name, aS c.name2, aS c.text])]⟩ sr5 ⟨⟨_, rfl, SubB.refl _⟩, ⟨_, rfl, SubB.refl _⟩, trivial⟩)
 <| .run 1 [b27 = b27] rt1 <|
 .pick [7, 12, 13] <| .run 3 [b1 = b1] rt1 <|
 .join J1 (b22, b27) trivial ⟨[(2, aB false), (3, .ptr 3 b22 0), (4, .ptr 4 b27 0), (5, aI dir), (6, aS s)], [(3, .box b22 24 [.sl 5 false (f.l.map nodA), aI f.next]), (4, .box b27 26 [aI c.kind, aI c.ino, aI c.to, aI c.at_, aI c.many, aS c.name, aS c.name2, aS c.text])]⟩ sr5 ⟨⟨_, rfl, SubB.refl _⟩, ⟨_, rfl, SubB.refl _⟩, trivial⟩)
 <| .alt (.run 1 [b1 = b1] rt1 <|
 .fork <| .alt (.run 1 [b1 = b1] rt1 <|
 .pick [10, 11, 12, 13] <| .run 4 [b22 = b22, b27 = b27] rt2 <|
 .join J1 (b22, b27) trivial ⟨[(2, aB false), (3, .ptr 3 b22 0), (4, .ptr 4 b27 0), (5, aI dir), (6, aS s)], [(3, .box b22 24 [.sl 5 false (f.l.map nodA), aI f.next]), (4, .box b27 26 [aI c.kind, aI c.ino, aI c.to, aI c.at_, aI c.many, aS c.name, aS c.name2, aS c.text])]⟩ sr5 ⟨⟨_, rfl, SubB.refl _⟩, ⟨_, rfl, SubB.refl _⟩, trivial⟩)
 <| .run 1 [b22 = b22] rt1 <|
 .fork <| .alt (.run 1 [b1 = b1] rt1 <|
 .pick [11, 12, 13] <| .run 3 [b27 = b27] rt1 <|
 .join J1 (b22, b27) trivial ⟨[(2, aB false), (3, .ptr 3 b22 0), (4, .ptr 4 b27 0), (5, aI dir), (6, aS s)], [(3, .box b22 24 [.sl 5 false (f.l.map nodA), aI f.next]), (4, .box b27 26 [aI c.kind, aI c.ino, aI c.to, aI c.at_, aI c.many, aS c.name, aS c.name2, aS c.text])]⟩ sr5 ⟨⟨_, rfl, SubB.refl _⟩, ⟨_, rfl, SubB.refl _⟩, trivial⟩)
 <| .run 1 [b27 = b27] rt1 <|
 .pick [5, 12, 13] <| .run 3 [b1 = b1] rt1 <|
 .join J1 (b22, b27) trivial ⟨[(2, aB false), (3, .ptr 3 b22 0), (4, .ptr 4 b27 0), (5, aI dir), (6, aS s)], [(3, .box b22 24 [.sl 5 false (f.l.map nodA), aI f.next]), (4, .box b27 26 [aI c.kind, aI c.ino, aI c.to, aI c.at_, aI c.many, aS c.name, aS c.name2, aS c.text])]⟩ sr5 ⟨⟨_, rfl, SubB.refl _⟩, ⟨_, rfl, SubB.refl _⟩, trivial⟩)
 <| .run 1 [b22 = b22] rt1 <|
 .fork <| .alt (.run 1 [b1 = b1] rt1 <|
 .fork <| .alt (.run 1 [b1 = b1] rt1 <|
 .pick [11, 12, 13] <| .run 3 [b27 = b27] rt1 <|
 .join J1 (b22, b27) trivial ⟨[(2, aB false), (3, .ptr 3 b22 0), (4, .ptr 4 b27 0), (5, aI dir), (6, aS s)], [(3, .box b22 24 [.sl 5 false (f.l.map nodA), aI f.next]), (4, .box b27 26 [aI c.kind, aI c.ino, aI c.to, aI c.at_, aI c.many, aS c.name, aS c.name2, aS c.text])]⟩ sr5 ⟨⟨_, rfl, SubB.refl _⟩, ⟨_, rfl, SubB.refl _⟩, trivial⟩)
 <| .run 1 [b27 = b27] rt1 <|
 .pick [7, 12, 13] <| .run 3 [b1 = b1] rt1 <|
 .join J1 (b22, b27) trivial ⟨[(2, aB false), (3, .ptr 3 b22 0), (4, .ptr 4 b27 0), (5, aI dir), (6, aS s)], [(3, .box b22 24 [.sl 5 false (f.l.map nodA), aI f.next]), (4, .box b27 26 [aI c.kind, aI c.ino, aI c.to, aI c.at_, aI c.many, aS c.name, aS c.name2, aS c.text])]⟩ sr5 ⟨⟨_, rfl, SubB.refl _⟩, ⟨_, rfl, SubB.refl _⟩, trivial⟩)
 <| .alt (.run 1 [b1 = b1] rt1 <|
 .fork <| .alt (.run 1 [b1 = b1] rt1 <|
 .pick [11, 12, 13] <| .run 3 [b27 = b27] rt1 <|
 .join J1 (b22, b27) trivial ⟨[(2, aB false), (3, .ptr 3 b22 0), (4, .ptr 4 b27 0), (5, aI dir), (6, aS s)], [(3, .box b22 24 [.sl 5 false (f.l.map nodA), aI f.next]), (4, .box b27 26 [aI c.kind, aI c.ino, aI c.to, aI c.at_, aI c.many, aS c.name, aS c.name2, aS c.text])]⟩ sr5 ⟨⟨_, rfl, SubB.refl _⟩, ⟨_, rfl, SubB.refl _⟩, trivial⟩)
 <| .run 1 [b27 = b27] rt1 <|
 .pick [5, 12, 13] <| .run 3 [b1 = b1] rt1 <|
 .join J1 (b22, b27) trivial ⟨[(2, aB false), (3, .ptr 3 b22 0), (4, .ptr 4 b27 0), (5, aI dir), (6, aS s)], [(3, .box b22 24 [.sl 5 false (f.l.map nodA), aI f.next]), (4, .box b27 26 [aI c.kind, aI c.ino, aI c.to, aI c.at_, aI c.many, aS c.name, aS c.name2, aS c.text])]⟩ sr5 ⟨⟨_, rfl, SubB.refl _⟩, ⟨_, rfl, SubB.refl _⟩, trivial⟩)
 <| .run 1 [b27 = b27] rt1 <|
 .pick [5, 7, 12, 13] <| .run 4 [b1 = b1, b1 = b1] rt2 <|
 .join J1 (b22, b27) trivial ⟨[(2, aB false), (3, .ptr 3 b22 0), (4, .ptr 4 b27 0), (5, aI dir), (6, aS s)], [(3, .box b22 24 [.sl 5 false (f.l.map nodA), aI f.next]), (4, .box b27 26 [aI c.kind, aI c.ino, aI c.to, aI c.at_, aI c.many, aS c.name, aS c.name2, aS c.text])]⟩ sr5 ⟨⟨_, rfl, SubB.refl _⟩, ⟨_, rfl, SubB.refl _⟩, trivial⟩)
 <| .new fun b28 => .fork <| .alt (.run 1 [b1 = b1] rt1 <|
 .fork <| .alt (.run 1 [b1 = b1] rt1 <|
 .pick [8, 10, 11, 12, 13] <| .new fun b29 => .run 4 [b29 = b29, b28 = b28] rt2 <|
 .join J1 (b29, b28) trivial ⟨[(2, aB false), (3, .ptr 3 b29 0), (4, .ptr 4 b28 0), (5, aI dir), (6, aS s)], [(3, .box b29 24 [.sl 5 false (f.l.map nodA), aI f.next]), (4, .box b28 26 [aI c.kind, aI c.ino, aI c.to, aI c.at_, aI c.many, aS c.name, aS c.name2, aS c.text])]⟩ sr5 ⟨⟨_, rfl, SubB.refl _⟩, ⟨_, rfl, SubB.refl _⟩, trivial⟩)
 <| .new fun b30 => .fork <| .alt (.run 1 [b1 = b1] rt1 <|
 .pick [10, 11, 12, 13] <| .run 4 [b30 = b30, b28 = b28] rt2 <|
 .join J1 (b30, b28) trivial ⟨[(2, aB false), (3, .ptr 3 b30 0), (4, .ptr 4 b28 0), (5, aI dir), (6, aS s)], [(3, .box b30 24 [.sl 5 false (f.l.map nodA), aI f.next]), (4, .box b28 26 [aI c.kind, aI c.ino, aI c.to, aI c.at_, aI c.many, aS c.name, aS c.name2, aS c.text])]⟩ sr5 ⟨⟨_, rfl, SubB.refl _⟩, ⟨_, rfl, SubB.refl _⟩, trivial⟩)
 <| .run 1 [b30 = b30] rt1 <|
 .fork <| .alt (.run 1 [b1 = b1] rt1 <|
 .pick [11, 12, 13] <| .run 3 [b28 = b28] rt1 <|
 .join J1 (b30, b28) trivial ⟨[(2, aB false), (3, .ptr 3 b30 0), (4, .ptr 4 b28 0), (5, aI dir), (6, aS s)], [(3, .box b30 24 [.sl 5 false (f.l.map nodA), aI f.next]), (4, .box b28 26 [aI c.kind, aI c.ino, aI c.to, aI c.at_, aI c.many, aS c.name, aS c.name2, aS c.text])]⟩ sr5 ⟨⟨_, rfl, SubB.refl _⟩, ⟨_, rfl, SubB.refl _⟩, trivial⟩)
 <| .run 1 [b28 = b28] rt1 <|
 .pick [7, 12, 13] <| .run 3 [b1 = b1] rt1 <|
 .join J1 (b30, b28) trivial ⟨[(2, aB false), (3, .ptr 3 b30 0), (4, .ptr 4 b28 0), (5, aI dir), (6, aS s)], [(3, .box b30 24 [.sl 5 false (f.l.map nodA), aI f.next]), (4, .box b28 26 [aI c.kind, aI c.ino, aI c.to, aI c.at_, aI c.many, aS c.name, aS c.name2, aS c.text])]⟩ sr5 ⟨⟨_, rfl, SubB.refl _⟩, ⟨_, rfl, SubB.refl _⟩, trivial⟩)
 <| .alt (.run 1 [b1 = b1] rt1 <|
 .fork <| .alt (.run 1 [b1 = b1] rt1 <|
 .pick [8, 10, 11, 12, 13] <| .new fun b31 => .run 4 [b31 = b31, b28 = b28] rt2 <|
 .join J1 (b31, b28) trivial ⟨[(2, aB false), (3, .ptr 3 b31 0), (4, .ptr 4 b28 0), (5, aI dir), (6, aS s)], [(3, .box b31 24 [.sl 5 false (f.l.map nodA), aI f.next]), (4, .box b28 26 [aI c.kind, aI c.ino, aI c.to, aI c.at_, aI c.many, aS c.name, aS c.name2, aS c.text])]⟩ sr5 ⟨⟨_, rfl, SubB.refl _⟩, ⟨_, rfl, SubB.refl _⟩, trivial⟩)
 <| .new fun b32 => .fork <| .alt (.run 1 [b1 = b1] rt1 <|
 .pick [10, 11, 12, 13] <| .run 4 [b32 = b32, b28 = b28] rt2 <|
 .join J1 (b32, b28) trivial ⟨[(2, aB false), (3, .ptr 3 b32 0), (4, .ptr 4 b28 0), (5, aI dir), (6, aS s)], [(3, .box b32 24 [.sl 5 false (f.l.map nodA), aI f.next]), (4, .box b28 26 [aI c.kind, aI c.ino, aI c.to, aI c.at_, aI c.many, aS c.name, aS c.name2, aS c.text])]⟩ sr5 ⟨⟨_, rfl, SubB.refl _⟩, ⟨_, rfl, SubB.refl _⟩, trivial⟩)
 <| .run 1 [b32 = b32] rt1 <|
 .fork <| .alt (.run 1 [b1 = b1] rt1 <|
 .pick [11, 12, 13] <| .run 3 [b28 = b28] rt1 <|
 .join J1 (b32, b28) trivial ⟨[(2, aB false), (3, .ptr 3 b32 0), (4, .ptr 4 b28 0), (5, aI dir), (6, aS s)], [(3, .box b32 24 [.sl 5 false (f.l.map nodA), aI f.next]), (4, .box b28 26 [aI c.kind, aI c.ino, aI c.to, aI c.at_, aI c.many, aS c.name, aS c.name2, aS c.text])]⟩ sr5 ⟨⟨_, rfl, SubB.refl _⟩, ⟨_, rfl, SubB.refl _⟩, trivial⟩)
 <| .run 1 [b28 = b28] rt1 <|
 .pick [5, 12, 13] <| .run 3 [b1 = b1] rt1 <|
 .join J1 (b32, b28) trivial ⟨[(2, aB false), (3, .ptr 3 b32 0), (4, .ptr 4 b28 0), (5, aI dir), (6, aS s)], [(3, .box b32 24 [.sl 5 false (f.l.map nodA), aI f.next]), (4, .box b28 26 [aI c.kind, aI c.ino, aI c.to, aI c.at_, aI c.many, aS c.name, aS c.name2, aS c.text])]⟩ sr5 ⟨⟨_, rfl, SubB.refl _⟩, ⟨_, rfl, SubB.refl _⟩, trivial⟩)
 <| .new fun b33 => .fork <| .alt (.run 1 [b1 = b1] rt1 <|
 .fork <| .alt (.run 1 [b1 = b1] rt1 <|
 .pick [10, 11, 12, 13] <| .run 4 [b33 = b33, b28 = b28] rt2 <|
 .join J1 (b33, b28) trivial ⟨[(2, aB false), (3, .ptr 3 b33 0), (4, .ptr 4 b28 0), (5, aI dir), (6, aS s)], [(3, .box b33 24 [.sl 5 false (f.l.map nodA), aI f.next]), (4, .box b28 26 [aI c.kind, aI c.ino, aI c.to, aI c.at_, aI c.many, aS c.name, aS c.name2, aS c.text])]⟩ sr5 ⟨⟨_, rfl, SubB.refl _⟩, ⟨_, rfl, SubB.refl _⟩, trivial⟩)
 <| .run 1 [b33 = b33] rt1 <|
 .fork <| .alt (.run 1 [b1 = b1] rt1 <|
 .pick [11, 12, 13] <| .run 3 [b28 = b28] rt1 <|
 .join J1 (b33, b28) trivial ⟨[(2, aB false), (3, .ptr 3 b33 0), (4, .ptr 4 b28 0), (5, aI dir), (6, aS s)], [(3, .box b33 24 [.sl 5 false (f.l.map nodA), aI f.next]), (4, .box b28 26 [aI c.kind, aI c.ino, aI c.to, aI c.at_, aI c.many, aS c.name, aS c.name2, aS c.text])]⟩ sr5 ⟨⟨_, rfl, SubB.refl _⟩, ⟨_, rfl, SubB.refl _⟩, trivial⟩)
 <| .run 1 [b28 = b28] rt1 <|
 .pick [7, 12, 13] <| .run 3 [b1 = b1] rt1 <|
 .join J1 (b33, b28) trivial ⟨[(2, aB false), (3, .ptr 3 b33 0), (4, .ptr 4 b28 0), (5, aI dir), (6, aS s)], [(3, .box b33 24 [.sl 5 false (f.l.map nodA), aI f.next]), (4, .box b28 26 [aI c.kind, aI c.ino, aI c.to, aI c.at_, aI c.many, aS c.name, aS c.name2, aS c.text])]⟩ sr5 ⟨⟨_, rfl, SubB.refl _⟩, ⟨_, rfl, SubB.refl _⟩, trivial⟩)
 <| .alt (.run 1 [b1 = b1] rt1 <|
 .fork <| .alt (.run 1 [b1 = b1] rt1 <|
 .pick [10, 11, 12, 13] <| .run 4 [b33 = b33, b28 = b28] rt2 <|
 .join J1 (b33, b28) trivial ⟨[(2, aB false), (3, .ptr 3 b33 0), (4, .ptr 4 b28 0), (5, aI dir), (6, aS s)], [(3, .box b33 24 [.sl 5 false (f.l.map nodA), aI f.next]), (4, .box b28 26 [aI c.kind, aI c.ino, aI c.to, aI c.at_, aI c.many, aS c.name, aS c.name2, aS c.text])]⟩ sr5 ⟨⟨_, rfl, SubB.refl _⟩, ⟨_, rfl, SubB.refl _⟩, trivial⟩)
 <| .run 1 [b33 = b33] rt1 <|
 .fork <| .alt (.run 1 [b1 = b1] rt1 <|
 .pick [11, 12, 13] <| .run 3 [b28 = b28] rt1 <|
 .join J1 (b33, b28) trivial ⟨[(2, aB false), (3, .ptr 3 b33 0), (4, .ptr 4 b28 0), (5, aI dir), (6, aS s)], [(3, .box b33 24 [.sl 5 false (f.l.map nodA), aI f.next]), (4, .box b28 26 [aI c.kind, aI c.ino, aI c.to, aI c.at_, aI c.many, aS c.name, aS c.name2, aS c.text])]⟩ sr5 ⟨⟨_, rfl, SubB.refl _⟩, ⟨_, rfl, SubB.refl _⟩, trivial⟩)
 <| .run 1 [b28 = b28] rt1 <|
 .pick [5, 12, 13] <| .run 3 [b1 = b1] rt1 <|
 .join J1 (b33, b28) trivial ⟨[(2, aB false), (3, .ptr 3 b33 0), (4, .ptr 4 b28 0), (5, aI dir), (6, aS s)], [(3, .box b33 24 [.sl 5 false (f.l.map nodA), aI f.next]), (4, .box b28 26 [aI c.kind, aI c.ino, aI c.to, aI c.at_, aI c.many, aS c.name, aS c.name2, aS c.text])]⟩ sr5 ⟨⟨_, rfl, SubB.refl _⟩, ⟨_, rfl, SubB.refl _⟩, trivial⟩)
 <| .run 1 [b33 = b33] rt1 <|
 .fork <| .alt (.run 1 [b1 = b1] rt1 <|
 .fork <| .alt (.run 1 [b1 = b1] rt1 <|
 .pick [11, 12, 13] <| .run 3 [b28 = b28] rt1 <|
 .join J1 (b33, b28) trivial ⟨[(2, aB false), (3, .ptr 3 b33 0), (4, .ptr 4 b28 0), (5, aI dir), (6, aS s)], [(3, .box b33 24 [.sl 5 false (f.l.map nodA), aI f.next]), (4, .box b28 26 [aI c.kind, aI c.ino, aI c.to, aI c.at_, aI c.many, aS c.name, aS c.name2, aS c.text])]⟩ sr5 ⟨⟨_, rfl, SubB.refl _⟩, ⟨_, rfl, SubB.refl _⟩, trivial⟩)
 <| .run 1 [b28 = b28] rt1 <|
 .pick [7, 12, 13] <| .run 3 [b1 = b1] rt1 <|
 .join J1 (b33, b28) trivial ⟨[(2, aB false), (3, .ptr 3 b33 0), (4, .ptr 4 b28 0), (5, aI dir), (6, aS s)], [(3, .box b33 24 [.sl 5 false (f.l.map nodA), aI f.next]), (4, .box b28 26 [aI c.kind, aI c.ino, aI c.to, aI c.at_, aI c.many, aS c.name, aS c.name2, aS c.text])]⟩ sr5 ⟨⟨_, rfl, SubB.refl _⟩, ⟨_, rfl, SubB.refl _⟩, trivial⟩)
 <| .alt (.run 1 [b1 = b1] rt1 <|
 .fork <| .alt (.run 1 [b1 = b1] rt1 <|
 .pick [11, 12, 13] <| .run 3 [b28 = b28] rt1 <|
 .join J1 (b33, b28) trivial ⟨[(2, aB false), (3, .ptr 3 b33 0), (4, .ptr 4 b28 0), (5, aI dir), (6, aS s)], [(3, .box b33 24 [.sl 5 false (f.l.map nodA), aI f.next]), (4, .box b28 26 [aI c.kind, aI c.ino, aI c.to, aI c.at_, aI c.many, aS c.name, aS c.name2, aS c.text])]⟩ sr5 ⟨⟨_, rfl, SubB.refl _⟩, ⟨_, rfl, SubB.refl _⟩, trivial⟩)
 <| .run 1 [b28 = b28] rt1 <|
 .pick [5, 12, 13] <| .run 3 [b1 = b1] rt1 <|
 .join J1 (b33, b28) trivial ⟨[(2, aB false), (3, .ptr 3 b33 0), (4, .ptr 4 b28 0), (5, aI dir), (6, aS s)], [(3, .box b33 24 [.sl 5 false (f.l.map nodA), aI f.next]), (4, .box b28 26 [aI c.kind, aI c.ino, aI c.to, aI c.at_, aI c.many, aS c.name, aS c.name2, aS c.text])]⟩ sr5 ⟨⟨_, rfl, SubB.refl _⟩, ⟨_, rfl, SubB.refl _⟩, trivial⟩)
 <| .run 1 [b28 = b28] rt1 <|
 .pick [5, 7, 12, 13] <| .run 4 [b1 = b1, b1 = b1] rt2 <|
 .join J1 (b33, b28) trivial ⟨[(2, aB false), (3, .ptr 3 b33 0), (4, .ptr 4 b28 0), (5, aI dir), (6, aS s)], [(3, .box b33 24 [.sl 5 false (f.l.map nodA), aI f.next]), (4, .box b28 26 [aI c.kind, aI c.ino, aI c.to, aI c.at_, aI c.many, aS c.name, aS c.name2, aS c.text])]⟩ sr5 ⟨⟨_, rfl, SubB.refl _⟩, ⟨_, rfl, SubB.refl _⟩, trivial⟩)
 <| .alt (.run 1 [b1 = b1] rt1 <|
 .fork <| .alt (.run 1 [b1 = b1] rt1 <|
 .fork <| .alt (.run 1 [b1 = b1] rt1 <|
 .fork <| .alt (.new fun b34 => .pick [9, 10, 11, 12, 13] <| .new fun b35 => .run 4 [b34 = b34, b35 = b35] rt2 <|
 .join J1 (b34, b35) trivial ⟨[(2, aB false), (3, .ptr 3 b34 0), (4, .ptr 4 b35 0), (5, aI dir), (6, aS s)], [(3, .box b34 24 [.sl 5 false (f.l.map nodA), aI f.next]), (4, .box b35 26 [aI c.kind, aI c.ino, aI c.to, aI c.at_, aI c.many, aS c.name, aS c.name2, aS c.text])]⟩ sr5 ⟨⟨_, rfl, SubB.refl _⟩, ⟨_, rfl, SubB.refl _⟩, trivial⟩)
 <| .new fun b36 => .pick [8, 10, 11, 12, 13] <| .new fun b37 => .run 4 [b37 = b37, b36 = b36] rt2 <|
 .join J1 (b37, b36) trivial ⟨[(2, aB false), (3, .ptr 3 b37 0), (4, .ptr 4 b36 0), (5, aI dir), (6, aS s)], [(3, .box b37 24 [.sl 5 false (f.l.map nodA), aI f.next]), (4, .box b36 26 [aI c.kind, aI c.ino, aI c.to, aI c.at_, aI c.many, aS c.name, aS c.name2, aS c.text])]⟩ sr5 ⟨⟨_, rfl, SubB.refl _⟩, ⟨_, rfl, SubB.refl _⟩, trivial⟩)
 <| .alt (.new fun b38 => .fork <| .alt (.run 1 [b1 = b1] rt1 <|
 .pick [9, 10, 11, 12, 13] <| .new fun b39 => .run 4 [b38 = b38, b39 = b39] rt2 <|
 .join J1 (b38, b39) trivial ⟨[(2, aB false), (3, .ptr 3 b38 0), (4, .ptr 4 b39 0), (5, aI dir), (6, aS s)], [(3, .box b38 24 [.sl 5 false (f.l.map nodA), aI f.next]), (4, .box b39 26 [aI c.kind, aI c.ino, aI c.to, aI c.at_, aI c.many, aS c.name, aS c.name2, aS c.text])]⟩ sr5 ⟨⟨_, rfl, SubB.refl _⟩, ⟨_, rfl, SubB.refl _⟩, trivial⟩)
 <| .new fun b40 => .fork <| .alt (.run 1 [b1 = b1] rt1 <|
 .pick [10, 11, 12, 13] <| .run 4 [b38 = b38, b40 = b40] rt2 <|
 .join J1 (b38, b40) trivial ⟨[(2, aB false), (3, .ptr 3 b38 0), (4, .ptr 4 b40 0), (5, aI dir), (6, aS s)], [(3, .box b38 24 [.sl 5 false (f.l.map nodA), aI f.next]), (4, .box b40 26 [aI c.kind, aI c.ino, aI c.to, aI c.at_, aI c.many, aS c.name, aS c.name2, aS c.text])]⟩ sr5 ⟨⟨_, rfl, SubB.refl _⟩, ⟨_, rfl, SubB.refl _⟩, trivial⟩)
 <| .run 1 [b38 = b38] rt1 <|
 .fork <| .alt (.run 1 [b1 = b1] rt1 <|
 .pick [11, 12, 13] <| .run 3 [b40 = b40] rt1 <|
 .join J1 (b38, b40) trivial ⟨[(2, aB false), (3, .ptr 3 b38 0), (4, .ptr 4 b40 0), (5, aI dir), (6, aS s)], [(3, .box b38 24 [.sl 5 false (f.l.map nodA), aI f.next]), (4, .box b40 26 [aI c.kind, aI c.ino, aI c.to, aI c.at_, aI c.many, aS c.name, aS c.name2, aS c.text])]⟩ sr5 ⟨⟨_, rfl, SubB.refl _⟩, ⟨_, rfl, SubB.refl _⟩, trivial⟩)
 <| .run 1 [b40 = b40] rt1 <|
 .pick [7, 12, 13] <| .run 3 [b1 = b1] rt1 <|
 .join J1 (b38, b40) trivial ⟨[(2, aB false), (3, .ptr 3 b38 0), (4, .ptr 4 b40 0), (5, aI dir), (6, aS s)], [(3, .box b38 24 [.sl 5 false (f.l.map nodA), aI f.next]), (4, .box b40 26 [aI c.kind, aI c.ino, aI c.to, aI c.at_, aI c.many, aS c.name, aS c.name2, aS c.text])]⟩ sr5 ⟨⟨_, rfl, SubB.refl _⟩, ⟨_, rfl, SubB.refl _⟩, trivial⟩)
 <| .new fun b41 => .fork <| .alt (.run 1 [b1 = b1] rt1 <|
 .pick [8, 10, 11, 12, 13] <| .new fun b42 => .run 4 [b42 = b42, b41 = b41] rt2 <|
 .join J1 (b42, b41) trivial ⟨[(2, aB false), (3, .ptr 3 b42 0), (4, .ptr 4 b41 0), (5, aI dir), (6, aS s)], [(3, .box b42 24 [.sl 5 false (f.l.map nodA), aI f.next]), (4, .box b41 26 [aI c.kind, aI c.ino, aI c.to, aI c.at_, aI c.many, aS c.name, aS c.name2, aS c.text])]⟩ sr5 ⟨⟨_, rfl, SubB.refl _⟩, ⟨_, rfl, SubB.refl _⟩, trivial⟩)
 <| .new fun b43 => .fork <| .alt (.run 1 [b1 = b1] rt1 <|
 .pick [10, 11, 12, 13] <| .run 4 [b43 = b43, b41 = b41] rt2 <|
 .join J1 (b43, b41) trivial ⟨[(2, aB false), (3, .ptr 3 b43 0), (4, .ptr 4 b41 0), (5, aI dir), (6, aS s)], [(3, .box b43 24 [.sl 5 false (f.l.map nodA), aI f.next]), (4, .box b41 26 [aI c.kind, aI c.ino, aI c.to, aI c.at_, aI c.many, aS c.name, aS c.name2, aS c.text])]⟩ sr5 ⟨⟨_, rfl, SubB.refl _⟩, ⟨_, rfl, SubB.refl _⟩, trivial⟩)
 <| .run 1 [b43 = b43] rt1 <|
 .fork <| .alt (.run 1 [b1 = b1] rt1 <|
 .pick [11, 12, 13] <| .run 3 [b41 = b41] rt1 <|
 .join J1 (b43, b41) trivial ⟨[(2, aB false), (3, .ptr 3 b43 0), (4, .ptr 4 b41 0), (5, aI dir), (6, aS s)], [(3, .box b43 24 [.sl 5 false (f.l.map nodA), aI f.next]), (4, .box b41 26 [aI c.kind, aI c.ino, aI c.to, aI c.at_, aI c.many, aS c.name, aS c.name2, aS c.text])]⟩ sr5 ⟨⟨_, rfl, SubB.refl _⟩, ⟨_, rfl, SubB.refl _⟩, trivial⟩)
 <| .run 1 [b41 = b41] rt1 <|
 .pick [7, 12, 13] <| .run 3 [b1 = b1] rt1 <|
 .join J1 (b43, b41) trivial ⟨[(2, aB false), (3, .ptr 3 b43 0), (4, .ptr 4 b41 0), (5, aI dir), (6, aS s)], [(3, .box b43 24 [.sl 5 false (f.l.map nodA), aI f.next]), (4, .box b41 26 [aI c.kind, aI c.ino, aI c.to, aI c.at_, aI c.many, aS c.name, aS c.name2, aS c.text])]⟩ sr5 ⟨⟨_, rfl, SubB.refl _⟩, ⟨_, rfl, SubB.refl _⟩, trivial⟩)
 <| .alt (.run 1 [b1 = b1] rt1 <|
 .fork <| .alt (.run 1 [b1 = b1] rt1 <|
 .fork <| .alt (.new fun b44 => .pick [9, 10, 11, 12, 13] <| .new fun b45 => .run 4 [b44 = b44, b45 = b45] rt2 <|
 .join J1 (b44, b45) trivial ⟨[(2, aB false), (3, .ptr 3 b44 0), (4, .ptr 4 b45 0), (5, aI dir), (6, aS s)], [(3, .box b44 24 [.sl 5 false (f.l.map nodA), aI f.next]), (4, .box b45 26 [aI c.kind, aI c.ino, aI c.to, aI c.at_, aI c.many, aS c.name, aS c.name2, aS c.text])]⟩ sr5 ⟨⟨_, rfl, SubB.refl _⟩, ⟨_, rfl, SubB.refl _⟩, trivial⟩)
 <| .new fun b46 => .pick [8, 10, 11, 12, 13] <| .new fun b47 => .run 4 [b47 = b47, b46 = b46] rt2 <|
 .join J1 (b47, b46) trivial ⟨[(2, aB false), (3, .ptr 3 b47 0), (4, .ptr 4 b46 0), (5, aI dir), (6, aS s)], [(3, .box b47 24 [.sl 5 false (f.l.map nodA), aI f.next]), (4, .box b46 26 [aI c.kind, aI c.ino, aI c.to, aI c.at_, aI c.many, aS c.name, aS c.name2, aS c.text])]⟩ sr5 ⟨⟨_, rfl, SubB.refl _⟩, ⟨_, rfl, SubB.refl _⟩, trivial⟩)
 <| .alt (.new fun b48 => .fork <| .alt (.run 1 [b1 = b1] rt1 <|
 .pick [9, 10, 11, 12, 13] <| .new fun b49 => .run 4 [b48 = b48, b49 = b49] rt2 <|
 .join J1 (b48, b49) trivial ⟨[(2, aB false), (3, .ptr 3 b48 0), (4, .ptr 4 b49 0), (5, aI dir), (6, aS s)], [(3, .box b48 24 [.sl 5 false (f.l.map nodA), aI f.next]), (4, .box b49 26 [aI c.kind, aI c.ino, aI c.to, aI c.at_, aI c.many, aS c.name, aS c.name2, aS c.text])]⟩ sr5 ⟨⟨_, rfl, SubB.refl _⟩, ⟨_, rfl, SubB.refl _⟩, trivial⟩)
 <| .new fun b50 => .fork <| .alt (.run 1 [b1 = b1] rt1 <|
 .pick [10, 11, 12, 13] <| .run 4 [b48 = b48, b50 = b50] rt2 <|
 .join J1 (b48, b50) trivial ⟨[(2, aB false), (3, .ptr 3 b48 0), (4, .ptr 4 b50 0), (5, aI dir), (6, aS s)], [(3, .box b48 24 [.sl 5 false (f.l.map nodA), aI f.next]), (4, .box b50 26 [aI c.kind, aI c.ino, aI c.to, aI c.at_, aI c.many, aS c.name, aS c.name2, aS c.text])]⟩ sr5 ⟨⟨_, rfl, SubB.refl _⟩, ⟨_, rfl, SubB.refl _⟩, trivial⟩)
 <| .run 1 [b48 = b48] rt1 <|
 .pick [3, 11, 12, 13] <| .run 4 [b1 = b1, b50 = b50] rt2 <|
 .join J1 (b48, b50) trivial ⟨[(2, aB false), (3, .ptr 3 b48 0), (4, .ptr 4 b50 0), (5, aI dir), (6, aS s)], [(3, .box b48 24 [.sl 5 false (f.l.map nodA), aI f.next]), (4, .box b50 26 [aI c.kind, aI c.ino, aI c.to, aI c.at_, aI c.many, aS c.name, aS c.name2, aS c.text])]⟩ sr5 ⟨⟨_, rfl, SubB.refl _⟩, ⟨_, rfl, SubB.refl _⟩, trivial⟩)
 <| .new fun b51 => .fork <| .alt (.run 1 [b1 = b1] rt1 <|
 .pick [8, 10, 11, 12, 13] <| .new fun b52 => .run 4 [b52 = b52, b51 = b51] rt2 <|
 .join J1 (b52, b51) trivial ⟨[(2, aB false), (3, .ptr 3 b52 0), (4, .ptr 4 b51 0), (5, aI dir), (6, aS s)], [(3, .box b52 24 [.sl 5 false (f.l.map nodA), aI f.next]), (4, .box b51 26 [aI c.kind, aI c.ino, aI c.to, aI c.at_, aI c.many, aS c.name, aS c.name2, aS c.text])]⟩ sr5 ⟨⟨_, rfl, SubB.refl _⟩, ⟨_, rfl, SubB.refl _⟩, trivial⟩)
 <| .new fun b53 => .fork <| .alt (.run 1 [b1 = b1] rt1 <|
 .pick [10, 11, 12, 13] <| .run 4 [b53 = b53, b51 = b51] rt2 <|
 .join J1 (b53, b51) trivial ⟨[(2, aB false), (3, .ptr 3 b53 0), (4, .ptr 4 b51 0), (5, aI dir), (6, aS s)], [(3, .box b53 24 [.sl 5 false (f.l.map nodA), aI f.next]), (4, .box b51 26 [aI c.kind, aI c.ino, aI c.to, aI c.at_, aI c.many, aS c.name, aS c.name2, aS c.text])]⟩ sr5 ⟨⟨_, rfl, SubB.refl _⟩, ⟨_, rfl, SubB.refl _⟩, trivial⟩)
 <| .run 1 [b53 = b53] rt1 <|
 .pick [3, 11, 12, 13] <| .run 4 [b1 = b1, b51 = b51] rt2 <|
 .join J1 (b53, b51) trivial ⟨[(2, aB false), (3, .ptr 3 b53 0), (4, .ptr 4 b51 0), (5, aI dir), (6, aS s)], [(3, .box b53 24 [.sl 5 false (f.l.map nodA), aI f.next]), (4, .box b51 26 [aI c.kind, aI c.ino, aI c.to, aI c.at_, aI c.many, aS c.name, aS c.name2, aS c.text])]⟩ sr5 ⟨⟨_, rfl, SubB.refl _⟩, ⟨_, rfl, SubB.refl _⟩, trivial⟩)
 <| .alt (.new fun b54 => .fork <| .alt (.run 1 [b1 = b1] rt1 <|
 .fork <| .alt (.run 1 [b1 = b1] rt1 <|
 .pick [9, 10, 11, 12, 13] <| .new fun b55 => .run 4 [b54 = b54, b55 = b55] rt2 <|
 .join J1 (b54, b55) trivial ⟨[(2, aB false), (3, .ptr 3 b54 0), (4, .ptr 4 b55 0), (5, aI dir), (6, aS s)], [(3, .box b54 24 [.sl 5 false (f.l.map nodA), aI f.next]), (4, .box b55 26 [aI c.kind, aI c.ino, aI c.to, aI c.at_, aI c.many, aS c.name, aS c.name2, aS c.text])]⟩ sr5 ⟨⟨_, rfl, SubB.refl _⟩, ⟨_, rfl, SubB.refl _⟩, trivial⟩)
 <| .new fun b56 => .fork <| .alt (.run 1 [b1 = b1] rt1 <|
 .pick [10, 11, 12, 13] <| .run 4 [b54 = b54, b56 = b56] rt2 <|
 .join J1 (b54, b56) trivial ⟨[(2, aB false), (3, .ptr 3 b54 0), (4, .ptr 4 b56 0), (5, aI dir), (6, aS s)], [(3, .box b54 24 [.sl 5 false (f.l.map nodA), aI f.next]), (4, .box b56 26 [aI c.kind, aI c.ino, aI c.to, aI c.at_, aI c.many, aS c.name, aS c.name2, aS c.text])]⟩ sr5 ⟨⟨_, rfl, SubB.refl _⟩, ⟨_, rfl, SubB.refl _⟩, trivial⟩)
 <| .run 1 [b54 = b54] rt1 <|
 .fork <| .alt (.run 1 [b1 = b1] rt1 <|
 .pick [11, 12, 13] <| .run 3 [b56 = b56] rt1 <|
 .join J1 (b54, b56) trivial ⟨[(2, aB false), (3, .ptr 3 b54 0), (4, .ptr 4 b56 0), (5, aI dir), (6, aS s)], [(3, .box b54 24 [.sl 5 false (f.l.map nodA), aI f.next]), (4, .box b56 26 [aI c.kind, aI c.ino, aI c.to, aI c.at_, aI c.many, aS c.name, aS c.name2, aS c.text])]⟩ sr5 ⟨⟨_, rfl, SubB.refl _⟩, ⟨_, rfl, SubB.refl _⟩, trivial⟩)
 <| .run 1 [b56 = b56] rt1 <|
 .pick [7, 12, 13] <| .run 3 [b1 = b1] rt1 <|
 .join J1 (b54, b56) trivial ⟨[(2, aB false), (3, .ptr 3 b54 0), (4, .ptr 4 b56 0), (5, aI dir), (6, aS s)], [(3, .box b54 24 [.sl 5 false (f.l.map nodA), aI f.next]), (4, .box b56 26 [aI c.kind, aI c.ino, aI c.to, aI c.at_, aI c.many, aS c.name, aS c.name2, aS c.text])]⟩ sr5 ⟨⟨_, rfl, SubB.refl _⟩, ⟨_, rfl, SubB.refl _⟩, trivial⟩)
 <| .alt (.run 1 [b1 = b1] rt1 <|
 .fork <| .alt (.run 1 [b1 = b1] rt1 <|
 .pick [9, 10, 11, 12, 13] <| .new fun b57 => .run 4 [b54 = b54, b57 = b57] rt2 <|
 .join J1 (b54, b57) trivial ⟨[(2, aB false), (3, .ptr 3 b54 0), (4, .ptr 4 b57 0), (5, aI dir), (6, aS s)], [(3, .box b54 24 [.sl 5 false (f.l.map nodA), aI f.next]), (4, .box b57 26 [aI c.kind, aI c.ino, aI c.to, aI c.at_, aI c.many, aS c.name, aS c.name2, aS c.text])]⟩ sr5 ⟨⟨_, rfl, SubB.refl _⟩, ⟨_, rfl, SubB.refl _⟩, trivial⟩)
 <| .new fun b58 => .fork <| .alt (.run 1 [b1 = b1] rt1 <|
 .pick [10, 11, 12, 13] <| .run 4 [b54 = b54, b58 = b58] rt2 <|
 .join J1 (b54, b58) trivial ⟨[(2, aB false), (3, .ptr 3 b54 0), (4, .ptr 4 b58 0), (5, aI dir), (6, aS s)], [(3, .box b54 24 [.sl 5 false (f.l.map nodA), aI f.next]), (4, .box b58 26 [aI c.kind, aI c.ino, aI c.to, aI c.at_, aI c.many, aS c.name, aS c.name2, aS c.text])]⟩ sr5 ⟨⟨_, rfl, SubB.refl _⟩, ⟨_, rfl, SubB.refl _⟩, trivial⟩)
 <| .run 1 [b54 = b54] rt1 <|
 .pick [3, 11, 12, 13] <| .run 4 [b1 = b1, b58 = b58] rt2 <|
 .join J1 (b54, b58) trivial ⟨[(2, aB false), (3, .ptr 3 b54 0), (4, .ptr 4 b58 0), (5, aI dir), (6, aS s)], [(3, .box b54 24 [.sl 5 false (f.l.map nodA), aI f.next]), (4, .box b58 26 [aI c.kind, aI c.ino, aI c.to, aI c.at_, aI c.many, aS c.name, aS c.name2, aS c.text])]⟩ sr5 ⟨⟨_, rfl, SubB.refl _⟩, ⟨_, rfl, SubB.refl _⟩, trivial⟩)
 <| .new fun b59 => .fork <| .alt (.run 1 [b1 = b1] rt1 <|
 .fork <| .alt (.run 1 [b1 = b1] rt1 <|
 .pick [10, 11, 12, 13] <| .run 4 [b54 = b54, b59 = b59] rt2 <|
 .join J1 (b54, b59) trivial ⟨[(2, aB false), (3, .ptr 3 b54 0), (4, .ptr 4 b59 0), (5, aI dir), (6, aS s)], [(3, .box b54 24 [.sl 5 false (f.l.map nodA), aI f.next]), (4, .box b59 26 [aI c.kind, aI c.ino, aI c.to, aI c.at_, aI c.many, aS c.name, aS c.name2, aS c.text])]⟩ sr5 ⟨⟨_, rfl, SubB.refl _⟩, ⟨_, rfl, SubB.refl _⟩, trivial⟩)
 <| .run 1 [b54 = b54] rt1 <|
 .fork <| .alt (.run 1 [b1 = b1] rt1 <|
 .pick [11, 12, 13] <| .run 3 [b59 = b59] rt1 <|
 .join J1 (b54, b59) trivial ⟨[(2, aB false), (3, .ptr 3 b54 0), (4, .ptr 4 b59 0), (5, aI dir), (6, aS s)], [(3, .box b54 24 [.sl 5 false (f.l.map nodA), aI f.next]), (4, .box b59 26 [aI c.kind, aI c.ino, aI c.to, aI c.at_, aI c.many, aS c.name, aS c.name2, aS c.text])]⟩ sr5 ⟨⟨_, rfl, SubB.refl _⟩, ⟨_, rfl, SubB.refl _⟩, trivial⟩)
 <| .run 1 [b59 = b59] rt1 <|
 .pick [7, 12, 13] <| .run 3 [b1 = b1] rt1 <|
 .join J1 (b54, b59) trivial ⟨[(2, aB false), (3, .ptr 3 b54 0), (4, .ptr 4 b59 0), (5, aI dir), (6, aS s)], [(3, .box b54 24 [.sl 5 false (f.l.map nodA), aI f.next]), (4, .box b59 26 [aI c.kind, aI c.ino, aI c.to, aI c.at_, aI c.many, aS c.name, aS c.name2, aS c.text])]⟩ sr5 ⟨⟨_, rfl, SubB.refl _⟩, ⟨_, rfl, SubB.refl _⟩, trivial⟩)
 <| .alt (.run 1 [b1 = b1] rt1 <|
 .fork <| .alt (.run 1 [b1 = b1] rt1 <|
 .pick [10, 11, 12, 13] <| .run 4 [b54 = b54, b59 = b59] rt2 <|
 .join J1 (b54, b59) trivial ⟨[(2, aB false), (3, .ptr 3 b54 0), (4, .ptr 4 b59 0), (5, aI dir), (6, aS s)], [(3, .box b54 24 [.sl 5 false (f.l.map nodA), aI f.next]), (4, .box b59 26 [aI c.kind, aI c.ino, aI c.to, aI c.at_, aI c.many, aS c.name, aS c.name2, aS c.text])]⟩ sr5 ⟨⟨_, rfl, SubB.refl _⟩, ⟨_, rfl, SubB.refl _⟩, trivial⟩)
 <| .run 1 [b54 = b54] rt1 <|
 .pick [3, 11, 12, 13] <| .run 4 [b1 = b1, b59 = b59] rt2 <|
 .join J1 (b54, b59) trivial ⟨[(2, aB false), (3, .ptr 3 b54 0), (4, .ptr 4 b59 0), (5, aI dir), (6, aS s)], [(3, .box b54 24 [.sl 5 false (f.l.map nodA), aI f.next]), (4, .box b59 26 [aI c.kind, aI c.ino, aI c.to, aI c.at_, aI c.many, aS c.name, aS c.name2, aS c.text])]⟩ sr5 ⟨⟨_, rfl, SubB.refl _⟩, ⟨_, rfl, SubB.refl _⟩, trivial⟩)
 <| .run 1 [b54 = b54] rt1 <|
 .pick [3] <| .run 1 [b1 = b1] rt1 <|
 .fork <| .alt (.run 1 [b1 = b1] rt1 <|
 .pick [11, 12, 13] <| .run 3 [b59 = b59] rt1 <|
 .join J1 (b54, b59) trivial ⟨[(2, aB false), (3, .ptr 3 b54 0), (4, .ptr 4 b59 0), (5, aI dir), (6, aS s)], [(3, .box b54 24 [.sl 5 false (f.l.map nodA), aI f.next]), (4, .box b59 26 [aI c.kind, aI c.ino, aI c.to, aI c.at_, aI c.many, aS c.name, aS c.name2, aS c.text])]⟩ sr5 ⟨⟨_, rfl, SubB.refl _⟩, ⟨_, rfl, SubB.refl _⟩, trivial⟩)
 <| .run 1 [b59 = b59] rt1 <|
 .pick [7, 12, 13] <| .run 3 [b1 = b1] rt1 <|
 .join J1 (b54, b59) trivial ⟨[(2, aB false), (3, .ptr 3 b54 0), (4, .ptr 4 b59 0), (5, aI dir), (6, aS s)], [(3, .box b54 24 [.sl 5 false (f.l.map nodA), aI f.next]), (4, .box b59 26 [aI c.kind, aI c.ino, aI c.to, aI c.at_, aI c.many, aS c.name, aS c.name2, aS c.text])]⟩ sr5 ⟨⟨_, rfl, SubB.refl _⟩, ⟨_, rfl, SubB.refl _⟩, trivial⟩)
 <| .new fun b60 => .fork <| .alt (.run 1 [b1 = b1] rt1 <|
 .fork <| .alt (.run 1 [b1 = b1] rt1 <|
 .pick [8, 10, 11, 12, 13] <| .new fun b61 => .run 4 [b61 = b61, b60 = b60] rt2 <|
 .join J1 (b61, b60) trivial ⟨[(2, aB false), (3, .ptr 3 b61 0), (4, .ptr 4 b60 0), (5, aI dir), (6, aS s)], [(3, .box b61 24 [.sl 5 false (f.l.map nodA), aI f.next]), (4, .box b60 26 [aI c.kind, aI c.ino, aI c.to, aI c.at_, aI c.many, aS c.name, aS c.name2, aS c.text])]⟩ sr5 ⟨⟨_, rfl, SubB.refl _⟩, ⟨_, rfl, SubB.refl _⟩, trivial⟩)
 <| .new fun b62 => .fork <| .alt (.run 1 [b1 = b1] rt1 <|
 .pick [10, 11, 12, 13] <| .run 4 [b62 = b62, b60 = b60] rt2 <|
 .join J1 (b62, b60) trivial ⟨[(2, aB false), (3, .ptr 3 b62 0), (4, .ptr 4 b60 0), (5, aI dir), (6, aS s)], [(3, .box b62 24 [.sl 5 false (f.l.map nodA), aI f.next]), (4, .box b60 26 [aI c.kind, aI c.ino, aI c.to, aI c.at_, aI c.many, aS c.name, aS c.name2, aS c.text])]⟩ sr5 ⟨⟨_, rfl, SubB.refl _⟩, ⟨_, rfl, SubB.refl _⟩, trivial⟩)
 <| .run 1 [b62 = b62] rt1 <|
 .fork <| .alt (.run 1 [b1 = b1] rt1 <|
 .pick [11, 12, 13] <| .run 3 [b60 = b60] rt1 <|
 .join J1 (b62, b60) trivial ⟨[(2, aB false), (3, .ptr 3 b62 0), (4, .ptr 4 b60 0), (5, aI dir), (6, aS s)], [(3, .box b62 24 [.sl 5 false (f.l.map nodA), aI f.next]), (4, .box b60 26 [aI c.kind, aI c.ino, aI c.to, aI c.at_, aI c.many, aS c.name, aS c.name2, aS c.text])]⟩ sr5 ⟨⟨_, rfl, SubB.refl _⟩, ⟨_, rfl, SubB.refl _⟩, trivial⟩)
 <| .run 1 [b60 = b60] rt1 <|
 .pick [7, 12, 13] <| .run 3 [b1 = b1] rt1 <|
 .join J1 (b62, b60) trivial ⟨[(2, aB false), (3, .ptr 3 b62 0), (4, .ptr 4 b60 0), (5, aI dir), (6, aS s)], [(3, .box b62 24 [.sl 5 false (f.l.map nodA), aI f.next]), (4, .box b60 26 [aI c.kind, aI c.ino, aI c.to, aI c.at_, aI c.many, aS c.name, aS c.name2, aS c.text])]⟩ sr5 ⟨⟨_, rfl, SubB.refl _⟩, ⟨_, rfl, SubB.refl _⟩, trivial⟩)
 <| .alt (.run 1 [b1 = b1] rt1 <|
 .fork <| .alt (.run 1 [b1 = b1] rt1 <|
 .pick [8, 10, 11, 12, 13] <| .new fun b63 => .run 4 [b63 = b63, b60 = b60] rt2 <|
 .join J1 (b63, b60) trivial ⟨[(2, aB false), (3, .ptr 3 b63 0), (4, .ptr 4 b60 0), (5, aI dir), (6, aS s)], [(3, .box b63 24 [.sl 5 false (f.l.map nodA), aI f.next]), (4, .box b60 26 [aI c.kind, aI c.ino, aI c.to, aI c.at_, aI c.many, aS c.name, aS c.name2, aS c.text])]⟩ sr5 ⟨⟨_, rfl, SubB.refl _⟩, ⟨_, rfl, SubB.refl _⟩, trivial⟩)
 <| .new fun b64 => .fork <| .alt (.run 1 [b1 = b1] rt1 <|
 .pick [10, 11, 12, 13] <| .run 4 [b64 = b64, b60 = b60] rt2 <|
 .join J1 (b64, b60) trivial ⟨[(2, aB false), (3, .ptr 3 b64 0), (4, .ptr 4 b60 0), (5, aI dir), (6, aS s)], [(3, .box b64 24 [.sl 5 false (f.l.map nodA), aI f.next]), (4, .box b60 26 [aI c.kind, aI c.ino, aI c.to, aI c.at_, aI c.many, aS c.name, aS c.name2, aS c.text])]⟩ sr5 ⟨⟨_, rfl, SubB.refl _⟩, ⟨_, rfl, SubB.refl _⟩, trivial⟩)
 <| .run 1 [b64 = b64] rt1 <|
 .pick [3, 11, 12, 13] <| .run 4 [b1 = b1, b60 = b60] rt2 <|
 .join J1 (b64, b60) trivial ⟨[(2, aB false), (3, .ptr 3 b64 0), (4, .ptr 4 b60 0), (5, aI dir), (6, aS s)], [(3, .box b64 24 [.sl 5 false (f.l.map nodA), aI f.next]), (4, .box b60 26 [aI c.kind, aI c.ino, aI c.to, aI c.at_, aI c.many, aS c.name, aS c.name2, aS c.text])]⟩ sr5 ⟨⟨_, rfl, SubB.refl _⟩, ⟨_, rfl, SubB.refl _⟩, trivial⟩)
 <| .new fun b65 => .fork <| .alt (.run 1 [b1 = b1] rt1 <|
 .fork <| .alt (.run 1 [b1 = b1] rt1 <|
 .pick [10, 11, 12, 13] <| .run 4 [b65 = b65, b60 = b60] rt2 <|
 .join J1 (b65, b60) trivial ⟨[(2, aB false), (3, .ptr 3 b65 0), (4, .ptr 4 b60 0), (5, aI dir), (6, aS s)], [(3, .box b65 24 [.sl 5 false (f.l.map nodA), aI f.next]), (4, .box b60 26 [aI c.kind, aI c.ino, aI c.to, aI c.at_, aI c.many, aS c.name, aS c.name2, aS c.text])]⟩ sr5 ⟨⟨_, rfl, SubB.refl _⟩, ⟨_, rfl, SubB.refl _⟩, trivial⟩)
 <| .run 1 [b65 = b65] rt1 <|
 .fork <| .alt (.run 1 [b1 = b1] rt1 <|
 .pick [11, 12, 13] <| .run 3 [b60 = b60] rt1 <|
 .join J1 (b65, b60) trivial ⟨[(2, aB false), (3, .ptr 3 b65 0), (4, .ptr 4 b60 0), (5, aI dir), (6, aS s)], [(3, .box b65 24 [.sl 5 false (f.l.map nodA), aI f.next]), (4, .box b60 26 [aI c.kind, aI c.ino, aI c.to, aI c.at_, aI c.many, aS c.name, aS c.name2, aS c.text])]⟩ sr5 ⟨⟨_, rfl, SubB.refl _⟩, ⟨_, rfl, SubB.refl _⟩, trivial⟩)
 <| .run 1 [b60 = b60] rt1 <|
 .pick [7, 12, 13] <| .run 3 [b1 = b1] rt1 <|
 .join J1 (b65, b60) trivial ⟨[(2, aB false), (3, .ptr 3 b65 0), (4, .ptr 4 b60 0), (5, aI dir), (6, aS s)], [(3, .box b65 24 [.sl 5 false (f.l.map nodA), aI f.next]), (4, .box b60 26 [aI c.kind, aI c.ino, aI c.to, aI c.at_, aI c.many, aS c.name, aS c.name2, aS c.text])]⟩ sr5 ⟨⟨_, rfl, SubB.refl _⟩, ⟨_, rfl, SubB.refl _⟩, trivial⟩)
 <| .alt (.run 1 [b1 = b1] rt1 <|
 .fork <| .alt (.run 1 [b1 = b1] rt1 <|
 .pick [10, 11, 12, 13] <| .run 4 [b65 = b65, b60 = b60] rt2 <|
 .join J1 (b65, b60) trivial ⟨[(2, aB false), (3, .ptr 3 b65 0), (4, .ptr 4 b60 0), (5, aI dir), (6, aS s)], [(3, .box b65 24 [.sl 5 false (f.l.map nodA), aI f.next]), (4, .box b60 26 [aI c.kind, aI c.ino, aI c.to, aI c.at_, aI c.many, aS c.name, aS c.name2, aS c.text])]⟩ sr5 ⟨⟨_, rfl, SubB.refl _⟩, ⟨_, rfl, SubB.refl _⟩, trivial⟩)
 <| .run 1 [b65 = b65] rt1 <|
 .pick [3, 11, 12, 13] <| .run 4 [b1 = b1, b60 = b60] rt2 <|
 .join J1 (b65, b60) trivial ⟨[(2, aB false), (3, .ptr 3 b65 0), (4, .ptr 4 b60 0), (5, aI dir), (6, aS s)], [(3, .box b65 24 [.sl 5 false (f.l.map nodA), aI f.next]), (4, .box b60 26 [aI c.kind, aI c.ino, aI c.to, aI c.at_, aI c.many, aS c.name, aS c.name2, aS c.text])]⟩ sr5 ⟨⟨_, rfl, SubB.refl _⟩, ⟨_, rfl, SubB.refl _⟩, trivial⟩)
 <| .run 1 [b65 = b65] rt1 <|
 .pick [3] <| .run 1 [b1 = b1] rt1 <|
 .fork <| .alt (.run 1 [b1 = b1] rt1 <|
 .pick [11, 12, 13] <| .run 3 [b60 = b60] rt1 <|
 .join J1 (b65, b60) trivial ⟨[(2, aB false), (3, .ptr 3 b65 0), (4, .ptr 4 b60 0), (5, aI dir), (6, aS s)], [(3, .box b65 24 [.sl 5 false (f.l.map nodA), aI f.next]), (4, .box b60 26 [aI c.kind, aI c.ino, aI c.to, aI c.at_, aI c.many, aS c.name, aS c.name2, aS c.text])]⟩ sr5 ⟨⟨_, rfl, SubB.refl _⟩, ⟨_, rfl, SubB.refl _⟩, trivial⟩)
 <| .run 1 [b60 = b60] rt1 <|
 .pick [7, 12, 13] <| .run 3 [b1 = b1] rt1 <|
 .join J1 (b65, b60) trivial ⟨[(2, aB false), (3, .ptr 3 b65 0), (4, .ptr 4 b60 0), (5, aI dir), (6, aS s)], [(3, .box b65 24 [.sl 5 false (f.l.map nodA), aI f.next]), (4, .box b60 26 [aI c.kind, aI c.ino, aI c.to, aI c.at_, aI c.many, aS c.name, aS c.name2, aS c.text])]⟩ sr5 ⟨⟨_, rfl, SubB.refl _⟩, ⟨_, rfl, SubB.refl _⟩, trivial⟩)
 <| .alt (.run 1 [b1 = b1] rt1 <|
 .fork <| .alt (.run 1 [b1 = b1] rt1 <|
 .fork <| .alt (.run 1 [b1 = b1] rt1 <|
 .fork <| .alt (.new fun b66 => .pick [9, 10, 11, 12, 13] <| .new fun b67 => .run 4 [b66 = b66, b67 = b67] rt2 <|
 .join J1 (b66, b67) trivial ⟨[(2, aB false), (3, .ptr 3 b66 0), (4, .ptr 4 b67 0), (5, aI dir), (6, aS s)], [(3, .box b66 24 [.sl 5 false (f.l.map nodA), aI f.next]), (4, .box b67 26 [aI c.kind, aI c.ino, aI c.to, aI c.at_, aI c.many, aS c.name, aS c.name2, aS c.text])]⟩ sr5 ⟨⟨_, rfl, SubB.refl _⟩, ⟨_, rfl, SubB.refl _⟩, trivial⟩)
 <| .new fun b68 => .pick [8, 10, 11, 12, 13] <| .new fun b69 => .run 4 [b69 = b69, b68 = b68] rt2 <|
 .join J1 (b69, b68) trivial ⟨[(2, aB false), (3, .ptr 3 b69 0), (4, .ptr 4 b68 0), (5, aI dir), (6, aS s)], [(3, .box b69 24 [.sl 5 false (f.l.map nodA), aI f.next]), (4, .box b68 26 [aI c.kind, aI c.ino, aI c.to, aI c.at_, aI c.many, aS c.name, aS c.name2, aS c.text])]⟩ sr5 ⟨⟨_, rfl, SubB.refl _⟩, ⟨_, rfl, SubB.refl _⟩, trivial⟩)
 <| .alt (.new fun b70 => .fork <| .alt (.run 1 [b1 = b1] rt1 <|
 .pick [9, 10, 11, 12, 13] <| .new fun b71 => .run 4 [b70 = b70, b71 = b71] rt2 <|
 .join J1 (b70, b71) trivial ⟨[(2, aB false), (3, .ptr 3 b70 0), (4, .ptr 4 b71 0), (5, aI dir), (6, aS s)], [(3, .box b70 24 [.sl 5 false (f.l.map nodA), aI f.next]), (4, .box b71 26 [aI c.kind, aI c.ino, aI c.to, aI c.at_, aI c.many, aS c.name, aS c.name2, aS c.text])]⟩ sr5 ⟨⟨_, rfl, SubB.refl _⟩, ⟨_, rfl, SubB.refl _⟩, trivial⟩)
 <| .new fun b72 => .fork <| .alt (.run 1 [b1 = b1] rt1 <|
 .pick [10, 11, 12, 13] <| .run 4 [b70 = b70, b72 = b72] rt2 <|
 .join J1 (b70, b72) trivial ⟨[(2, aB false), (3, .ptr 3 b70 0), (4, .ptr 4 b72 0), (5, aI dir), (6, aS s)], [(3, .box b70 24 [.sl 5 false (f.l.map nodA), aI f.next]), (4, .box b72 26 [aI c.kind, aI c.ino, aI c.to, aI c.at_, aI c.many, aS c.name, aS c.name2, aS c.text])]⟩ sr5 ⟨⟨_, rfl, SubB.refl _⟩, ⟨_, rfl, SubB.refl _⟩, trivial⟩)
 <| .run 1 [b70 = b70] rt1 <|
 .fork <| .alt (.run 1 [b1 = b1] rt1 <|
 .pick [11, 12, 13] <| .run 3 [b72 = b72] rt1 <|
 .join J1 (b70, b72) trivial ⟨[(2, aB false), (3, .ptr 3 b70 0), (4, .ptr 4 b72 0), (5, aI dir), (6, aS s)], [(3, .box b70 24 [.sl 5 false (f.l.map nodA), aI f.next]), (4, .box b72 26 [aI c.kind, aI c.ino, aI c.to, aI c.at_, aI c.many, aS c.name, aS c.name2, aS c.text])]⟩ sr5 ⟨⟨_, rfl, SubB.refl _⟩, ⟨_, rfl, SubB.refl _⟩, trivial⟩)
 <| .run 1 [b72 = b72] rt1 <|
 .pick [5, 12, 13] <| .run 3 [b1 = b1] rt1 <|
 .join J1 (b70, b72) trivial ⟨[(2, aB false), (3, .ptr 3 b70 0), (4, .ptr 4 b72 0), (5, aI dir), (6, aS s)], [(3, .box b70 24 [.sl 5 false (f.l.map nodA), aI f.next]), (4, .box b72 26 [aI c.kind, aI c.ino, aI c.to, aI c.at_, aI c.many, aS c.name, aS c.name2, aS c.text])]⟩ sr5 ⟨⟨_, rfl, SubB.refl _⟩, ⟨_, rfl, SubB.refl _⟩, trivial⟩)
 <| .new fun b73 => .fork <| .alt (.run 1 [b1 = b1] rt1 <|
 .pick [8, 10, 11, 12, 13] <| .new fun b74 => .run 4 [b74 = b74, b73 = b73] rt2 <|
 .join J1 (b74, b73) trivial ⟨[(2, aB false), (3, .ptr 3 b74 0), (4, .ptr 4 b73 0), (5, aI dir), (6, aS s)], [(3, .box b74 24 [.sl 5 false (f.l.map nodA), aI f.next]), (4, .box b73 26 [aI c.kind, aI c.ino, aI c.to, aI c.at_, aI c.many, aS c.name, aS c.name2, aS c.text])]⟩ sr5 ⟨⟨_, rfl, SubB.refl _⟩, ⟨_, rfl, SubB.refl _⟩, trivial⟩)
 <| .new fun b75 => .fork <| .alt (.run 1 [b1 = b1] rt1 <|
 .pick [10, 11, 12, 13] <| .run 4 [b75 = b75, b73 = b73] rt2 <|
 .join J1 (b75, b73) trivial ⟨[(2, aB false), (3, .ptr 3 b75 0), (4, .ptr 4 b73 0), (5, aI dir), (6, aS s)], [(3, .box b75 24 [.sl 5 false (f.l.map nodA), aI f.next]), (4, .box b73 26 [aI c.kind, aI c.ino, aI c.to, aI c.at_, aI c.many, aS c.name, aS c.name2, aS c.text])]⟩ sr5 ⟨⟨_, rfl, SubB.refl _⟩, ⟨_, rfl, SubB.refl _⟩, trivial⟩)
 <| .run 1 [b75 = b75] rt1 <|
 .fork <| .alt (.run 1 [b1 = b1] rt1 <|
 .pick [11, 12, 13] <| .run 3 [b73 = b73] rt1 <|
 .join J1 (b75, b73) trivial ⟨[(2, aB false), (3, .ptr 3 b75 0), (4, .ptr 4 b73 0), (5, aI dir), (6, aS s)], [(3, .box b75 24 [.sl 5 false (f.l.map nodA), aI f.next]), (4, .box b73 26 [aI c.kind, aI c.ino, aI c.to, aI c.at_, aI c.many, aS c.name, aS c.name2, aS c.text])]⟩ sr5 ⟨⟨_, rfl, SubB.refl _⟩, ⟨_, rfl, SubB.refl _⟩, trivial⟩)
 <| .run 1 [b73 = b73] rt1 <|
 .pick [5, 12, 13] <| .run 3 [b1 = b1] rt1 <|
 .join J1 (b75, b73) trivial ⟨[(2, aB false), (3, .ptr 3 b75 0), (4, .ptr 4 b73 0), (5, aI dir), (6, aS s)], [(3, .box b75 24 [.sl 5 false (f.l.map nodA), aI f.next]), (4, .box b73 26 [aI c.kind, aI c.ino, aI c.to, aI c.at_, aI c.many, aS c.name, aS c.name2, aS c.text])]⟩ sr5 ⟨⟨_, rfl, SubB.refl _⟩, ⟨_, rfl, SubB.refl _⟩, trivial⟩)
 <| .alt (.run 1 [b1 = b1] rt1 <|
 .fork <| .alt (.run 1 [b1 = b1] rt1 <|
 .fork <| .alt (.new fun b76 => .pick [9, 10, 11, 12, 13] <| .new fun b77 => .run 4 [b76 = b76, b77 = b77] rt2 <|
 .join J1 (b76, b77) trivial ⟨[(2, aB false), (3, .ptr 3 b76 0), (4, .ptr 4 b77 0), (5, aI dir), (6, aS s)], [(3, .box b76 24 [.sl 5 false (f.l.map nodA), aI f.next]), (4, .box b77 26 [aI c.kind, aI c.ino, aI c.to, aI c.at_, aI c.many, aS c.name, aS c.name2, aS c.text])]⟩ sr5 ⟨⟨_, rfl, SubB.refl _⟩, ⟨_, rfl, SubB.refl _⟩, trivial⟩)
 <| .new fun b78 => .pick [8, 10, 11, 12, 13] <| .new fun b79 => .run 4 [b79 = b79, b78 = b78] rt2 <|
 .join J1 (b79, b78) trivial ⟨[(2, aB false), (3, .ptr 3 b79 0), (4, .ptr 4 b78 0), (5, aI dir), (6, aS s)], [(3, .box b79 24 [.sl 5 false (f.l.map nodA), aI f.next]), (4, .box b78 26 [aI c.kind, aI c.ino, aI c.to, aI c.at_, aI c.many, aS c.name, aS c.name2, aS c.text])]⟩ sr5 ⟨⟨_, rfl, SubB.refl _⟩, ⟨_, rfl, SubB.refl _⟩, trivial⟩)
 <| .alt (.new fun b80 => .fork <| .alt (.run 1 [b1 = b1] rt1 <|
 .pick [9, 10, 11, 12, 13] <| .new fun b81 => .run 4 [b80 = b80, b81 = b81] rt2 <|
 .join J1 (b80, b81) trivial ⟨[(2, aB false), (3, .ptr 3 b80 0), (4, .ptr 4 b81 0), (5, aI dir), (6, aS s)], [(3, .box b80 24 [.sl 5 false (f.l.map nodA), aI f.next]), (4, .box b81 26 [aI c.kind, aI c.ino, aI c.to, aI c.at_, aI c.many, aS c.name, aS c.name2, aS c.text])]⟩ sr5 ⟨⟨_, rfl, SubB.refl _⟩, ⟨_, rfl, SubB.refl _⟩, trivial⟩)
 <| .new fun b82 => .fork <| .alt (.run 1 [b1 = b1] rt1 <|
 .pick [10, 11, 12, 13] <| .run 4 [b80 = b80, b82 = b82] rt2 <|
 .join J1 (b80, b82) trivial ⟨[(2, aB false), (3, .ptr 3 b80 0), (4, .ptr 4 b82 0), (5, aI dir), (6, aS s)], [(3, .box b80 24 [.sl 5 false (f.l.map nodA), aI f.next]), (4, .box b82 26 [aI c.kind, aI c.ino, aI c.to, aI c.at_, aI c.many, aS c.name, aS c.name2, aS c.text])]⟩ sr5 ⟨⟨_, rfl, SubB.refl _⟩, ⟨_, rfl, SubB.refl _⟩, trivial⟩)
 <| .run 1 [b80 = b80] rt1 <|
 .pick [3, 11, 12, 13] <| .run 4 [b1 = b1, b82 = b82] rt2 <|
 .join J1 (b80, b82) trivial ⟨[(2, aB false), (3, .ptr 3 b80 0), (4, .ptr 4 b82 0), (5, aI dir), (6, aS s)], [(3, .box b80 24 [.sl 5 false (f.l.map nodA), aI f.next]), (4, .box b82 26 [aI c.kind, aI c.ino, aI c.to, aI c.at_, aI c.many, aS c.name, aS c.name2, aS c.text])]⟩ sr5 ⟨⟨_, rfl, SubB.refl _⟩, ⟨_, rfl, SubB.refl _⟩, trivial⟩)
 <| .new fun b83 => .fork <| .alt (.run 1 [b1 = b1] rt1 <|
 .pick [8, 10, 11, 12, 13] <| .new fun b84 => .run 4 [b84 = b84, b83 = b83] rt2 <|
 .join J1 (b84, b83) trivial ⟨[(2, aB false), (3, .ptr 3 b84 0), (4, .ptr 4 b83 0), (5, aI dir), (6, aS s)], [(3, .box b84 24 [.sl 5 false (f.l.map nodA), aI f.next]), (4, .box b83 26 [aI c.kind, aI c.ino, aI c.to, aI c.at_, aI c.many, aS c.name, aS c.name2, aS c.text])]⟩ sr5 ⟨⟨_, rfl, SubB.refl _⟩, ⟨_, rfl, SubB.refl _⟩, trivial⟩)
 <| .new fun b85 => .fork <| .alt (.run 1 [b1 = b1] rt1 <|
 .pick [10, 11, 12, 13] <| .run 4 [b85 = b85, b83 = b83] rt2 <|
 .join J1 (b85, b83) trivial ⟨[(2, aB false), (3, .ptr 3 b85 0), (4, .ptr 4 b83 0), (5, aI dir), (6, aS s)], [(3, .box b85 24 [.sl 5 false (f.l.map nodA), aI f.next]), (4, .box b83 26 [aI c.kind, aI c.ino, aI c.to, aI c.at_, aI c.many, aS c.name, aS c.name2, aS c.text])]⟩ sr5 ⟨⟨_, rfl, SubB.refl _⟩, ⟨_, rfl, SubB.refl _⟩, trivial⟩)
 <| .run 1 [b85 = b85] rt1 <|
 .pick [3, 11, 12, 13] <| .run 4 [b1 = b1, b83 = b83] rt2 <|
 .join J1 (b85, b83) trivial ⟨[(2, aB false), (3, .ptr 3 b85 0), (4, .ptr 4 b83 0), (5, aI dir), (6, aS s)], [(3, .box b85 24 [.sl 5 false (f.l.map nodA), aI f.next]), (4, .box b83 26 [aI c.kind, aI c.ino, aI c.to, aI c.at_, aI c.many, aS c.name, aS c.name2, aS c.text])]⟩ sr5 ⟨⟨_, rfl, SubB.refl _⟩, ⟨_, rfl, SubB.refl _⟩, trivial⟩)
 <| .alt (.new fun b86 => .fork <| .alt (.run 1 [b1 = b1] rt1 <|
 .fork <| .alt (.run 1 [b1 = b1] rt1 <|
 .pick [9, 10, 11, 12, 13] <| .new fun b87 => .run 4 [b86 = b86, b87 = b87] rt2 <|
 .join J1 (b86, b87) trivial ⟨[(2, aB false), (3, .ptr 3 b86 0), (4, .ptr 4 b87 0), (5, aI dir), (6, aS s)], [(3, .box b86 24 [.sl 5 false (f.l.map nodA), aI f.next]), (4, .box b87 26 [aI c.kind, aI c.ino, aI c.to, aI c.at_, aI c.many, aS c.name, aS c.name2, aS c.text])]⟩ sr5 ⟨⟨_, rfl, SubB.refl _⟩, ⟨_, rfl, SubB.refl _⟩, trivial⟩)
 <| .new fun b88 => .fork <| .alt (.run 1 [b1 = b1] rt1 <|
 .pick [10, 11, 12, 13] <| .run 4 [b86 = b86, b88 = b88] rt2 <|
 .join J1 (b86, b88) trivial ⟨[(2, aB false), (3, .ptr 3 b86 0), (4, .ptr 4 b88 0), (5, aI dir), (6, aS s)], [(3, .box b86 24 [.sl 5 false (f.l.map nodA), aI f.next]), (4, .box b88 26 [aI c.kind, aI c.ino, aI c.to, aI c.at_, aI c.many, aS c.name, aS c.name2, aS c.text])]⟩ sr5 ⟨⟨_, rfl, SubB.refl _⟩, ⟨_, rfl, SubB.refl _⟩, trivial⟩)
 <| .run 1 [b86 = b86] rt1 <|
 .fork <| .alt (.run 1 [b1 = b1] rt1 <|
 .pick [11, 12, 13] <| .run 3 [b88 = b88] rt1 <|
 .join J1 (b86, b88) trivial ⟨[(2, aB false), (3, .ptr 3 b86 0), (4, .ptr 4 b88 0), (5, aI dir), (6, aS s)], [(3, .box b86 24 [.sl 5 false (f.l.map nodA), aI f.next]), (4, .box b88 26 [aI c.kind, aI c.ino, aI c.to, aI c.at_, aI c.many, aS c.name, aS c.name2, aS c.text])]⟩ sr5 ⟨⟨_, rfl, SubB.refl _⟩, ⟨_, rfl, SubB.refl _⟩, trivial⟩)
 <| .run 1 [b88 = b88] rt1 <|
 .pick [5, 12, 13] <| .run 3 [b1 = b1] rt1 <|
 .join J1 (b86, b88) trivial ⟨[(2, aB false), (3, .ptr 3 b86 0), (4, .ptr 4 b88 0), (5, aI dir), (6, aS s)], [(3, .box b86 24 [.sl 5 false (f.l.map nodA), aI f.next]), (4, .box b88 26 [aI c.kind, aI c.ino, aI c.to, aI c.at_, aI c.many, aS c.name, aS c.name2, aS c.text])]⟩ sr5 ⟨⟨_, rfl, SubB.refl _⟩, ⟨_, rfl, SubB.refl _⟩, trivial⟩)
 <| .alt (.run 1 [b1 = b1] rt1 <|
 .fork <| .alt (.run 1 [b1 = b1] rt1 <|
 .pick [9, 10, 11, 12, 13] <| .new fun b89 => .run 4 [b86 = b86, b89 = b89] rt2 <|
 .join J1 (b86, b89) trivial ⟨[(2, aB false), (3, .ptr 3 b86 0), (4, .ptr 4 b89 0), (5, aI dir), (6, aS s)], [(3, .box b86 24 [.sl 5 false (f.l.map nodA), aI f.next]), (4, .box b89 26 [aI c.kind, aI c.ino, aI c.to, aI c.at_, aI c.many, aS c.name, aS c.name2, aS c.text])]⟩ sr5 ⟨⟨_, rfl, SubB.refl _⟩, ⟨_, rfl, SubB.refl _⟩, trivial⟩)
 <| .new fun b90 => .fork <| .alt (.run 1 [b1 = b1] rt1 <|
 .pick [10, 11, 12, 13] <| .run 4 [b86 = b86, b90 = b90] rt2 <|
 .join J1 (b86, b90) trivial ⟨[(2, aB false), (3, .ptr 3 b86 0), (4, .ptr 4 b90 0), (5, aI dir), (6, aS s)], [(3, .box b86 24 [.sl 5 false (f.l.map nodA), aI f.next]), (4, .box b90 26 [aI c.kind, aI c.ino, aI c.to, aI c.at_, aI c.many, aS c.name, aS c.name2, aS c.text])]⟩ sr5 ⟨⟨_, rfl, SubB.refl _⟩, ⟨_, rfl, SubB.refl _⟩, trivial⟩)
 <| .run 1 [b86 = b86] rt1 <|
 .pick [3, 11, 12, 13] <| .run 4 [b1 = b1, b90 = b90] rt2 <|
 .join J1 (b86, b90) trivial ⟨[(2, aB false), (3, .ptr 3 b86 0), (4, .ptr 4 b90 0), (5, aI dir), (6, aS s)], [(3, .box b86 24 [.sl 5 false (f.l.map nodA), aI f.next]), (4, .box b90 26 [aI c.kind, aI c.ino, aI c.to, aI c.at_, aI c.many, aS c.name, aS c.name2, aS c.text])]⟩ sr5 ⟨⟨_, rfl, SubB.refl _⟩, ⟨_, rfl, SubB.refl _⟩, trivial⟩)
 <| .new fun b91 => .fork <| .alt (.run 1 [b1 = b1] rt1 <|
 .fork <| .alt (.run 1 [b1 = b1] rt1 <|
 .pick [10, 11, 12, 13] <| .run 4 [b86 = b86, b91 = b91] rt2 <|
 .join J1 (b86, b91) trivial ⟨[(2, aB false), (3, .ptr 3 b86 0), (4, .ptr 4 b91 0), (5, aI dir), (6, aS s)], [(3, .box b86 24 [.sl 5 false (f.l.map nodA), aI f.next]), (4, .box b91 26 [aI c.kind, aI c.ino, aI c.to, aI c.at_, aI c.many, aS c.name, aS c.name2, aS c.text])]⟩ sr5 ⟨⟨_, rfl, SubB.refl _⟩, ⟨_, rfl, SubB.refl _⟩, trivial⟩)
 <| .run 1 [b86 = b86] rt1 <|
 .fork <| .alt (.run 1 [b1 = b1] rt1 <|
 .pick [11, 12, 13] <| .run 3 [b91 = b91] rt1 <|
 .join J1 (b86, b91) trivial ⟨[(2, aB false), (3, .ptr 3 b86 0), (4, .ptr 4 b91 0), (5, aI dir), (6, aS s)], [(3, .box b86 24 [.sl 5 false (f.l.map nodA), aI f.next]), (4, .box b91 26 [aI c.kind, aI c.ino, aI c.to, aI c.at_, aI c.many, aS c.name, aS c.name2, aS c.text])]⟩ sr5 ⟨⟨_, rfl, SubB.refl _⟩, ⟨_, rfl, SubB.refl _⟩, trivial⟩)
 <| .run 1 [b91 = b91] rt1 <|
 .pick [5, 12, 13] <| .run 3 [b1 = b1] rt1 <|
 .join J1 (b86, b91) trivial ⟨[(2, aB false), (3, .ptr 3 b86 0), (4, .ptr 4 b91 0), (5, aI dir), (6, aS s)], [(3, .box b86 24 [.sl 5 false (f.l.map nodA), aI f.next]), (4, .box b91 26 [aI c.kind, aI c.ino, aI c.to, aI c.at_, aI c.many, aS c.name, aS c.name2, aS c.text])]⟩ sr5 ⟨⟨_, rfl, SubB.refl _⟩, ⟨_, rfl, SubB.refl _⟩, trivial⟩)
 <| .alt (.run 1 [b1 = b1] rt1 <|
 .fork <| .alt (.run 1 [b1 = b1] rt1 <|
 .pick [10, 11, 12, 13] <| .run 4 [b86 = b86, b91 = b91] rt2 <|
 .join J1 (b86, b91) trivial ⟨[(2, aB false), (3, .ptr 3 b86 0), (4, .ptr 4 b91 0), (5, aI dir), (6, aS s)], [(3, .box b86 24 [.sl 5 false (f.l.map nodA), aI f.next]), (4, .box b91 26 [aI c.kind, aI c.ino, aI c.to, aI c.at_, aI c.many, aS c.name, aS c.name2, aS c.text])]⟩ sr5 ⟨⟨_, rfl, SubB.refl _⟩, ⟨_, rfl, SubB.refl _⟩, trivial⟩)
 <| .run 1 [b86 = b86] rt1 <|
 .pick [3, 11, 12, 13] <| .run 4 [b1 = b1, b91 = b91] rt2 <|
 .join J1 (b86, b91) trivial ⟨[(2, aB false), (3, .ptr 3 b86 0), (4, .ptr 4 b91 0), (5, aI dir), (6, aS s)], [(3, .box b86 24 [.sl 5 false (f.l.map nodA), aI f.next]), (4, .box b91 26 [aI c.kind, aI c.ino, aI c.to, aI c.at_, aI c.many, aS c.name, aS c.name2, aS c.text])]⟩ sr5 ⟨⟨_, rfl, SubB.refl _⟩, ⟨_, rfl, SubB.refl _⟩, trivial⟩)
 <| .run 1 [b86 = b86] rt1 <|
 .pick [3] <| .run 1 [b1 = b1] rt1 <|
 .fork <| .alt (.run 1 [b1 = b1] rt1 <|
 .pick [11, 12, 13] <| .run 3 [b91 = b91] rt1 <|
 .join J1 (b86, b91) trivial ⟨[(2, aB false), (3, .ptr 3 b86 0), (4, .ptr 4 b91 0), (5, aI dir), (6, aS s)], [(3, .box b86 24 [.sl 5 false (f.l.map nodA), aI f.next]), (4, .box b91 26 [aI c.kind, aI c.ino, aI c.to, aI c.at_, aI c.many, aS c.name, aS c.name2, aS c.text])]⟩ sr5 ⟨⟨_, rfl, SubB.refl _⟩, ⟨_, rfl, SubB.refl _⟩, trivial⟩)
 <| .run 1 [b91 = b91] rt1 <|
 .pick [5, 12, 13] <| .run 3 [b1 = b1] rt1 <|
 .join J1 (b86, b91) trivial ⟨[(2, aB false), (3, .ptr 3 b86 0), (4, .ptr 4 b91 0), (5, aI dir), (6, aS s)], [(3, .box b86 24 [.sl 5 false (f.l.map nodA), aI f.next]), (4, .box b91 26 [aI c.kind, aI c.ino, aI c.to, aI c.at_, aI c.many, aS c.name, aS c.name2, aS c.text])]⟩ sr5 ⟨⟨_, rfl, SubB.refl _⟩, ⟨_, rfl, SubB.refl _⟩, trivial⟩)
 <| .new fun b92 => .fork <| .alt (.run 1 [b1 = b1] rt1 <|
 .fork <| .alt (.run 1 [b1 = b1] rt1 <|
 .pick [8, 10, 11, 12, 13] <| .new fun b93 => .run 4 [b93 = b93, b92 = b92] rt2 <|
 .join J1 (b93, b92) trivial ⟨[(2, aB false), (3, .ptr 3 b93 0), (4, .ptr 4 b92 0), (5, aI dir), (6, aS s)], [(3, .box b93 24 [.sl 5 false (f.l.map nodA), aI f.next]), (4, .box b92 26 [aI c.kind, aI c.ino, aI c.to, aI c.at_, aI c.many, aS c.name, aS c.name2, aS c.text])]⟩ sr5 ⟨⟨_, rfl, SubB.refl _⟩, ⟨_, rfl, SubB.refl _⟩, trivial⟩)
 <| .new fun b94 => .fork <| .alt (.run 1 [b1 = b1] rt1 <|
 .pick [10, 11, 12, 13] <| .run 4 [b94 = b94, b92 = b92] rt2 <|
 .join J1 (b94, b92) trivial ⟨[(2, aB false), (3, .ptr 3 b94 0), (4, .ptr 4 b92 0), (5, aI dir), (6, aS s)], [(3, .box b94 24 [.sl 5 false (f.l.map nodA), aI f.next]), (4, .box b92 26 [aI c.kind, aI c.ino, aI c.to, aI c.at_, aI c.many, aS c.name, aS c.name2, aS c.text])]⟩ sr5 ⟨⟨_, rfl, SubB.refl _⟩, ⟨_, rfl, SubB.refl _⟩, trivial⟩)
 <| .run 1 [b94 = b94] rt1 <|
 .fork <| .alt (.run 1 [b1 = b1] rt1 <|
 .pick [11, 12, 13] <| .run 3 [b92 = b92] rt1 <|
 .join J1 (b94, b92) trivial ⟨[(2, aB false), (3, .ptr 3 b94 0), (4, .ptr 4 b92 0), (5, aI dir), (6, aS s)], [(3, .box b94 24 [.sl 5 false (f.l.map nodA), aI f.next]), (4, .box b92 26 [aI c.kind, aI c.ino, aI c.to, aI c.at_, aI c.many, aS c.name, aS c.name2, aS c.text])]⟩ sr5 ⟨⟨_, rfl, SubB.refl _⟩, ⟨_, rfl, SubB.refl _⟩, trivial⟩)
 <| .run 1 [b92 = b92] rt1 <|
 .pick [5, 12, 13] <| .run 3 [b1 = b1] rt1 <|
 .join J1 (b94, b92) trivial ⟨[(2, aB false), (3, .ptr 3 b94 0), (4, .ptr 4 b92 0), (5, aI dir), (6, aS s)], [(3, .box b94 24 [.sl 5 false (f.l.map nodA), aI f.next]), (4, .box b92 26 [aI c.kind, aI c.ino, aI c.to, aI c.at_, aI c.many, aS c.name, aS c.name2, aS c.text])]⟩ sr5 ⟨⟨_, rfl, SubB.refl _⟩, ⟨_, rfl, SubB.refl _⟩, trivial⟩)
 <| .alt (.run 1 [b1 = b1] rt1 <|
 .fork <| .alt (.run 1 [b1 = b1] rt1 <|
 .pick [8, 10, 11, 12, 13] <| .new fun b95 => .run 4 [b95 = b95, b92 = b92] rt2 <|
 .join J1 (b95, b92) trivial ⟨[(2, aB false), (3, .ptr 3 b95 0), (4, .ptr 4 b92 0), (5, aI dir), (6, aS s)], [(3, .box b95 24 [.sl 5 false (f.l.map nodA), aI f.next]), (4, .box b92 26 [aI c.kind, aI c.ino, aI c.to, aI c.at_, aI c.many, aS c.name, aS c.name2, aS c.text])]⟩ sr5 ⟨⟨_, rfl, SubB.refl _⟩, ⟨_, rfl, SubB.refl _⟩, trivial⟩)
 <| .new fun b96 => .fork <| .alt (.run 1 [b1 = b1] rt1 <|
 .pick [10, 11, 12, 13] <| .run 4 [b96 = b96, b92 = b92] rt2 <|
 .join J1 (b96, b92) trivial ⟨[(2, aB false), (3, .ptr 3 b96 0), (4, .ptr 4 b92 0), (5, aI dir), (6, aS s)], [(3, .box b96 24 [.sl 5 false (f.l.map nodA), aI f.next]), (4, .box b92 26 [aI c.kind, aI c.ino, aI c.to, aI c.at_, aI c.many, aS c.name, aS c.name2, aS c.text])]⟩ sr5 ⟨⟨_, rfl, SubB.refl _⟩, ⟨_, rfl, SubB.refl _⟩, trivial⟩)
 <| .run 1 [b96 = b96] rt1 <|
 .pick [3, 11, 12, 13] <| .run 4 [b1 = b1, b92 = b92] rt2 <|
 .join J1 (b96, b92) trivial ⟨[(2, aB false), (3, .ptr 3 b96 0), (4, .ptr 4 b92 0), (5, aI dir), (6, aS s)], [(3, .box b96 24 [.sl 5 false (f.l.map nodA), aI f.next]), (4, .box b92 26 [aI c.kind, aI c.ino, aI c.to, aI c.at_, aI c.many, aS c.name, aS c.name2, aS c.text])]⟩ sr5 ⟨⟨_, rfl, SubB.refl _⟩, ⟨_, rfl, SubB.refl _⟩, trivial⟩)
 <| .new fun b97 => .fork <| .alt (.run 1 [b1 = b1] rt1 <|
 .fork <| .alt (.run 1 [b1 = b1] rt1 <|
 .pick [10, 11, 12, 13] <| .run 4 [b97 = b97, b92 = b92] rt2 <|
 .join J1 (b97, b92) trivial ⟨[(2, aB false), (3, .ptr 3 b97 0), (4, .ptr 4 b92 0), (5, aI dir), (6, aS s)], [(3, .box b97 24 [.sl 5 false (f.l.map nodA), aI f.next]), (4, .box b92 26 [aI c.kind, aI c.ino, aI c.to, aI c.at_, aI c.many, aS c.name, aS c.name2, aS c.text])]⟩ sr5 ⟨⟨_, rfl, SubB.refl _⟩, ⟨_, rfl, SubB.refl _⟩, trivial⟩)
 <| .run 1 [b97 = b97] rt1 <|
 .fork <| .alt (.run 1 [b1 = b1] rt1 <|
 .pick [11, 12, 13] <| .run 3 [b92 = b92] rt1 <|
 .join J1 (b97, b92) trivial ⟨[(2, aB false), (3, .ptr 3 b97 0), (4, .ptr 4 b92 0), (5, aI dir), (6, aS s)], [(3, .box b97 24 [.sl 5 false (f.l.map nodA), aI f.next]), (4, .box b92 26 [aI c.kind, aI c.ino, aI c.to, aI c.at_, aI c.many, aS c.name, aS c.name2, aS c.text])]⟩ sr5 ⟨⟨_, rfl, SubB.refl _⟩, ⟨_, rfl, SubB.refl _⟩, trivial⟩)
 <| .run 1 [b92 = b92] rt1 <|
 .pick [5, 12, 13] <| .run 3 [b1 = b1] rt1 <|
 .join J1 (b97, b92) trivial ⟨[(2, aB false), (3, .ptr 3 b97 0), (4, .ptr 4 b92 0), (5, aI dir), (6, aS s)], [(3, .box b97 24 [.sl 5 false (f.l.map nodA), aI f.next]), (4, .box b92 26 [aI c.kind, aI c.ino, aI c.to, aI c.at_, aI c.many, aS c.name, aS c.name2, aS c.text])]⟩ sr5 ⟨⟨_, rfl, SubB.refl _⟩, ⟨_, rfl, SubB.refl _⟩, trivial⟩)
 <| .alt (.run 1 [b1 = b1] rt1 <|
 .fork <| .alt (.run 1 [b1 = b1] rt1 <|
 .pick [10, 11, 12, 13] <| .run 4 [b97 = b97, b92 = b92] rt2 <|
 .join J1 (b97, b92) trivial ⟨[(2, aB false), (3, .ptr 3 b97 0), (4, .ptr 4 b92 0), (5, aI dir), (6, aS s)], [(3, .box b97 24 [.sl 5 false (f.l.map nodA), aI f.next]), (4, .box b92 26 [aI c.kind, aI c.ino, aI c.to, aI c.at_, aI c.many, aS c.name, aS c.name2, aS c.text])]⟩ sr5 ⟨⟨_, rfl, SubB.refl _⟩, ⟨_, rfl, SubB.refl _⟩, trivial⟩)
 <| .run 1 [b97 = b97] rt1 <|
 .pick [3, 11, 12, 13] <| .run 4 [b1 = b1, b92 = b92] rt2 <|
 .join J1 (b97, b92) trivial ⟨[(2, aB false), (3, .ptr 3 b97 0), (4, .ptr 4 b92 0), (5, aI dir), (6, aS s)], [(3, .box b97 24 [.sl 5 false (f.l.map nodA), aI f.next]), (4, .box b92 26 [aI c.kind, aI c.ino, aI c.to, aI c.at_, aI c.many, aS c.name, aS c.name2, aS c.text])]⟩ sr5 ⟨⟨_, rfl, SubB.refl _⟩, ⟨_, rfl, SubB.refl _⟩, trivial⟩)
 <| .run 1 [b97 = b97] rt1 <|
 .pick [3] <| .run 1 [b1 = b1] rt1 <|
 .fork <| .alt (.run 1 [b1 = b1] rt1 <|
 .pick [11, 12, 13] <| .run 3 [b92 = b92] rt1 <|
 .join J1 (b97, b92) trivial ⟨[(2, aB false), (3, .ptr 3 b97 0), (4, .ptr 4 b92 0), (5, aI dir), (6, aS s)], [(3, .box b97 24 [.sl 5 false (f.l.map nodA), aI f.next]), (4, .box b92 26 [aI c.kind, aI c.ino, aI c.to, aI c.at_, aI c.many, aS c.name, aS c.name2, aS c.text])]⟩ sr5 ⟨⟨_, rfl, SubB.refl _⟩, ⟨_, rfl, SubB.refl _⟩, trivial⟩)
 <| .run 1 [b92 = b92] rt1 <|
 .pick [5, 12, 13] <| .run 3 [b1 = b1] rt1 <|
 .join J1 (b97, b92) trivial ⟨[(2, aB false), (3, .ptr 3 b97 0), (4, .ptr 4 b92 0), (5, aI dir), (6, aS s)], [(3, .box b97 24 [.sl 5 false (f.l.map nodA), aI f.next]), (4, .box b92 26 [aI c.kind, aI c.ino, aI c.to, aI c.at_, aI c.many, aS c.name, aS c.name2, aS c.text])]⟩ sr5 ⟨⟨_, rfl, SubB.refl _⟩, ⟨_, rfl, SubB.refl _⟩, trivial⟩)
 <| .alt (.new fun b98 => .fork <| .alt (.run 1 [b1 = b1] rt1 <|
 .fork <| .alt (.run 1 [b1 = b1] rt1 <|
 .fork <| .alt (.run 1 [b1 = b1] rt1 <|
 .pick [9, 10, 11, 12, 13] <| .new fun b99 => .run 4 [b98 = b98, b99 = b99] rt2 <|
 .join J1 (b98, b99) trivial ⟨[(2, aB false), (3, .ptr 3 b98 0), (4, .ptr 4 b99 0), (5, aI dir), (6, aS s)], [(3, .box b98 24 [.sl 5 false (f.l.map nodA), aI f.next]), (4, .box b99 26 [aI c.kind, aI c.ino, aI c.to, aI c.at_, aI c.many, aS c.name, aS c.name2, aS c.text])]⟩ sr5 ⟨⟨_, rfl, SubB.refl _⟩, ⟨_, rfl, SubB.refl _⟩, trivial⟩)
 <| .new fun b100 => .fork <| .alt (.run 1 [b1 = b1] rt1 <|
 .pick [10, 11, 12, 13] <| .run 4 [b98 = b98, b100 = b100] rt2 <|
 .join J1 (b98, b100) trivial ⟨[(2, aB false), (3, .ptr 3 b98 0), (4, .ptr 4 b100 0), (5, aI dir), (6, aS s)], [(3, .box b98 24 [.sl 5 false (f.l.map nodA), aI f.next]), (4, .box b100 26 [aI c.kind, aI c.ino, aI c.to, aI c.at_, aI c.many, aS c.name, aS c.name2, aS c.text])]⟩ sr5 ⟨⟨_, rfl, SubB.refl _⟩, ⟨_, rfl, SubB.refl _⟩, trivial⟩)
 <| .run 1 [b98 = b98] rt1 <|
 .fork <| .alt (.run 1 [b1 = b1] rt1 <|
 .pick [11, 12, 13] <| .run 3 [b100 = b100] rt1 <|
 .join J1 (b98, b100) trivial ⟨[(2, aB false), (3, .ptr 3 b98 0), (4, .ptr 4 b100 0), (5, aI dir), (6, aS s)], [(3, .box b98 24 [.sl 5 false (f.l.map nodA), aI f.next]), (4, .box b100 26 [aI c.kind, aI c.ino, aI c.to, aI c.at_, aI c.many, aS c.name, aS c.name2, aS c.text])]⟩ sr5 ⟨⟨_, rfl, SubB.refl _⟩, ⟨_, rfl, SubB.refl _⟩, trivial⟩)
 <| .run 1 [b100 = b100] rt1 <|
 .pick [7, 12, 13] <| .run 3 [b1 = b1] rt1 <|
 .join J1 (b98, b100) trivial ⟨[(2, aB false), (3, .ptr 3 b98 0), (4, .ptr 4 b100 0), (5, aI dir), (6, aS s)], [(3, .box b98 24 [.sl 5 false (f.l.map nodA), aI f.next]), (4, .box b100 26 [aI c.kind, aI c.ino, aI c.to, aI c.at_, aI c.many, aS c.name, aS c.name2, aS c.text])]⟩ sr5 ⟨⟨_, rfl, SubB.refl _⟩, ⟨_, rfl, SubB.refl _⟩, trivial⟩)
 <| .alt (.run 1 [b1 = b1] rt1 <|
 .fork <| .alt (.run 1 [b1 = b1] rt1 <|
 .pick [9, 10, 11, 12, 13] <| .new fun b101 => .run 4 [b98 = b98, b101 = b101] rt2 <|
 .join J1 (b98, b101) trivial ⟨[(2, aB false), (3, .ptr 3 b98 0), (4, .ptr 4 b101 0), (5, aI dir), (6, aS s)], [(3, .box b98 24 [.sl 5 false (f.l.map nodA), aI f.next]), (4, .box b101 26 [aI c.kind, aI c.ino, aI c.to, aI c.at_, aI c.many, aS c.name, aS c.name2, aS c.text])]⟩ sr5 ⟨⟨_, rfl, SubB.refl _⟩, ⟨_, rfl, SubB.refl _⟩, trivial⟩)
 <| .new fun b102 => .fork <| .alt (.run 1 [b1 = b1] rt1 <|
 .pick [10, 11, 12, 13] <| .run 4 [b98 = b98, b102 = b102] rt2 <|
 .join J1 (b98, b102) trivial ⟨[(2, aB false), (3, .ptr 3 b98 0), (4, .ptr 4 b102 0), (5, aI dir), (6, aS s)], [(3, .box b98 24 [.sl 5 false (f.l.map nodA), aI f.next]), (4, .box b102 26 [aI c.kind, aI c.ino, aI c.to, aI c.at_, aI c.many, aS c.name, aS c.name2, aS c.text])]⟩ sr5 ⟨⟨_, rfl, SubB.refl _⟩, ⟨_, rfl, SubB.refl _⟩, trivial⟩)
 <| .run 1 [b98 = b98] rt1 <|
 .fork <| .alt (.run 1 [b1 = b1] rt1 <|
 .pick [11, 12, 13] <| .run 3 [b102 = b102] rt1 <|
 .join J1 (b98, b102) trivial ⟨[(2, aB false), (3, .ptr 3 b98 0), (4, .ptr 4 b102 0), (5, aI dir), (6, aS s)], [(3, .box b98 24 [.sl 5 false (f.l.map nodA), aI f.next]), (4, .box b102 26 [aI c.kind, aI c.ino, aI c.to, aI c.at_, aI c.many, aS c.name, aS c.name2, aS c.text])]⟩ sr5 ⟨⟨_, rfl, SubB.refl _⟩, ⟨_, rfl, SubB.refl _⟩, trivial⟩)
 <| .run 1 [b102 = b102] rt1 <|
 .pick [5, 12, 13] <| .run 3 [b1 = b1] rt1 <|
 .join J1 (b98, b102) trivial ⟨[(2, aB false), (3, .ptr 3 b98 0), (4, .ptr 4 b102 0), (5, aI dir), (6, aS s)], [(3, .box b98 24 [.sl 5 false (f.l.map nodA), aI f.next]), (4, .box b102 26 [aI c.kind, aI c.ino, aI c.to, aI c.at_, aI c.many, aS c.name, aS c.name2, aS c.text])]⟩ sr5 ⟨⟨_, rfl, SubB.refl _⟩, ⟨_, rfl, SubB.refl _⟩, trivial⟩)
 <| .new fun b103 => .fork <| .alt (.run 1 [b1 = b1] rt1 <|
 .fork <| .alt (.run 1 [b1 = b1] rt1 <|
 .pick [10, 11, 12, 13] <| .run 4 [b98 = b98, b103 = b103] rt2 <|
 .join J1 (b98, b103) trivial ⟨[(2, aB false), (3, .ptr 3 b98 0), (4, .ptr 4 b103 0), (5, aI dir), (6, aS s)], [(3, .box b98 24 [.sl 5 false (f.l.map nodA), aI f.next]), (4, .box b103 26 [aI c.kind, aI c.ino, aI c.to, aI c.at_, aI c.many, aS c.name, aS c.name2, aS c.text])]⟩ sr5 ⟨⟨_, rfl, SubB.refl _⟩, ⟨_, rfl, SubB.refl _⟩, trivial⟩)
 <| .run 1 [b98 = b98] rt1 <|
 .fork <| .alt (.run 1 [b1 = b1] rt1 <|
 .pick [11, 12, 13] <| .run 3 [b103 = b103] rt1 <|
 .join J1 (b98, b103) trivial ⟨[(2, aB false), (3, .ptr 3 b98 0), (4, .ptr 4 b103 0), (5, aI dir), (6, aS s)], [(3, .box b98 24 [.sl 5 false (f.l.map nodA), aI f.next]), (4, .box b103 26 [aI c.kind, aI c.ino, aI c.to, aI c.at_, aI c.many, aS c.name, aS c.name2, aS c.text])]⟩ sr5 ⟨⟨_, rfl, SubB.refl _⟩, ⟨_, rfl, SubB.refl _⟩, trivial⟩)
 <| .run 1 [b103 = b103] rt1 <|
 .pick [7, 12, 13] <| .run 3 [b1 = b1] rt1 <|
 .join J1 (b98, b103) trivial ⟨[(2, aB false), (3, .ptr 3 b98 0), (4, .ptr 4 b103 0), (5, aI dir), (6, aS s)], [(3, .box b98 24 [.sl 5 false (f.l.map nodA), aI f.next]), (4, .box b103 26 [aI c.kind, aI c.ino, aI c.to, aI c.at_, aI c.many, aS c.name, aS c.name2, aS c.text])]⟩ sr5 ⟨⟨_, rfl, SubB.refl _⟩, ⟨_, rfl, SubB.refl _⟩, trivial⟩)
 <| .alt (.run 1 [b1 = b1] rt1 <|
 .fork <| .alt (.run 1 [b1 = b1] rt1 <|
 .pick [10, 11, 12, 13] <| .run 4 [b98 = b98, b103 = b103] rt2 <|
 .join J1 (b98, b103) trivial ⟨[(2, aB false), (3, .ptr 3 b98 0), (4, .ptr 4 b103 0), (5, aI dir), (6, aS s)], [(3, .box b98 24 [.sl 5 false (f.l.map nodA), aI f.next]), (4, .box b103 26 [aI c.kind, aI c.ino, aI c.to, aI c.at_, aI c.many, aS c.name, aS c.name2, aS c.text])]⟩ sr5 ⟨⟨_, rfl, SubB.refl _⟩, ⟨_, rfl, SubB.refl _⟩, trivial⟩)
 <| .run 1 [b98 = b98] rt1 <|
 .fork <| .alt (.run 1 [b1 = b1] rt1 <|
 .pick [11, 12, 13] <| .run 3 [b103 = b103] rt1 <|
 .join J1 (b98, b103) trivial ⟨[(2, aB false), (3, .ptr 3 b98 0), (4, .ptr 4 b103 0), (5, aI dir), (6, aS s)], [(3, .box b98 24 [.sl 5 false (f.l.map nodA), aI f.next]), (4, .box b103 26 [aI c.kind, aI c.ino, aI c.to, aI c.at_, aI c.many, aS c.name, aS c.name2, aS c.text])]⟩ sr5 ⟨⟨_, rfl, SubB.refl _⟩, ⟨_, rfl, SubB.refl _⟩, trivial⟩)
 <| .run 1 [b103 = b103] rt1 <|
 .pick [5, 12, 13] <| .run 3 [b1 = b1] rt1 <|
 .join J1 (b98, b103) trivial ⟨[(2, aB false), (3, .ptr 3 b98 0), (4, .ptr 4 b103 0), (5, aI dir), (6, aS s)], [(3, .box b98 24 [.sl 5 false (f.l.map nodA), aI f.next]), (4, .box b103 26 [aI c.kind, aI c.ino, aI c.to, aI c.at_, aI c.many, aS c.name, aS c.name2, aS c.text])]⟩ sr5 ⟨⟨_, rfl, SubB.refl _⟩, ⟨_, rfl, SubB.refl _⟩, trivial⟩)
 <| .run 1 [b98 = b98] rt1 <|
 .fork <| .alt (.run 1 [b1 = b1] rt1 <|
 .fork <| .alt (.run 1 [b1 = b1] rt1 <|
 .pick [11, 12, 13] <| .run 3 [b103 = b103] rt1 <|
 .join J1 (b98, b103) trivial ⟨[(2, aB false), (3, .ptr 3 b98 0), (4, .ptr 4 b103 0), (5, aI dir), (6, aS s)], [(3, .box b98 24 [.sl 5 false (f.l.map nodA), aI f.next]), (4, .box b103 26 [aI c.kind, aI c.ino, aI c.to, aI c.at_, aI c.many, aS c.name, aS c.name2, aS c.text])]⟩ sr5 ⟨⟨_, rfl, SubB.refl _⟩, ⟨_, rfl, SubB.refl _⟩, trivial⟩)
 <| .run 1 [b103 = b103] rt1 <|
 .pick [7, 12, 13] <| .run 3 [b1 = b1] rt1 <|
 .join J1 (b98, b103) trivial ⟨[(2, aB false), (3, .ptr 3 b98 0), (4, .ptr 4 b103 0), (5, aI dir), (6, aS s)], [(3, .box b98 24 [.sl 5 false (f.l.map nodA), aI f.next]), (4, .box b103 26 [aI c.kind, aI c.ino, aI c.to, aI c.at_, aI c.many, aS c.name, aS c.name2, aS c.text])]⟩ sr5 ⟨⟨_, rfl, SubB.refl _⟩, ⟨_, rfl, SubB.refl _⟩, trivial⟩)
 <| .alt (.run 1 [b1 = b1] rt1 <|
 .fork <| .alt (.run 1 [b1 = b1] rt1 <|
 .pick [11, 12, 13] <| .run 3 [b103 = b103] rt1 <|
 .join J1 (b98, b103) trivial ⟨[(2, aB false), (3, .ptr 3 b98 0), (4, .ptr 4 b103 0), (5, aI dir), (6, aS s)], [(3, .box b98 24 [.sl 5 false (f.l.map nodA), aI f.next]), (4, .box b103 26 [aI c.kind, aI c.ino, aI c.to, aI c.at_, aI c.many, aS c.name, aS c.name2, aS c.text])]⟩ sr5 ⟨⟨_, rfl, SubB.refl _⟩, ⟨_, rfl, SubB.refl _⟩, trivial⟩)
 <| .run 1 [b103 = b103] rt1 <|
 .pick [5, 12, 13] <| .run 3 [b1 = b1] rt1 <|
 .join J1 (b98, b103) trivial ⟨[(2, aB false), (3, .ptr 3 b98 0), (4, .ptr 4 b103 0), (5, aI dir), (6, aS s)], [(3, .box b98 24 [.sl 5 false (f.l.map nodA), aI f.next]), (4, .box b103 26 [aI c.kind, aI c.ino, aI c.to, aI c.at_, aI c.many, aS c.name, aS c.name2, aS c.text])]⟩ sr5 ⟨⟨_, rfl, SubB.refl _⟩, ⟨_, rfl, SubB.refl _⟩, trivial⟩)
 <| .run 1 [b103 = b103] rt1 <|
 .pick [5, 7, 12, 13] <| .run 4 [b1 = b1, b1 = b1] rt2 <|
 .join J1 (b98, b103) trivial ⟨[(2, aB false), (3, .ptr 3 b98 0), (4, .ptr 4 b103 0), (5, aI dir), (6, aS s)], [(3, .box b98 24 [.sl 5 false (f.l.map nodA), aI f.next]), (4, .box b103 26 [aI c.kind, aI c.ino, aI c.to, aI c.at_, aI c.many, aS c.name, aS c.name2, aS c.text])]⟩ sr5 ⟨⟨_, rfl, SubB.refl _⟩, ⟨_, rfl, SubB.refl _⟩, trivial⟩)
 <| .alt (.run 1 [b1 = b1] rt1 <|
 .fork <| .alt (.run 1 [b1 = b1] rt1 <|
 .fork <| .alt (.run 1 [b1 = b1] rt1 <|
 .pick [9, 10, 11, 12, 13] <| .new fun b104 => .run 4 [b98 = b98, b104 = b104] rt2 <|
 .join J1 (b98, b104) trivial ⟨[(2, aB false), (3, .ptr 3 b98 0), (4, .ptr 4 b104 0), (5, aI dir), (6, aS s)], [(3, .box b98 24 [.sl 5 false (f.l.map nodA), aI f.next]), (4, .box b104 26 [aI c.kind, aI c.ino, aI c.to, aI c.at_, aI c.many, aS c.name, aS c.name2, aS c.text])]⟩ sr5 ⟨⟨_, rfl, SubB.refl _⟩, ⟨_, rfl, SubB.refl _⟩, trivial⟩)
 <| .new fun b105 => .fork <| .alt (.run 1 [b1 = b1] rt1 <|
 .pick [10, 11, 12, 13] <| .run 4 [b98 = b98, b105 = b105] rt2 <|
 .join J1 (b98, b105) trivial ⟨[(2, aB false), (3, .ptr 3 b98 0), (4, .ptr 4 b105 0), (5, aI dir), (6, aS s)], [(3, .box b98 24 [.sl 5 false (f.l.map nodA), aI f.next]), (4, .box b105 26 [aI c.kind, aI c.ino, aI c.to, aI c.at_, aI c.many, aS c.name, aS c.name2, aS c.text])]⟩ sr5 ⟨⟨_, rfl, SubB.refl _⟩, ⟨_, rfl, SubB.refl _⟩, trivial⟩)
 <| .run 1 [b98 = b98] rt1 <|
 .fork <| .alt (.run 1 [b1 = b1] rt1 <|
 .pick [11, 12, 13] <| .run 3 [b105 = b105] rt1 <|
 .join J1 (b98, b105) trivial ⟨[(2, aB false), (3, .ptr 3 b98 0), (4, .ptr 4 b105 0), (5, aI dir), (6, aS s)], [(3, .box b98 24 [.sl 5 false (f.l.map nodA), aI f.next]), (4, .box b105 26 [aI c.kind, aI c.ino, aI c.to, aI c.at_, aI c.many, aS c.name, aS c.name2, aS c.text])]⟩ sr5 ⟨⟨_, rfl, SubB.refl _⟩, ⟨_, rfl, SubB.refl _⟩, trivial⟩)
 <| .run 1 [b105 = b105] rt1 <|
 .pick [7, 12, 13] <| .run 3 [b1 = b1] rt1 <|
 .join J1 (b98, b105) trivial ⟨[(2, aB false), (3, .ptr 3 b98 0), (4, .ptr 4 b105 0), (5, aI dir), (6, aS s)], [(3, .box b98 24 [.sl 5 false (f.l.map nodA), aI f.next]), (4, .box b105 26 [aI c.kind, aI c.ino, aI c.to, aI c.at_, aI c.many, aS c.name, aS c.name2, aS c.text])]⟩ sr5 ⟨⟨_, rfl, SubB.refl _⟩, ⟨_, rfl, SubB.refl _⟩, trivial⟩)
 <| .alt (.run 1 [b1 = b1] rt1 <|
 .fork <| .alt (.run 1 [b1 = b1] rt1 <|
 .pick [9, 10, 11, 12, 13] <| .new fun b106 => .run 4 [b98 = b98, b106 = b106] rt2 <|
 .join J1 (b98, b106) trivial ⟨[(2, aB false), (3, .ptr 3 b98 0), (4, .ptr 4 b106 0), (5, aI dir), (6, aS s)], [(3, .box b98 24 [.sl 5 false (f.l.map nodA), aI f.next]), (4, .box b106 26 [aI c.kind, aI c.ino, aI c.to, aI c.at_, aI c.many, aS c.name, aS c.name2, aS c.text])]⟩ sr5 ⟨⟨_, rfl, SubB.refl _⟩, ⟨_, rfl, SubB.refl _⟩, trivial⟩)
 <| .new fun b107 => .fork <| .alt (.run 1 [b1 = b1] rt1 <|
 .pick [10, 11, 12, 13] <| .run 4 [b98 = b98, b107 = b107] rt2 <|
 .join J1 (b98, b107) trivial ⟨[(2, aB false), (3, .ptr 3 b98 0), (4, .ptr 4 b107 0), (5, aI dir), (6, aS s)], [(3, .box b98 24 [.sl 5 false (f.l.map nodA), aI f.next]), (4, .box b107 26 [aI c.kind, aI c.ino, aI c.to, aI c.at_, aI c.many, aS c.name, aS c.name2, aS c.text])]⟩ sr5 ⟨⟨_, rfl, SubB.refl _⟩, ⟨_, rfl, SubB.refl _⟩, trivial⟩)
 <| .run 1 [b98 = b98] rt1 <|
 .pick [3, 11, 12, 13] <| .run 4 [b1 = b1, b107 = b107] rt2 <|
 .join J1 (b98, b107) trivial ⟨[(2, aB false), (3, .ptr 3 b98 0), (4, .ptr 4 b107 0), (5, aI dir), (6, aS s)], [(3, .box b98 24 [.sl 5 false (f.l.map nodA), aI f.next]), (4, .box b107 26 [aI c.kind, aI c.ino, aI c.to, aI c.at_, aI c.many, aS c.name, aS c.name2, aS c.text])]⟩ sr5 ⟨⟨_, rfl, SubB.refl _⟩, ⟨_, rfl, SubB.refl _⟩, trivial⟩)
 <| .new fun b108 => .fork <| .alt (.run 1 [b1 = b1] rt1 <|
 .fork <| .alt (.run 1 [b1 = b1] rt1 <|
 .pick [10, 11, 12, 13] <| .run 4 [b98 = b98, b108 = b108] rt2 <|
 .join J1 (b98, b108) trivial ⟨[(2, aB false), (3, .ptr 3 b98 0), (4, .ptr 4 b108 0), (5, aI dir), (6, aS s)], [(3, .box b98 24 [.sl 5 false (f.l.map nodA), aI f.next]), (4, .box b108 26 [aI c.kind, aI c.ino, aI c.to, aI c.at_, aI c.many, aS c.name, aS c.name2, aS c.text])]⟩ sr5 ⟨⟨_, rfl, SubB.refl _⟩, ⟨_, rfl, SubB.refl _⟩, trivial⟩)
 <| .run 1 [b98 = b98] rt1 <|
 .fork <| .alt (.run 1 [b1 = b1] rt1 <|
 .pick [11, 12, 13] <| .run 3 [b108 = b108] rt1 <|
 .join J1 (b98, b108) trivial ⟨[(2, aB false), (3, .ptr 3 b98 0), (4, .ptr 4 b108 0), (5, aI dir), (6, aS s)], [(3, .box b98 24 [.sl 5 false (f.l.map nodA), aI f.next]), (4, .box b108 26 [aI c.kind, aI c.ino, aI c.to, aI c.at_, aI c.many, aS c.name, aS c.name2, aS c.text])]⟩ sr5 ⟨⟨_, rfl, SubB.refl _⟩, ⟨_, rfl, SubB.refl _⟩, trivial⟩)
 <| .run 1 [b108 = b108] rt1 <|
 .pick [7, 12, 13] <| .run 3 [b1 = b1] rt1 <|
 .join J1 (b98, b108) trivial ⟨[(2, aB false), (3, .ptr 3 b98 0), (4, .ptr 4 b108 0), (5, aI dir), (6, aS s)], [(3, .box b98 24 [.sl 5 false (f.l.map nodA), aI f.next]), (4, .box b108 26 [aI c.kind, aI c.ino, aI c.to, aI c.at_, aI c.many, aS c.name, aS c.name2, aS c.text])]⟩ sr5 ⟨⟨_, rfl, SubB.refl _⟩, ⟨_, rfl, SubB.refl _⟩, trivial⟩)
 <| .alt (.run 1 [b1 = b1] rt1 <|
 .fork <| .alt (.run 1 [b1 = b1] rt1 <|
 .pick [10, 11, 12, 13] <| .run 4 [b98 = b98, b108 = b108] rt2 <|
 .join J1 (b98, b108) trivial ⟨[(2, aB false), (3, .ptr 3 b98 0), (4, .ptr 4 b108 0), (5, aI dir), (6, aS s)], [(3, .box b98 24 [.sl 5 false (f.l.map nodA), aI f.next]), (4, .box b108 26 [aI c.kind, aI c.ino, aI c.to, aI c.at_, aI c.many, aS c.name, aS c.name2, aS c.text])]⟩ sr5 ⟨⟨_, rfl, SubB.refl _⟩, ⟨_, rfl, SubB.refl _⟩, trivial⟩)
 <| .run 1 [b98 = b98] rt1 <|
 .pick [3, 11, 12, 13] <| .run 4 [b1 = b1, b108 = b108] rt2 <|
 .join J1 (b98, b108) trivial ⟨[(2, aB false), (3, .ptr 3 b98 0), (4, .ptr 4 b108 0), (5, aI dir), (6, aS s)], [(3, .box b98 24 [.sl 5 false (f.l.map nodA), aI f.next]), (4, .box b108 26 [aI c.kind, aI c.ino, aI c.to, aI c.at_, aI c.many, aS c.name, aS c.name2, aS c.text])]⟩ sr5 ⟨⟨_, rfl, SubB.refl _⟩, ⟨_, rfl, SubB.refl _⟩, trivial⟩)
 <| .run 1 [b98 = b98] rt1 <|
 .pick [3] <| .run 1 [b1 = b1] rt1 <|
 .fork <| .alt (.run 1 [b1 = b1] rt1 <|
 .pick [11, 12, 13] <| .run 3 [b108 = b108] rt1 <|
 .join J1 (b98, b108) trivial ⟨[(2, aB false), (3, .ptr 3 b98 0), (4, .ptr 4 b108 0), (5, aI dir), (6, aS s)], [(3, .box b98 24 [.sl 5 false (f.l.map nodA), aI f.next]), (4, .box b108 26 [aI c.kind, aI c.ino, aI c.to, aI c.at_, aI c.many, aS c.name, aS c.name2, aS c.text])]⟩ sr5 ⟨⟨_, rfl, SubB.refl _⟩, ⟨_, rfl, SubB.refl _⟩, trivial⟩)
 <| .run 1 [b108 = b108] rt1 <|
 .pick [7, 12, 13] <| .run 3 [b1 = b1] rt1 <|
 .join J1 (b98, b108) trivial ⟨[(2, aB false), (3, .ptr 3 b98 0), (4, .ptr 4 b108 0), (5, aI dir), (6, aS s)], [(3, .box b98 24 [.sl 5 false (f.l.map nodA), aI f.next]), (4, .box b108 26 [aI c.kind, aI c.ino, aI c.to, aI c.at_, aI c.many, aS c.name, aS c.name2, aS c.text])]⟩ sr5 ⟨⟨_, rfl, SubB.refl _⟩, ⟨_, rfl, SubB.refl _⟩, trivial⟩)
 <| .alt (.run 1 [b1 = b1] rt1 <|
 .fork <| .alt (.run 1 [b1 = b1] rt1 <|
 .fork <| .alt (.run 1 [b1 = b1] rt1 <|
 .pick [9, 10, 11, 12, 13] <| .new fun b109 => .run 4 [b98 = b98, b109 = b109] rt2 <|
 .join J1 (b98, b109) trivial ⟨[(2, aB false), (3, .ptr 3 b98 0), (4, .ptr 4 b109 0), (5, aI dir), (6, aS s)], [(3, .box b98 24 [.sl 5 false (f.l.map nodA), aI f.next]), (4, .box b109 26 [aI c.kind, aI c.ino, aI c.to, aI c.at_, aI c.many, aS c.name, aS c.name2, aS c.text])]⟩ sr5 ⟨⟨_, rfl, SubB.refl _⟩, ⟨_, rfl, SubB.refl _⟩, trivial⟩)
 <| .new fun b110 => .fork <| .alt (.run 1 [b1 = b1] rt1 <|
 .pick [10, 11, 12, 13] <| .run 4 [b98 = b98, b110 = b110] rt2 <|
 .join J1 (b98, b110) trivial ⟨[(2, aB false), (3, .ptr 3 b98 0), (4, .ptr 4 b110 0), (5, aI dir), (6, aS s)], [(3, .box b98 24 [.sl 5 false (f.l.map nodA), aI f.next]), (4, .box b110 26 [aI c.kind, aI c.ino, aI c.to, aI c.at_, aI c.many, aS c.name, aS c.name2, aS c.text])]⟩ sr5 ⟨⟨_, rfl, SubB.refl _⟩, ⟨_, rfl, SubB.refl _⟩, trivial⟩)
 <| .run 1 [b98 = b98] rt1 <|
 .fork <| .alt (.run 1 [b1 = b1] rt1 <|
 .pick [11, 12, 13] <| .run 3 [b110 = b110] rt1 <|
 .join J1 (b98, b110) trivial ⟨[(2, aB false), (3, .ptr 3 b98 0), (4, .ptr 4 b110 0), (5, aI dir), (6, aS s)], [(3, .box b98 24 [.sl 5 false (f.l.map nodA), aI f.next]), (4, .box b110 26 [aI c.kind, aI c.ino, aI c.to, aI c.at_, aI c.many, aS c.name, aS c.name2, aS c.text])]⟩ sr5 ⟨⟨_, rfl, SubB.refl _⟩, ⟨_, rfl, SubB.refl _⟩, trivial⟩)
 <| .run 1 [b110 = b110] rt1 <|
 .pick [5, 12, 13] <| .run 3 [b1 = b1] rt1 <|
 .join J1 (b98, b110) trivial ⟨[(2, aB false), (3, .ptr 3 b98 0), (4, .ptr 4 b110 0), (5, aI dir), (6, aS s)], [(3, .box b98 24 [.sl 5 false (f.l.map nodA), aI f.next]), (4, .box b110 26 [aI c.kind, aI c.ino, aI c.to, aI c.at_, aI c.many, aS c.name, aS c.name2, aS c.text])]⟩ sr5 ⟨⟨_, rfl, SubB.refl _⟩, ⟨_, rfl, SubB.refl _⟩, trivial⟩)
 <| .alt (.run 1 [b1 = b1] rt1 <|
 .fork <| .alt (.run 1 [b1 = b1] rt1 <|
 .pick [9, 10, 11, 12, 13] <| .new fun b111 => .run 4 [b98 = b98, b111 = b111] rt2 <|
 .join J1 (b98, b111) trivial ⟨[(2, aB false), (3, .ptr 3 b98 0), (4, .ptr 4 b111 0), (5, aI dir), (6, aS s)], [(3, .box b98 24 [.sl 5 false (f.l.map nodA), aI f.next]), (4, .box b111 26 [aI c.kind, aI c.ino, aI c.to, aI c.at_, aI c.many, aS c.name, aS c.name2, aS c.text])]⟩ sr5 ⟨⟨_, rfl, SubB.refl _⟩, ⟨_, rfl, SubB.refl _⟩, trivial⟩)
 <| .new fun b112 => .fork <| .alt (.run 1 [b1 = b1] rt1 <|
 .pick [10, 11, 12, 13] <| .run 4 [b98 = b98, b112 = b112] rt2 <|
 .join J1 (b98, b112) trivial ⟨[(2, aB false), (3, .ptr 3 b98 0), (4, .ptr 4 b112 0), (5, aI dir), (6, aS s)], [(3, .box b98 24 [.sl 5 false (f.l.map nodA), aI f.next]), (4, .box b112 26 [aI c.kind, aI c.ino, aI c.to, aI c.at_, aI c.many, aS c.name, aS c.name2, aS c.text])]⟩ sr5 ⟨⟨_, rfl, SubB.refl _⟩, ⟨_, rfl, SubB.refl _⟩, trivial⟩)
 <| .run 1 [b98 = b98] rt1 <|
 .pick [3, 11, 12, 13] <| .run 4 [b1 = b1, b112 = b112] rt2 <|
 .join J1 (b98, b112) trivial ⟨[(2, aB false), (3, .ptr 3 b98 0), (4, .ptr 4 b112 0), (5, aI dir), (6, aS s)], [(3, .box b98 24 [.sl 5 false (f.l.map nodA), aI f.next]), (4, .box b112 26 [aI c.kind, aI c.ino, aI c.to, aI c.at_, aI c.many, aS c.name, aS c.name2, aS c.text])]⟩ sr5 ⟨⟨_, rfl, SubB.refl _⟩, ⟨_, rfl, SubB.refl _⟩, trivial⟩)
 <| .new fun b113 => .fork <| .alt (.run 1 [b1 = b1] rt1 <|
 .fork <| .alt (.run 1 [b1 = b1] rt1 <|
 .pick [10, 11, 12, 13] <| .run 4 [b98 = b98, b113 = b113] rt2 <|
 .join J1 (b98, b113) trivial ⟨[(2, aB false), (3, .ptr 3 b98 0), (4, .ptr 4 b113 0), (5, aI dir), (6, aS s)], [(3, .box b98 24 [.sl 5 false (f.l.map nodA), aI f.next]), (4, .box b113 26 [aI c.kind, aI c.ino, aI c.to, aI c.at_, aI c.many, aS c.name, aS c.name2, aS c.text])]⟩ sr5 ⟨⟨_, rfl, SubB.refl _⟩, ⟨_, rfl, SubB.refl _⟩, trivial⟩)
 <| .run 1 [b98 = b98] rt1 <|
 .fork <| .alt (.run 1 [b1 = b1] rt1 <|
 .pick [11, 12, 13] <| .run 3 [b113 = b113] rt1 <|
 .join J1 (b98, b113) trivial ⟨[(2, aB false), (3, .ptr 3 b98 0), (4, .ptr 4 b113 0), (5, aI dir), (6, aS s)], [(3, .box b98 24 [.sl 5 false (f.l.map nodA), aI f.next]), (4, .box b113 26 [aI c.kind, aI c.ino, aI c.to, aI c.at_, aI c.many, aS c.name, aS c.name2, aS c.text])]⟩ sr5 ⟨⟨_, rfl, SubB.refl _⟩, ⟨_, rfl, SubB.refl _⟩, trivial⟩)
 <| .run 1 [b113 = b113] rt1 <|
 .pick [5, 12, 13] <| .run 3 [b1 = b1] rt1 <|
 .join J1 (b98, b113) trivial ⟨[(2, aB false), (3, .ptr 3 b98 0), (4, .ptr 4 b113 0), (5, aI dir), (6, aS s)], [(3, .box b98 24 [.sl 5 false (f.l.map nodA), aI f.next]), (4, .box b113 26 [aI c.kind, aI c.ino, aI c.to, aI c.at_, aI c.many, aS c.name, aS c.name2, aS c.text])]⟩ sr5 ⟨⟨_, rfl, SubB.refl _⟩, ⟨_, rfl, SubB.refl _⟩, trivial⟩)
 <| .alt (.run 1 [b1 = b1] rt1 <|
 .fork <| .alt (.run 1 [b1 = b1] rt1 <|
 .pick [10, 11, 12, 13] <| .run 4 [b98 = b98, b113 = b113] rt2 <|
 .join J1 (b98, b113) trivial ⟨[(2, aB false), (3, .ptr 3 b98 0), (4, .ptr 4 b113 0), (5, aI dir), (6, aS s)], [(3, .box b98 24 [.sl 5 false (f.l.map nodA), aI f.next]), (4, .box b113 26 [aI c.kind, aI c.ino, aI c.to, aI c.at_, aI c.many, aS c.name, aS c.name2, aS c.text])]⟩ sr5 ⟨⟨_, rfl, SubB.refl _⟩, ⟨_, rfl, SubB.refl _⟩, trivial⟩)
 <| .run 1 [b98 = b98] rt1 <|
 .pick [3, 11, 12, 13] <| .run 4 [b1 = b1, b113 = b113] rt2 <|
 .join J1 (b98, b113) trivial ⟨[(2, aB false), (3, .ptr 3 b98 0), (4, .ptr 4 b113 0), (5, aI dir), (6, aS s)], [(3, .box b98 24 [.sl 5 false (f.l.map nodA), aI f.next]), (4, .box b113 26 [aI c.kind, aI c.ino, aI c.to, aI c.at_, aI c.many, aS c.name, aS c.name2, aS c.text])]⟩ sr5 ⟨⟨_, rfl, SubB.refl _⟩, ⟨_, rfl, SubB.refl _⟩, trivial⟩)
 <| .run 1 [b98 = b98] rt1 <|
 .pick [3] <| .run 1 [b1 = b1] rt1 <|
 .fork <| .alt (.run 1 [b1 = b1] rt1 <|
 .pick [11, 12, 13] <| .run 3 [b113 = b113] rt1 <|
 .join J1 (b98, b113) trivial ⟨[(2, aB false), (3, .ptr 3 b98 0), (4, .ptr 4 b113 0), (5, aI dir), (6, aS s)], [(3, .box b98 24 [.sl 5 false (f.l.map nodA), aI f.next]), (4, .box b113 26 [aI c.kind, aI c.ino, aI c.to, aI c.at_, aI c.many, aS c.name, aS c.name2, aS c.text])]⟩ sr5 ⟨⟨_, rfl, SubB.refl _⟩, ⟨_, rfl, SubB.refl _⟩, trivial⟩)
 <| .run 1 [b113 = b113] rt1 <|
 .pick [5, 12, 13] <| .run 3 [b1 = b1] rt1 <|
 .join J1 (b98, b113) trivial ⟨[(2, aB false), (3, .ptr 3 b98 0), (4, .ptr 4 b113 0), (5, aI dir), (6, aS s)], [(3, .box b98 24 [.sl 5 false (f.l.map nodA), aI f.next]), (4, .box b113 26 [aI c.kind, aI c.ino, aI c.to, aI c.at_, aI c.many, aS c.name, aS c.name2, aS c.text])]⟩ sr5 ⟨⟨_, rfl, SubB.refl _⟩, ⟨_, rfl, SubB.refl _⟩, trivial⟩)
 <| .new fun b114 => .fork <| .alt (.run 1 [b1 = b1] rt1 <|
 .fork <| .alt (.run 1 [b1 = b1] rt1 <|
 .fork <| .alt (.run 1 [b1 = b1] rt1 <|
 .pick [10, 11, 12, 13] <| .run 4 [b98 = b98, b114 = b114] rt2 <|
 .join J1 (b98, b114) trivial ⟨[(2, aB false), (3, .ptr 3 b98 0), (4, .ptr 4 b114 0), (5, aI dir), (6, aS s)], [(3, .box b98 24 [.sl 5 false (f.l.map nodA), aI f.next]), (4, .box b114 26 [aI c.kind, aI c.ino, aI c.to, aI c.at_, aI c.many, aS c.name, aS c.name2, aS c.text])]⟩ sr5 ⟨⟨_, rfl, SubB.refl _⟩, ⟨_, rfl, SubB.refl _⟩, trivial⟩)
 <| .run 1 [b98 = b98] rt1 <|
 .fork <| .alt (.run 1 [b1 = b1] rt1 <|
 .pick [11, 12, 13] <| .run 3 [b114 = b114] rt1 <|
 .join J1 (b98, b114) trivial ⟨[(2, aB false), (3, .ptr 3 b98 0), (4, .ptr 4 b114 0), (5, aI dir), (6, aS s)], [(3, .box b98 24 [.sl 5 false (f.l.map nodA), aI f.next]), (4, .box b114 26 [aI c.kind, aI c.ino, aI c.to, aI c.at_, aI c.many, aS c.name, aS c.name2, aS c.text])]⟩ sr5 ⟨⟨_, rfl, SubB.refl _⟩, ⟨_, rfl, SubB.refl _⟩, trivial⟩)
 <| .run 1 [b114 = b114] rt1 <|
 .pick [7, 12, 13] <| .run 3 [b1 = b1] rt1 <|
 .join J1 (b98, b114) trivial ⟨[(2, aB false), (3, .ptr 3 b98 0), (4, .ptr 4 b114 0), (5, aI dir), (6, aS s)], [(3, .box b98 24 [.sl 5 false (f.l.map nodA), aI f.next]), (4, .box b114 26 [aI c.kind, aI c.ino, aI c.to, aI c.at_, aI c.many, aS c.name, aS c.name2, aS c.text])]⟩ sr5 ⟨⟨_, rfl, SubB.refl _⟩, ⟨_, rfl, SubB.refl _⟩, trivial⟩)
 <| .alt (.run 1 [b1 = b1] rt1 <|
 .fork <| .alt (.run 1 [b1 = b1] rt1 <|
 .pick [10, 11, 12, 13] <| .run 4 [b98 = b98, b114 = b114] rt2 <|
 .join J1 (b98, b114) trivial ⟨[(2, aB false), (3, .ptr 3 b98 0), (4, .ptr 4 b114 0), (5, aI dir), (6, aS s)], [(3, .box b98 24 [.sl 5 false (f.l.map nodA), aI f.next]), (4, .box b114 26 [aI c.kind, aI c.ino, aI c.to, aI c.at_, aI c.many, aS c.name, aS c.name2, aS c.text])]⟩ sr5 ⟨⟨_, rfl, SubB.refl _⟩, ⟨_, rfl, SubB.refl _⟩, trivial⟩)
 <| .run 1 [b98 = b98] rt1 <|
 .fork <| .alt (.run 1 [b1 = b1] rt1 <|
 .pick [11, 12, 13] <| .run 3 [b114 = b114] rt1 <|
 .join J1 (b98, b114) trivial ⟨[(2, aB false), (3, .ptr 3 b98 0), (4, .ptr 4 b114 0), (5, aI dir), (6, aS s)], [(3, .box b98 24 [.sl 5 false (f.l.map nodA), aI f.next]), (4, .box b114 26 [aI c.kind, aI c.ino, aI c.to, aI c.at_, aI c.many, aS c.name, aS c.name2, aS c.text])]⟩ sr5 ⟨⟨_, rfl, SubB.refl _⟩, ⟨_, rfl, SubB.refl _⟩, trivial⟩)
 <| .run 1 [b114 = b114] rt1 <|
 .pick [5, 12, 13] <| .run 3 [b1 = b1] rt1 <|
 .join J1 (b98, b114) trivial ⟨[(2, aB false), (3, .ptr 3 b98 0), (4, .ptr 4 b114 0), (5, aI dir), (6, aS s)], [(3, .box b98 24 [.sl 5 false (f.l.map nodA), aI f.next]), (4, .box b114 26 [aI c.kind, aI c.ino, aI c.to, aI c.at_, aI c.many, aS c.name, aS c.name2, aS c.text])]⟩ sr5 ⟨⟨_, rfl, SubB.refl _⟩, ⟨_, rfl, SubB.refl _⟩, trivial⟩)
 <| .run 1 [b98 = b98] rt1 <|
 .fork <| .alt (.run 1 [b1 = b1] rt1 <|
 .fork <| .alt (.run 1 [b1 = b1] rt1 <|
 .pick [11, 12, 13] <| .run 3 [b114 = b114] rt1 <|
 .join J1 (b98, b114) trivial ⟨[(2, aB false), (3, .ptr 3 b98 0), (4, .ptr 4 b114 0), (5, aI dir), (6, aS s)], [(3, .box b98 24 [.sl 5 false (f.l.map nodA), aI f.next]), (4, .box b114 26 [aI c.kind, aI c.ino, aI c.to, aI c.at_, aI c.many, aS c.name, aS c.name2, aS c.text])]⟩ sr5 ⟨⟨_, rfl, SubB.refl _⟩, ⟨_, rfl, SubB.refl _⟩, trivial⟩)
 <| .run 1 [b114 = b114] rt1 <|
 .pick [7, 12, 13] <| .run 3 [b1 = b1] rt1 <|
 .join J1 (b98, b114) trivial ⟨[(2, aB false), (3, .ptr 3 b98 0), (4, .ptr 4 b114 0), (5, aI dir), (6, aS s)], [(3, .box b98 24 [.sl 5 false (f.l.map nodA), aI f.next]), (4, .box b114 26 [aI c.kind, aI c.ino, aI c.to, aI c.at_, aI c.many, aS c.name, aS c.name2, aS c.text])]⟩ sr5 ⟨⟨_, rfl, SubB.refl _⟩, ⟨_, rfl, SubB.refl _⟩, trivial⟩)
 <| .alt (.run 1 [b1 = b1] rt1 <|
 .fork <| .alt (.run 1 [b1 = b1] rt1 <|
 .pick [11, 12, 13] <| .run 3 [b114 = b114] rt1 <|
 .join J1 (b98, b114) trivial ⟨[(2, aB false), (3, .ptr 3 b98 0), (4, .ptr 4 b114 0), (5, aI dir), (6, aS s)], [(3, .box b98 24 [.sl 5 false (f.l.map nodA), aI f.next]), (4, .box b114 26 [aI c.kind, aI c.ino, aI c.to, aI c.at_, aI c.many, aS c.name, aS c.name2, aS c.text])]⟩ sr5 ⟨⟨_, rfl, SubB.refl _⟩, ⟨_, rfl, SubB.refl _⟩, trivial⟩)
 <| .run 1 [b114 = b114] rt1 <|
 .pick [5, 12, 13] <| .run 3 [b1 = b1] rt1 <|
 .join J1 (b98, b114) trivial ⟨[(2, aB false), (3, .ptr 3 b98 0), (4, .ptr 4 b114 0), (5, aI dir), (6, aS s)], [(3, .box b98 24 [.sl 5 false (f.l.map nodA), aI f.next]), (4, .box b114 26 [aI c.kind, aI c.ino, aI c.to, aI c.at_, aI c.many, aS c.name, aS c.name2, aS c.text])]⟩ sr5 ⟨⟨_, rfl, SubB.refl _⟩, ⟨_, rfl, SubB.refl _⟩, trivial⟩)
 <| .run 1 [b114 = b114] rt1 <|
 .pick [5, 7, 12, 13] <| .run 4 [b1 = b1, b1 = b1] rt2 <|
 .join J1 (b98, b114) trivial ⟨[(2, aB false), (3, .ptr 3 b98 0), (4, .ptr 4 b114 0), (5, aI dir), (6, aS s)], [(3, .box b98 24 [.sl 5 false (f.l.map nodA), aI f.next]), (4, .box b114 26 [aI c.kind, aI c.ino, aI c.to, aI c.at_, aI c.many, aS c.name, aS c.name2, aS c.text])]⟩ sr5 ⟨⟨_, rfl, SubB.refl _⟩, ⟨_, rfl, SubB.refl _⟩, trivial⟩)
 <| .alt (.run 1 [b1 = b1] rt1 <|
 .fork <| .alt (.run 1 [b1 = b1] rt1 <|
 .fork <| .alt (.run 1 [b1 = b1] rt1 <|
 .pick [10, 11, 12, 13] <| .run 4 [b98 = b98, b114 = b114] rt2 <|
 .join J1 (b98, b114) trivial ⟨[(2, aB false), (3, .ptr 3 b98 0), (4, .ptr 4 b114 0), (5, aI dir), (6, aS s)], [(3, .box b98 24 [.sl 5 false (f.l.map nodA), aI f.next]), (4, .box b114 26 [aI c.kind, aI c.ino, aI c.to, aI c.at_, aI c.many, aS c.name, aS c.name2, aS c.text])]⟩ sr5 ⟨⟨_, rfl, SubB.refl _⟩, ⟨_, rfl, SubB.refl _⟩, trivial⟩)
 <| .run 1 [b98 = b98] rt1 <|
 .fork <| .alt (.run 1 [b1 = b1] rt1 <|
 .pick [11, 12, 13] <| .run 3 [b114 = b114] rt1 <|
 .join J1 (b98, b114) trivial ⟨[(2, aB false), (3, .ptr 3 b98 0), (4, .ptr 4 b114 0), (5, aI dir), (6, aS s)], [(3, .box b98 24 [.sl 5 false (f.l.map nodA), aI f.next]), (4, .box b114 26 [aI c.kind, aI c.ino, aI c.to, aI c.at_, aI c.many, aS c.name, aS c.name2, aS c.text])]⟩ sr5 ⟨⟨_, rfl, SubB.refl _⟩, ⟨_, rfl, SubB.refl _⟩, trivial⟩)
 <| .run 1 [b114 = b114] rt1 <|
 .pick [7, 12, 13] <| .run 3 [b1 = b1] rt1 <|
 .join J1 (b98, b114) trivial ⟨[(2, aB false), (3, .ptr 3 b98 0), (4, .ptr 4 b114 0), (5, aI dir), (6, aS s)], [(3, .box b98 24 [.sl 5 false (f.l.map nodA), aI f.next]), (4, .box b114 26 [aI c.kind, aI c.ino, aI c.to, aI c.at_, aI c.many, aS c.name, aS c.name2, aS c.text])]⟩ sr5 ⟨⟨_, rfl, SubB.refl _⟩, ⟨_, rfl, SubB.refl _⟩, trivial⟩)
 <| .alt (.run 1 [b1 = b1] rt1 <|
 .fork <| .alt (.run 1 [b1 = b1] rt1 <|
 .pick [10, 11, 12, 13] <| .run 4 [b98 = b98, b114 = b114] rt2 <|
 .join J1 (b98, b114) trivial ⟨[(2, aB false), (3, .ptr 3 b98 0), (4, .ptr 4 b114 0), (5, aI dir), (6, aS s)], [(3, .box b98 24 [.sl 5 false (f.l.map nodA), aI f.next]), (4, .box b114 26 [aI c.kind, aI c.ino, aI c.to, aI c.at_, aI c.many, aS c.name, aS c.name2, aS c.text])]⟩ sr5 ⟨⟨_, rfl, SubB.refl _⟩, ⟨_, rfl, SubB.refl _⟩, trivial⟩)
 <| .run 1 [b98 = b98] rt1 <|
 .pick [3, 11, 12, 13] <| .run 4 [b1 = b1, b114 = b114] rt2 <|
 .join J1 (b98, b114) trivial ⟨[(2, aB false), (3, .ptr 3 b98 0), (4, .ptr 4 b114 0), (5, aI dir), (6, aS s)], [(3, .box b98 24 [.sl 5 false (f.l.map nodA), aI f.next]), (4, .box b114 26 [aI c.kind, aI c.ino, aI c.to, aI c.at_, aI c.many, aS c.name, aS c.name2, aS c.text])]⟩ sr5 ⟨⟨_, rfl, SubB.refl _⟩, ⟨_, rfl, SubB.refl _⟩, trivial⟩)
 <| .run 1 [b98 = b98] rt1 <|
 .pick [3] <| .run 1 [b1 = b1] rt1 <|
 .fork <| .alt (.run 1 [b1 = b1] rt1 <|
 .pick [11, 12, 13] <| .run 3 [b114 = b114] rt1 <|
 .join J1 (b98, b114) trivial ⟨[(2, aB false), (3, .ptr 3 b98 0), (4, .ptr 4 b114 0), (5, aI dir), (6, aS s)], [(3, .box b98 24 [.sl 5 false (f.l.map nodA), aI f.next]), (4, .box b114 26 [aI c.kind, aI c.ino, aI c.to, aI c.at_, aI c.many, aS c.name, aS c.name2, aS c.text])]⟩ sr5 ⟨⟨_, rfl, SubB.refl _⟩, ⟨_, rfl, SubB.refl _⟩, trivial⟩)
 <| .run 1 [b114 = b114] rt1 <|
 .pick [7, 12, 13] <| .run 3 [b1 = b1] rt1 <|
 .join J1 (b98, b114) trivial ⟨[(2, aB false), (3, .ptr 3 b98 0), (4, .ptr 4 b114 0), (5, aI dir), (6, aS s)], [(3, .box b98 24 [.sl 5 false (f.l.map nodA), aI f.next]), (4, .box b114 26 [aI c.kind, aI c.ino, aI c.to, aI c.at_, aI c.many, aS c.name, aS c.name2, aS c.text])]⟩ sr5 ⟨⟨_, rfl, SubB.refl _⟩, ⟨_, rfl, SubB.refl _⟩, trivial⟩)
 <| .alt (.run 1 [b1 = b1] rt1 <|
 .fork <| .alt (.run 1 [b1 = b1] rt1 <|
 .fork <| .alt (.run 1 [b1 = b1] rt1 <|
 .pick [10, 11, 12, 13] <| .run 4 [b98 = b98, b114 = b114] rt2 <|
 .join J1 (b98, b114) trivial ⟨[(2, aB false), (3, .ptr 3 b98 0), (4, .ptr 4 b114 0), (5, aI dir), (6, aS s)], [(3, .box b98 24 [.sl 5 false (f.l.map nodA), aI f.next]), (4, .box b114 26 [aI c.kind, aI c.ino, aI c.to, aI c.at_, aI c.many, aS c.name, aS c.name2, aS c.text])]⟩ sr5 ⟨⟨_, rfl, SubB.refl _⟩, ⟨_, rfl, SubB.refl _⟩, trivial⟩)
 <| .run 1 [b98 = b98] rt1 <|
 .fork <| .alt (.run 1 [b1 = b1] rt1 <|
 .pick [11, 12, 13] <| .run 3 [b114 = b114] rt1 <|
 .join J1 (b98, b114) trivial ⟨[(2, aB false), (3, .ptr 3 b98 0), (4, .ptr 4 b114 0), (5, aI dir), (6, aS s)], [(3, .box b98 24 [.sl 5 false (f.l.map nodA), aI f.next]), (4, .box b114 26 [aI c.kind, aI c.ino, aI c.to, aI c.at_, aI c.many, aS c.name, aS c.name2, aS c.text])]⟩ sr5 ⟨⟨_, rfl, SubB.refl _⟩, ⟨_, rfl, SubB.refl _⟩, trivial⟩)
 <| .run 1 [b114 = b114] rt1 <|
 .pick [5, 12, 13] <| .run 3 [b1 = b1] rt1 <|
 .join J1 (b98, b114) trivial ⟨[(2, aB false), (3, .ptr 3 b98 0), (4, .ptr 4 b114 0), (5, aI dir), (6, aS s)], [(3, .box b98 24 [.sl 5 false (f.l.map nodA), aI f.next]), (4, .box b114 26 [aI c.kind, aI c.ino, aI c.to, aI c.at_, aI c.many, aS c.name, aS c.name2, aS c.text])]⟩ sr5 ⟨⟨_, rfl, SubB.refl _⟩, ⟨_, rfl, SubB.refl _⟩, trivial⟩)
 <| .alt (.run 1 [b1 = b1] rt1 <|
 .fork <| .alt (.run 1 [b1 = b1] rt1 <|
 .pick [10, 11, 12, 13] <| .run 4 [b98 = b98, b114 = b114] rt2 <|
 .join J1 (b98, b114) trivial ⟨[(2, aB false), (3, .ptr 3 b98 0), (4, .ptr 4 b114 0), (5, aI dir), (6, aS s)], [(3, .box b98 24 [.sl 5 false (f.l.map nodA), aI f.next]), (4, .box b114 26 [aI c.kind, aI c.ino, aI c.to, aI c.at_, aI c.many, aS c.name, aS c.name2, aS c.text])]⟩ sr5 ⟨⟨_, rfl, SubB.refl _⟩, ⟨_, rfl, SubB.refl _⟩, trivial⟩)
 <| .run 1 [b98 = b98] rt1 <|
 .pick [3, 11, 12, 13] <| .run 4 [b1 = b1, b114 = b114] rt2 <|
 .join J1 (b98, b114) trivial ⟨[(2, aB false), (3, .ptr 3 b98 0), (4, .ptr 4 b114 0), (5, aI dir), (6, aS s)], [(3, .box b98 24 [.sl 5 false (f.l.map nodA), aI f.next]), (4, .box b114 26 [aI c.kind, aI c.ino, aI c.to, aI c.at_, aI c.many, aS c.name, aS c.name2, aS c.text])]⟩ sr5 ⟨⟨_, rfl, SubB.refl _⟩, ⟨_, rfl, SubB.refl _⟩, trivial⟩)
 <| .run 1 [b98 = b98] rt1 <|
 .pick [3] <| .run 1 [b1 = b1] rt1 <|
 .fork <| .alt (.run 1 [b1 = b1] rt1 <|
 .pick [11, 12, 13] <| .run 3 [b114 = b114] rt1 <|
 .join J1 (b98, b114) trivial ⟨[(2, aB false), (3, .ptr 3 b98 0), (4, .ptr 4 b114 0), (5, aI dir), (6, aS s)], [(3, .box b98 24 [.sl 5 false (f.l.map nodA), aI f.next]), (4, .box b114 26 [aI c.kind, aI c.ino, aI c.to, aI c.at_, aI c.many, aS c.name, aS c.name2, aS c.text])]⟩ sr5 ⟨⟨_, rfl, SubB.refl _⟩, ⟨_, rfl, SubB.refl _⟩, trivial⟩)
 <| .run 1 [b114 = b114] rt1 <|
 .pick [5, 12, 13] <| .run 3 [b1 = b1] rt1 <|
 .join J1 (b98, b114) trivial ⟨[(2, aB false), (3, .ptr 3 b98 0), (4, .ptr 4 b114 0), (5, aI dir), (6, aS s)], [(3, .box b98 24 [.sl 5 false (f.l.map nodA), aI f.next]), (4, .box b114 26 [aI c.kind, aI c.ino, aI c.to, aI c.at_, aI c.many, aS c.name, aS c.name2, aS c.text])]⟩ sr5 ⟨⟨_, rfl, SubB.refl _⟩, ⟨_, rfl, SubB.refl _⟩, trivial⟩)
 <| .run 1 [b98 = b98] rt1 <|
 .pick [3] <| .run 1 [b1 = b1] rt1 <|
 .fork <| .alt (.run 1 [b1 = b1] rt1 <|
 .fork <| .alt (.run 1 [b1 = b1] rt1 <|
 .pick [11, 12, 13] <| .run 3 [b114 = b114] rt1 <|
 .join J1 (b98, b114) trivial ⟨[(2, aB false), (3, .ptr 3 b98 0), (4, .ptr 4 b114 0), (5, aI dir), (6, aS s)], [(3, .box b98 24 [.sl 5 false (f.l.map nodA), aI f.next]), (4, .box b114 26 [aI c.kind, aI c.ino, aI c.to, aI c.at_, aI c.many, aS c.name, aS c.name2, aS c.text])]⟩ sr5 ⟨⟨_, rfl, SubB.refl _⟩, ⟨_, rfl, SubB.refl _⟩, trivial⟩)
 <| .run 1 [b114 = b114] rt1 <|
 .pick [7, 12, 13] <| .run 3 [b1 = b1] rt1 <|
 .join J1 (b98, b114) trivial ⟨[(2, aB false), (3, .ptr 3 b98 0), (4, .ptr 4 b114 0), (5, aI dir), (6, aS s)], [(3, .box b98 24 [.sl 5 false (f.l.map nodA), aI f.next]), (4, .box b114 26 [aI c.kind, aI c.ino, aI c.to, aI c.at_, aI c.many, aS c.name, aS c.name2, aS c.text])]⟩ sr5 ⟨⟨_, rfl, SubB.refl _⟩, ⟨_, rfl, SubB.refl _⟩, trivial⟩)
 <| .alt (.run 1 [b1 = b1] rt1 <|
 .fork <| .alt (.run 1 [b1 = b1] rt1 <|
 .pick [11, 12, 13] <| .run 3 [b114 = b114] rt1 <|
 .join J1 (b98, b114) trivial ⟨[(2, aB false), (3, .ptr 3 b98 0), (4, .ptr 4 b114 0), (5, aI dir), (6, aS s)], [(3, .box b98 24 [.sl 5 false (f.l.map nodA), aI f.next]), (4, .box b114 26 [aI c.kind, aI c.ino, aI c.to, aI c.at_, aI c.many, aS c.name, aS c.name2, aS c.text])]⟩ sr5 ⟨⟨_, rfl, SubB.refl _⟩, ⟨_, rfl, SubB.refl _⟩, trivial⟩)
 <| .run 1 [b114 = b114] rt1 <|
 .pick [5, 12, 13] <| .run 3 [b1 = b1] rt1 <|
 .join J1 (b98, b114) trivial ⟨[(2, aB false), (3, .ptr 3 b98 0), (4, .ptr 4 b114 0), (5, aI dir), (6, aS s)], [(3, .box b98 24 [.sl 5 false (f.l.map nodA), aI f.next]), (4, .box b114 26 [aI c.kind, aI c.ino, aI c.to, aI c.at_, aI c.many, aS c.name, aS c.name2, aS c.text])]⟩ sr5 ⟨⟨_, rfl, SubB.refl _⟩, ⟨_, rfl, SubB.refl _⟩, trivial⟩)
 <| .run 1 [b114 = b114] rt1 <|
 .pick [5, 7, 12, 13] <| .run 4 [b1 = b1, b1 = b1] rt2 <|
 .join J1 (b98, b114) trivial ⟨[(2, aB false), (3, .ptr 3 b98 0), (4, .ptr 4 b114 0), (5, aI dir), (6, aS s)], [(3, .box b98 24 [.sl 5 false (f.l.map nodA), aI f.next]), (4, .box b114 26 [aI c.kind, aI c.ino, aI c.to, aI c.at_, aI c.many, aS c.name, aS c.name2, aS c.text])]⟩ sr5 ⟨⟨_, rfl, SubB.refl _⟩, ⟨_, rfl, SubB.refl _⟩, trivial⟩)
 <| .new fun b115 => .fork <| .alt (.run 1 [b1 = b1] rt1 <|
 .fork <| .alt (.run 1 [b1 = b1] rt1 <|
 .fork <| .alt (.run 1 [b1 = b1] rt1 <|
 .pick [8, 10, 11, 12, 13] <| .new fun b116 => .run 4 [b116 = b116, b115 = b115] rt2 <|
 .join J1 (b116, b115) trivial ⟨[(2, aB false), (3, .ptr 3 b116 0), (4, .ptr 4 b115 0), (5, aI dir), (6, aS s)], [(3, .box b116 24 [.sl 5 false (f.l.map nodA), aI f.next]), (4, .box b115 26 [aI c.kind, aI c.ino, aI c.to, aI c.at_, aI c.many, aS c.name, aS c.name2, aS c.text])]⟩ sr5 ⟨⟨_, rfl, SubB.refl _⟩, ⟨_, rfl, SubB.refl _⟩, trivial⟩)
 <| .new fun b117 => .fork <| .alt (.run 1 [b1 = b1] rt1 <|
 .pick [10, 11, 12, 13] <| .run 4 [b117 = b117, b115 = b115] rt2 <|
 .join J1 (b117, b115) trivial ⟨[(2, aB false), (3, .ptr 3 b117 0), (4, .ptr 4 b115 0), (5, aI dir), (6, aS s)], [(3, .box b117 24 [.sl 5 false (f.l.map nodA), aI f.next]), (4, .box b115 26 [aI c.kind, aI c.ino, aI c.to, aI c.at_, aI c.many, aS c.name, aS c.name2, aS c.text])]⟩ sr5 ⟨⟨_, rfl, SubB.refl _⟩, ⟨_, rfl, SubB.refl _⟩, trivial⟩)
 <| .run 1 [b117 = b117] rt1 <|
 .fork <| .alt (.run 1 [b1 = b1] rt1 <|
 .pick [11, 12, 13] <| .run 3 [b115 = b115] rt1 <|
 .join J1 (b117, b115) trivial ⟨[(2, aB false), (3, .ptr 3 b117 0), (4, .ptr 4 b115 0), (5, aI dir), (6, aS s)], [(3, .box b117 24 [.sl 5 false (f.l.map nodA), aI f.next]), (4, .box b115 26 [aI c.kind, aI c.ino, aI c.to, aI c.at_, aI c.many, aS c.name, aS c.name2, aS c.text])]⟩ sr5 ⟨⟨_, rfl, SubB.refl _⟩, ⟨_, rfl, SubB.refl _⟩, trivial⟩)
 <| .run 1 [b115 = b115] rt1 <|
 .pick [7, 12, 13] <| .run 3 [b1 = b1] rt1 <|
 .join J1 (b117, b115) trivial ⟨[(2, aB false), (3, .ptr 3 b117 0), (4, .ptr 4 b115 0), (5, aI dir), (6, aS s)], [(3, .box b117 24 [.sl 5 false (f.l.map nodA), aI f.next]), (4, .box b115 26 [aI c.kind, aI c.ino, aI c.to, aI c.at_, aI c.many, aS c.name, aS c.name2, aS c.text])]⟩ sr5 ⟨⟨_, rfl, SubB.refl _⟩, ⟨_, rfl, SubB.refl _⟩, trivial⟩)
 <| .alt (.run 1 [b1 = b1] rt1 <|
 .fork <| .alt (.run 1 [b1 = b1] rt1 <|
 .pick [8, 10, 11, 12, 13] <| .new fun b118 => .run 4 [b118 = b118, b115 = b115] rt2 <|
 .join J1 (b118, b115) trivial ⟨[(2, aB false), (3, .ptr 3 b118 0), (4, .ptr 4 b115 0), (5, aI dir), (6, aS s)], [(3, .box b118 24 [.sl 5 false (f.l.map nodA), aI f.next]), (4, .box b115 26 [aI c.kind, aI c.ino, aI c.to, aI c.at_, aI c.many, aS c.name, aS c.name2, aS c.text])]⟩ sr5 ⟨⟨_, rfl, SubB.refl _⟩, ⟨_, rfl, SubB.refl _⟩, trivial⟩)
 <| .new fun b119 => .fork <| .alt (.run 1 [b1 = b1] rt1 <|
 .pick [10, 11, 12, 13] <| .run 4 [b119 = b119, b115 = b115] rt2 <|
 .join J1 (b119, b115) trivial ⟨[(2, aB false), (3, .ptr 3 b119 0), (4, .ptr 4 b115 0), (5, aI dir), (6, aS s)], [(3, .box b119 24 [.sl 5 false (f.l.map nodA), aI f.next]), (4, .box b115 26 [aI c.kind, aI c.ino, aI c.to, aI c.at_, aI c.many, aS c.name, aS c.name2, aS c.text])]⟩ sr5 ⟨⟨_, rfl, SubB.refl _⟩, ⟨_, rfl, SubB.refl _⟩, trivial⟩)
 <| .run 1 [b119 = b119] rt1 <|
 .fork <| .alt (.run 1 [b1 = b1] rt1 <|
 .pick [11, 12, 13] <| .run 3 [b115 = b115] rt1 <|
 .join J1 (b119, b115) trivial ⟨[(2, aB false), (3, .ptr 3 b119 0), (4, .ptr 4 b115 0), (5, aI dir), (6, aS s)], [(3, .box b119 24 [.sl 5 false (f.l.map nodA), aI f.next]), (4, .box b115 26 [aI c.kind, aI c.ino, aI c.to, aI c.at_, aI c.many, aS c.name, aS c.name2, aS c.text])]⟩ sr5 ⟨⟨_, rfl, SubB.refl _⟩, ⟨_, rfl, SubB.refl _⟩, trivial⟩)
 <| .run 1 [b115 = b115] rt1 <|
 .pick [5, 12, 13] <| .run 3 [b1 = b1] rt1 <|
 .join J1 (b119, b115) trivial ⟨[(2, aB false), (3, .ptr 3 b119 0), (4, .ptr 4 b115 0), (5, aI dir), (6, aS s)], [(3, .box b119 24 [.sl 5 false (f.l.map nodA), aI f.next]), (4, .box b115 26 [aI c.kind, aI c.ino, aI c.to, aI c.at_, aI c.many, aS c.name, aS c.name2, aS c.text])]⟩ sr5 ⟨⟨_, rfl, SubB.refl _⟩, ⟨_, rfl, SubB.refl _⟩, trivial⟩)
 <| .new fun b120 => .fork <| .alt (.run 1 [b1 = b1] rt1 <|
 .fork <| .alt (.run 1 [b1 = b1] rt1 <|
 .pick [10, 11, 12, 13] <| .run 4 [b120 = b120, b115 = b115] rt2 <|
 .join J1 (b120, b115) trivial ⟨[(2, aB false), (3, .ptr 3 b120 0), (4, .ptr 4 b115 0), (5, aI dir), (6, aS s)], [(3, .box b120 24 [.sl 5 false (f.l.map nodA), aI f.next]), (4, .box b115 26 [aI c.kind, aI c.ino, aI c.to, aI c.at_, aI c.many, aS c.name, aS c.name2, aS c.text])]⟩ sr5 ⟨⟨_, rfl, SubB.refl _⟩, ⟨_, rfl, SubB.refl _⟩, trivial⟩)
 <| .run 1 [b120 = b120] rt1 <|
 .fork <| .alt (.run 1 [b1 = b1] rt1 <|
 .pick [11, 12, 13] <| .run 3 [b115 = b115] rt1 <|
 .join J1 (b120, b115) trivial ⟨[(2, aB false), (3, .ptr 3 b120 0), (4, .ptr 4 b115 0), (5, aI dir), (6, aS s)], [(3, .box b120 24 [.sl 5 false (f.l.map nodA), aI f.next]), (4, .box b115 26 [aI c.kind, aI c.ino, aI c.to, aI c.at_, aI c.many, aS c.name, aS c.name2, aS c.text])]⟩ sr5 ⟨⟨_, rfl, SubB.refl _⟩, ⟨_, rfl, SubB.refl _⟩, trivial⟩)
 <| .run 1 [b115 = b115] rt1 <|
 .pick [7, 12, 13] <| .run 3 [b1 = b1] rt1 <|
 .join J1 (b120, b115) trivial ⟨[(2, aB false), (3, .ptr 3 b120 0), (4, .ptr 4 b115 0), (5, aI dir), (6, aS s)], [(3, .box b120 24 [.sl 5 false (f.l.map nodA), aI f.next]), (4, .box b115 26 [aI c.kind, aI c.ino, aI c.to, aI c.at_, aI c.many, aS c.name, aS c.name2, aS c.text])]⟩ sr5 ⟨⟨_, rfl, SubB.refl _⟩, ⟨_, rfl, SubB.refl _⟩, trivial⟩)
 <| .alt (.run 1 [b1 = b1] rt1 <|
 .fork <| .alt (.run 1 [b1 = b1] rt1 <|
 .pick [10, 11, 12, 13] <| .run 4 [b120 = b120, b115 = b115] rt2 <|
 .join J1 (b120, b115) trivial ⟨[(2, aB false), (3, .ptr 3 b120 0), (4, .ptr 4 b115 0), (5, aI dir), (6, aS s)], [(3, .box b120 24 [.sl 5 false (f.l.map nodA), aI f.next]), (4, .box b115 26 [aI c.kind, aI c.ino, aI c.to, aI c.at_, aI c.many, aS c.name, aS c.name2, aS c.text])]⟩ sr5 ⟨⟨_, rfl, SubB.refl _⟩, ⟨_, rfl, SubB.refl _⟩, trivial⟩)
 <| .run 1 [b120 = b120] rt1 <|
 .fork <| .alt (.run 1 [b1 = b1] rt1 <|
 .pick [11, 12, 13] <| .run 3 [b115 = b115] rt1 <|
 .join J1 (b120, b115) trivial ⟨[(2, aB false), (3, .ptr 3 b120 0), (4, .ptr 4 b115 0), (5, aI dir), (6, aS s)], [(3, .box b120 24 [.sl 5 false (f.l.map nodA), aI f.next]), (4, .box b115 26 [aI c.kind, aI c.ino, aI c.to, aI c.at_, aI c.many, aS c.name, aS c.name2, aS c.text])]⟩ sr5 ⟨⟨_, rfl, SubB.refl _⟩, ⟨_, rfl, SubB.refl _⟩, trivial⟩)
 <| .run 1 [b115 = b115] rt1 <|
 .pick [5, 12, 13] <| .run 3 [b1 = b1] rt1 <|
 .join J1 (b120, b115) trivial ⟨[(2, aB false), (3, .ptr 3 b120 0), (4, .ptr 4 b115 0), (5, aI dir), (6, aS s)], [(3, .box b120 24 [.sl 5 false (f.l.map nodA), aI f.next]), (4, .box b115 26 [aI c.kind, aI c.ino, aI c.to, aI c.at_, aI c.many, aS c.name, aS c.name2, aS c.text])]⟩ sr5 ⟨⟨_, rfl, SubB.refl _⟩, ⟨_, rfl, SubB.refl _⟩, trivial⟩)
 <| .run 1 [b120 = b120] rt1 <|
 .fork <| .alt (.run 1 [b1 = b1] rt1 <|
 .fork <| .alt (.run 1 [b1 = b1] rt1 <|
 .pick [11, 12, 13] <| .run 3 [b115 = b115] rt1 <|
 .join J1 (b120, b115) trivial ⟨[(2, aB false), (3, .ptr 3 b120 0), (4, .ptr 4 b115 0), (5, aI dir), (6, aS s)], [(3, .box b120 24 [.sl 5 false (f.l.map nodA), aI f.next]), (4, .box b115 26 [aI c.kind, aI c.ino, aI c.to, aI c.at_, aI c.many, aS c.name, aS c.name2, aS c.text])]⟩ sr5 ⟨⟨_, rfl, SubB.refl _⟩, ⟨_, rfl, SubB.refl _⟩, trivial⟩)
 <| .run 1 [b115 = b115] rt1 <|
 .pick [7, 12, 13] <| .run 3 [b1 = b1] rt1 <|
 .join J1 (b120, b115) trivial ⟨[(2, aB false), (3, .ptr 3 b120 0), (4, .ptr 4 b115 0), (5, aI dir), (6, aS s)], [(3, .box b120 24 [.sl 5 false (f.l.map nodA), aI f.next]), (4, .box b115 26 [aI c.kind, aI c.ino, aI c.to, aI c.at_, aI c.many, aS c.name, aS c.name2, aS c.text])]⟩ sr5 ⟨⟨_, rfl, SubB.refl _⟩, ⟨_, rfl, SubB.refl _⟩, trivial⟩)
 <| .alt (.run 1 [b1 = b1] rt1 <|
 .fork <| .alt (.run 1 [b1 = b1] rt1 <|
 .pick [11, 12, 13] <| .run 3 [b115 = b115] rt1 <|
 .join J1 (b120, b115) trivial ⟨[(2, aB false), (3, .ptr 3 b120 0), (4, .ptr 4 b115 0), (5, aI dir), (6, aS s)], [(3, .box b120 24 [.sl 5 false (f.l.map nodA), aI f.next]), (4, .box b115 26 [aI c.kind, aI c.ino, aI c.to, aI c.at_, aI c.many, aS c.name, aS c.name2, aS c.text])]⟩ sr5 ⟨⟨_, rfl, SubB.refl _⟩, ⟨_, rfl, SubB.refl _⟩, trivial⟩)
 <| .run 1 [b115 = b115] rt1 <|
 .pick [5, 12, 13] <| .run 3 [b1 = b1] rt1 <|
 .join J1 (b120, b115) trivial ⟨[(2, aB false), (3, .ptr 3 b120 0), (4, .ptr 4 b115 0), (5, aI dir), (6, aS s)], [(3, .box b120 24 [.sl 5 false (f.l.map nodA), aI f.next]), (4, .box b115 26 [aI c.kind, aI c.ino, aI c.to, aI c.at_, aI c.many, aS c.name, aS c.name2, aS c.text])]⟩ sr5 ⟨⟨_, rfl, SubB.refl _⟩, ⟨_, rfl, SubB.refl _⟩, trivial⟩)
 <| .run 1 [b115 = b115] rt1 <|
 .pick [5, 7, 12, 13] <| .run 4 [b1 = b1, b1 = b1] rt2 <|
 .join J1 (b120, b115) trivial ⟨[(2, aB false), (3, .ptr 3 b120 0), (4, .ptr 4 b115 0), (5, aI dir), (6, aS s)], [(3, .box b120 24 [.sl 5 false (f.l.map nodA), aI f.next]), (4, .box b115 26 [aI c.kind, aI c.ino, aI c.to, aI c.at_, aI c.many, aS c.name, aS c.name2, aS c.text])]⟩ sr5 ⟨⟨_, rfl, SubB.refl _⟩, ⟨_, rfl, SubB.refl _⟩, trivial⟩)
 <| .alt (.run 1 [b1 = b1] rt1 <|
 .fork <| .alt (.run 1 [b1 = b1] rt1 <|
 .fork <| .alt (.run 1 [b1 = b1] rt1 <|
 .pick [8, 10, 11, 12, 13] <| .new fun b121 => .run 4 [b121 = b121, b115 = b115] rt2 <|
 .join J1 (b121, b115) trivial ⟨[(2, aB false), (3, .ptr 3 b121 0), (4, .ptr 4 b115 0), (5, aI dir), (6, aS s)], [(3, .box b121 24 [.sl 5 false (f.l.map nodA), aI f.next]), (4, .box b115 26 [aI c.kind, aI c.ino, aI c.to, aI c.at_, aI c.many, aS c.name, aS c.name2, aS c.text])]⟩ sr5 ⟨⟨_, rfl, SubB.refl _⟩, ⟨_, rfl, SubB.refl _⟩, trivial⟩)
 <| .new fun b122 => .fork <| .alt (.run 1 [b1 = b1] rt1 <|
 .pick [10, 11, 12, 13] <| .run 4 [b122 = b122, b115 = b115] rt2 <|
 .join J1 (b122, b115) trivial ⟨[(2, aB false), (3, .ptr 3 b122 0), (4, .ptr 4 b115 0), (5, aI dir), (6, aS s)], [(3, .box b122 24 [.sl 5 false (f.l.map nodA), aI f.next]), (4, .box b115 26 [aI c.kind, aI c.ino, aI c.to, aI c.at_, aI c.many, aS c.name, aS c.name2, aS c.text])]⟩ sr5 ⟨⟨_, rfl, SubB.refl _⟩, ⟨_, rfl, SubB.refl _⟩, trivial⟩)
 <| .run 1 [b122 = b122] rt1 <|
 .fork <| .alt (.run 1 [b1 = b1] rt1 <|
 .pick [11, 12, 13] <| .run 3 [b115 = b115] rt1 <|
 .join J1 (b122, b115) trivial ⟨[(2, aB false), (3, .ptr 3 b122 0), (4, .ptr 4 b115 0), (5, aI dir), (6, aS s)], [(3, .box b122 24 [.sl 5 false (f.l.map nodA), aI f.next]), (4, .box b115 26 [aI c.kind, aI c.ino, aI c.to, aI c.at_, aI c.many, aS c.name, aS c.name2, aS c.text])]⟩ sr5 ⟨⟨_, rfl, SubB.refl _⟩, ⟨_, rfl, SubB.refl _⟩, trivial⟩)
 <| .run 1 [b115 = b115] rt1 <|
 .pick [7, 12, 13] <| .run 3 [b1 = b1] rt1 <|
 .join J1 (b122, b115) trivial ⟨[(2, aB false), (3, .ptr 3 b122 0), (4, .ptr 4 b115 0), (5, aI dir), (6, aS s)], [(3, .box b122 24 [.sl 5 false (f.l.map nodA), aI f.next]), (4, .box b115 26 [aI c.kind, aI c.ino, aI c.to, aI c.at_, aI c.many, aS c.name, aS c.name2, aS c.text])]⟩ sr5 ⟨⟨_, rfl, SubB.refl _⟩, ⟨_, rfl, SubB.refl _⟩, trivial⟩)
 <| .alt (.run 1 [b1 = b1] rt1 <|
 .fork <| .alt (.run 1 [b1 = b1] rt1 <|
 .pick [8, 10, 11, 12, 13] <| .new fun b123 => .run 4 [b123 = b123, b115 = b115] rt2 <|
 .join J1 (b123, b115) trivial ⟨[(2, aB false), (3, .ptr 3 b123 0), (4, .ptr 4 b115 0), (5, aI dir), (6, aS s)], [(3, .box b123 24 [.sl 5 false (f.l.map nodA), aI f.next]), (4, .box b115 26 [aI c.kind, aI c.ino, aI c.to, aI c.at_, aI c.many, aS c.name, aS c.name2, aS c.text])]⟩ sr5 ⟨⟨_, rfl, SubB.refl _⟩, ⟨_, rfl, SubB.refl _⟩, trivial⟩)
 <| .new fun b124 => .fork <| .alt (.run 1 [b1 = b1] rt1 <|
 .pick [10, 11, 12, 13] <| .run 4 [b124 = b124, b115 = b115] rt2 <|
 .join J1 (b124, b115) trivial ⟨[(2, aB false), (3, .ptr 3 b124 0), (4, .ptr 4 b115 0), (5, aI dir), (6, aS s)], [(3, .box b124 24 [.sl 5 false (f.l.map nodA), aI f.next]), (4, .box b115 26 [aI c.kind, aI c.ino, aI c.to, aI c.at_, aI c.many, aS c.name, aS c.name2, aS c.text])]⟩ sr5 ⟨⟨_, rfl, SubB.refl _⟩, ⟨_, rfl, SubB.refl _⟩, trivial⟩)
 <| .run 1 [b124 = b124] rt1 <|
 .pick [3, 11, 12, 13] <| .run 4 [b1 = b1, b115 = b115] rt2 <|
 .join J1 (b124, b115) trivial ⟨[(2, aB false), (3, .ptr 3 b124 0), (4, .ptr 4 b115 0), (5, aI dir), (6, aS s)], [(3, .box b124 24 [.sl 5 false (f.l.map nodA), aI f.next]), (4, .box b115 26 [aI c.kind, aI c.ino, aI c.to, aI c.at_, aI c.many, aS c.name, aS c.name2, aS c.text])]⟩ sr5 ⟨⟨_, rfl, SubB.refl _⟩, ⟨_, rfl, SubB.refl _⟩, trivial⟩)
 <| .new fun b125 => .fork <| .alt (.run 1 [b1 = b1] rt1 <|
 .fork <| .alt (.run 1 [b1 = b1] rt1 <|
 .pick [10, 11, 12, 13] <| .run 4 [b125 = b125, b115 = b115] rt2 <|
 .join J1 (b125, b115) trivial ⟨[(2, aB false), (3, .ptr 3 b125 0), (4, .ptr 4 b115 0), (5, aI dir), (6, aS s)], [(3, .box b125 24 [.sl 5 false (f.l.map nodA), aI f.next]), (4, .box b115 26 [aI c.kind, aI c.ino, aI c.to, aI c.at_, aI c.many, aS c.name, aS c.name2, aS c.text])]⟩ sr5 ⟨⟨_, rfl, SubB.refl _⟩, ⟨_, rfl, SubB.refl _⟩, trivial⟩)
 <| .run 1 [b125 = b125] rt1 <|
 .fork <| .alt (.run 1 [b1 = b1] rt1 <|
 .pick [11, 12, 13] <| .run 3 [b115 = b115] rt1 <|
 .join J1 (b125, b115) trivial ⟨[(2, aB false), (3, .ptr 3 b125 0), (4, .ptr 4 b115 0), (5, aI dir), (6, aS s)], [(3, .box b125 24 [.sl 5 false (f.l.map nodA), aI f.next]), (4, .box b115 26 [aI c.kind, aI c.ino, aI c.to, aI c.at_, aI c.many, aS c.name, aS c.name2, aS c.text])]⟩ sr5 ⟨⟨_, rfl, SubB.refl _⟩, ⟨_, rfl, SubB.refl _⟩, trivial⟩)
 <| .run 1 [b115 = b115] rt1 <|
 .pick [7, 12, 13] <| .run 3 [b1 = b1] rt1 <|
 .join J1 (b125, b115) trivial ⟨[(2, aB false), (3, .ptr 3 b125 0), (4, .ptr 4 b115 0), (5, aI dir), (6, aS s)], [(3, .box b125 24 [.sl 5 false (f.l.map nodA), aI f.next]), (4, .box b115 26 [aI c.kind, aI c.ino, aI c.to, aI c.at_, aI c.many, aS c.name, aS c.name2, aS c.text])]⟩ sr5 ⟨⟨_, rfl, SubB.refl _⟩, ⟨_, rfl, SubB.refl _⟩, trivial⟩)
 <| .alt (.run 1 [b1 = b1] rt1 <|
 .fork <| .alt (.run 1 [b1 = b1] rt1 <|
 .pick [10, 11, 12, 13] <| .run 4 [b125 = b125, b115 = b115] rt2 <|
 .join J1 (b125, b115) trivial ⟨[(2, aB false), (3, .ptr 3 b125 0), (4, .ptr 4 b115 0), (5, aI dir), (6, aS s)], [(3, .box b125 24 [.sl 5 false (f.l.map nodA), aI f.next]), (4, .box b115 26 [aI c.kind, aI c.ino, aI c.to, aI c.at_, aI c.many, aS c.name, aS c.name2, aS c.text])]⟩ sr5 ⟨⟨_, rfl, SubB.refl _⟩, ⟨_, rfl, SubB.refl _⟩, trivial⟩)
 <| .run 1 [b125 = b125] rt1 <|
 .pick [3, 11, 12, 13] <| .run 4 [b1 = b1, b115 = b115] rt2 <|
 .join J1 (b125, b115) trivial ⟨[(2, aB false), (3, .ptr 3 b125 0), (4, .ptr 4 b115 0), (5, aI dir), (6, aS s)], [(3, .box b125 24 [.sl 5 false (f.l.map nodA), aI f.next]), (4, .box b115 26 [aI c.kind, aI c.ino, aI c.to, aI c.at_, aI c.many, aS c.name, aS c.name2, aS c.text])]⟩ sr5 ⟨⟨_, rfl, SubB.refl _⟩, ⟨_, rfl, SubB.refl _⟩, trivial⟩)
 <| .run 1 [b125 = b125] rt1 <|
 .pick [3] <| .run 1 [b1 = b1] rt1 <|
 .fork <| .alt (.run 1 [b1 = b1] rt1 <|
 .pick [11, 12, 13] <| .run 3 [b115 = b115] rt1 <|
 .join J1 (b125, b115) trivial ⟨[(2, aB false), (3, .ptr 3 b125 0), (4, .ptr 4 b115 0), (5, aI dir), (6, aS s)], [(3, .box b125 24 [.sl 5 false (f.l.map nodA), aI f.next]), (4, .box b115 26 [aI c.kind, aI c.ino, aI c.to, aI c.at_, aI c.many, aS c.name, aS c.name2, aS c.text])]⟩ sr5 ⟨⟨_, rfl, SubB.refl _⟩, ⟨_, rfl, SubB.refl _⟩, trivial⟩)
 <| .run 1 [b115 = b115] rt1 <|
 .pick [7, 12, 13] <| .run 3 [b1 = b1] rt1 <|
 .join J1 (b125, b115) trivial ⟨[(2, aB false), (3, .ptr 3 b125 0), (4, .ptr 4 b115 0), (5, aI dir), (6, aS s)], [(3, .box b125 24 [.sl 5 false (f.l.map nodA), aI f.next]), (4, .box b115 26 [aI c.kind, aI c.ino, aI c.to, aI c.at_, aI c.many, aS c.name, aS c.name2, aS c.text])]⟩ sr5 ⟨⟨_, rfl, SubB.refl _⟩, ⟨_, rfl, SubB.refl _⟩, trivial⟩)
 <| .alt (.run 1 [b1 = b1] rt1 <|
 .fork <| .alt (.run 1 [b1 = b1] rt1 <|
 .fork <| .alt (.run 1 [b1 = b1] rt1 <|
 .pick [8, 10, 11, 12, 13] <| .new fun b126 => .run 4 [b126 = b126, b115 = b115] rt2 <|
 .join J1 (b126, b115) trivial ⟨[(2, aB false), (3, .ptr 3 b126 0), (4, .ptr 4 b115 0), (5, aI dir), (6, aS s)], [(3, .box b126 24 [.sl 5 false (f.l.map nodA), aI f.next]), (4, .box b115 26 [aI c.kind, aI c.ino, aI c.to, aI c.at_, aI c.many, aS c.name, aS c.name2, aS c.text])]⟩ sr5 ⟨⟨_, rfl, SubB.refl _⟩, ⟨_, rfl, SubB.refl _⟩, trivial⟩)
 <| .new fun b127 => .fork <| .alt (.run 1 [b1 = b1] rt1 <|
 .pick [10, 11, 12, 13] <| .run 4 [b127 = b127, b115 = b115] rt2 <|
 .join J1 (b127, b115) trivial ⟨[(2, aB false), (3, .ptr 3 b127 0), (4, .ptr 4 b115 0), (5, aI dir), (6, aS s)], [(3, .box b127 24 [.sl 5 false (f.l.map nodA), aI f.next]), (4, .box b115 26 [aI c.kind, aI c.ino, aI c.to, aI c.at_, aI c.many, aS c.name, aS c.name2, aS c.text])]⟩ sr5 ⟨⟨_, rfl, SubB.refl _⟩, ⟨_, rfl, SubB.refl _⟩, trivial⟩)
 <| .run 1 [b127 = b127] rt1 <|
 .fork <| .alt (.run 1 [b1 = b1] rt1 <|
 .pick [11, 12, 13] <| .run 3 [b115 = b115] rt1 <|
 .join J1 (b127, b115) trivial ⟨[(2, aB false), (3, .ptr 3 b127 0), (4, .ptr 4 b115 0), (5, aI dir), (6, aS s)], [(3, .box b127 24 [.sl 5 false (f.l.map nodA), aI f.next]), (4, .box b115 26 [aI c.kind, aI c.ino, aI c.to, aI c.at_, aI c.many, aS c.name, aS c.name2, aS c.text])]⟩ sr5 ⟨⟨_, rfl, SubB.refl _⟩, ⟨_, rfl, SubB.refl _⟩, trivial⟩)
 <| .run 1 [b115 = b115] rt1 <|
 .pick [5, 12, 13] <| .run 3 [b1 = b1] rt1 <|
 .join J1 (b127, b115) trivial ⟨[(2, aB false), (3, .ptr 3 b127 0), (4, .ptr 4 b115 0), (5, aI dir), (6, aS s)], [(3, .box b127 24 [.sl 5 false (f.l.map nodA), aI f.next]), (4, .box b115 26 [aI c.kind, aI c.ino, aI c.to, aI c.at_, aI c.many, aS c.name, aS c.name2, aS c.text])]⟩ sr5 ⟨⟨_, rfl, SubB.refl _⟩, ⟨_, rfl, SubB.refl _⟩, trivial⟩)
 <| .alt (.run 1 [b1 = b1] rt1 <|
 .fork <| .alt (.run 1 [b1 = b1] rt1 <|
 .pick [8, 10, 11, 12, 13] <| .new fun b128 => .run 4 [b128 = b128, b115 = b115] rt2 <|
 .join J1 (b128, b115) trivial ⟨[(2, aB false), (3, .ptr 3 b128 0), (4, .ptr 4 b115 0), (5, aI dir), (6, aS s)], [(3, .box b128 24 [.sl 5 false (f.l.map nodA), aI f.next]), (4, .box b115 26 [aI c.kind, aI c.ino, aI c.to, aI c.at_, aI c.many, aS c.name, aS c.name2, aS c.text])]⟩ sr5 ⟨⟨_, rfl, SubB.refl _⟩, ⟨_, rfl, SubB.refl _⟩, trivial⟩)
 <| .new fun b129 => .fork <| .alt (.run 1 [b1 = b1] rt1 <|
 .pick [10, 11, 12, 13] <| .run 4 [b129 = b129, b115 = b115] rt2 <|
 .join J1 (b129, b115) trivial ⟨[(2, aB false), (3, .ptr 3 b129 0), (4, .ptr 4 b115 0), (5, aI dir), (6, aS s)], [(3, .box b129 24 [.sl 5 false (f.l.map nodA), aI f.next]), (4, .box b115 26 [aI c.kind, aI c.ino, aI c.to, aI c.at_, aI c.many, aS c.name, aS c.name2, aS c.text])]⟩ sr5 ⟨⟨_, rfl, SubB.refl _⟩, ⟨_, rfl, SubB.refl _⟩, trivial⟩)
 <| .run 1 [b129 = b129] rt1 <|
 .pick [3, 11, 12, 13] <| .run 4 [b1 = b1, b115 = b115] rt2 <|
 .join J1 (b129, b115) trivial ⟨[(2, aB false), (3, .ptr 3 b129 0), (4, .ptr 4 b115 0), (5, aI dir), (6, aS s)], [(3, .box b129 24 [.sl 5 false (f.l.map nodA), aI f.next]), (4, .box b115 26 [aI c.kind, aI c.ino, aI c.to, aI c.at_, aI c.many, aS c.name, aS c.name2, aS c.text])]⟩ sr5 ⟨⟨_, rfl, SubB.refl _⟩, ⟨_, rfl, SubB.refl _⟩, trivial⟩)
 <| .new fun b130 => .fork <| .alt (.run 1 [b1 = b1] rt1 <|
 .fork <| .alt (.run 1 [b1 = b1] rt1 <|
 .pick [10, 11, 12, 13] <| .run 4 [b130 = b130, b115 = b115] rt2 <|
 .join J1 (b130, b115) trivial ⟨[(2, aB false), (3, .ptr 3 b130 0), (4, .ptr 4 b115 0), (5, aI dir), (6, aS s)], [(3, .box b130 24 [.sl 5 false (f.l.map nodA), aI f.next]), (4, .box b115 26 [aI c.kind, aI c.ino, aI c.to, aI c.at_, aI c.many, aS c.name, aS c.name2, aS c.text])]⟩ sr5 ⟨⟨_, rfl, SubB.refl _⟩, ⟨_, rfl, SubB.refl _⟩, trivial⟩)
 <| .run 1 [b130 = b130] rt1 <|
 .fork <| .alt (.run 1 [b1 = b1] rt1 <|
 .pick [11, 12, 13] <| .run 3 [b115 = b115] rt1 <|
 .join J1 (b130, b115) trivial ⟨[(2, aB false), (3, .ptr 3 b130 0), (4, .ptr 4 b115 0), (5, aI dir), (6, aS s)], [(3, .box b130 24 [.sl 5 false (f.l.map nodA), aI f.next]), (4, .box b115 26 [aI c.kind, aI c.ino, aI c.to, aI c.at_, aI c.many, aS c.name, aS c.name2, aS c.text])]⟩ sr5 ⟨⟨_, rfl, SubB.refl _⟩, ⟨_, rfl, SubB.refl _⟩, trivial⟩)
 <| .run 1 [b115 = b115] rt1 <|
 .pick [5, 12, 13] <| .run 3 [b1 = b1] rt1 <|
 .join J1 (b130, b115) trivial ⟨[(2, aB false), (3, .ptr 3 b130 0), (4, .ptr 4 b115 0), (5, aI dir), (6, aS s)], [(3, .box b130 24 [.sl 5 false (f.l.map nodA), aI f.next]), (4, .box b115 26 [aI c.kind, aI c.ino, aI c.to, aI c.at_, aI c.many, aS c.name, aS c.name2, aS c.text])]⟩ sr5 ⟨⟨_, rfl, SubB.refl _⟩, ⟨_, rfl, SubB.refl _⟩, trivial⟩)
 <| .alt (.run 1 [b1 = b1] rt1 <|
 .fork <| .alt (.run 1 [b1 = b1] rt1 <|
 .pick [10, 11, 12, 13] <| .run 4 [b130 = b130, b115 = b115] rt2 <|
 .join J1 (b130, b115) trivial ⟨[(2, aB false), (3, .ptr 3 b130 0), (4, .ptr 4 b115 0), (5, aI dir), (6, aS s)], [(3, .box b130 24 [.sl 5 false (f.l.map nodA), aI f.next]), (4, .box b115 26 [aI c.kind, aI c.ino, aI c.to, aI c.at_, aI c.many, aS c.name, aS c.name2, aS c.text])]⟩ sr5 ⟨⟨_, rfl, SubB.refl _⟩, ⟨_, rfl, SubB.refl _⟩, trivial⟩)
 <| .run 1 [b130 = b130] rt1 <|
 .pick [3, 11, 12, 13] <| .run 4 [b1 = b1, b115 = b115] rt2 <|
 .join J1 (b130, b115) trivial ⟨[(2, aB false), (3, .ptr 3 b130 0), (4, .ptr 4 b115 0), (5, aI dir), (6, aS s)], [(3, .box b130 24 [.sl 5 false (f.l.map nodA), aI f.next]), (4, .box b115 26 [aI c.kind, aI c.ino, aI c.to, aI c.at_, aI c.many, aS c.name, aS c.name2, aS c.text])]⟩ sr5 ⟨⟨_, rfl, SubB.refl _⟩, ⟨_, rfl, SubB.refl _⟩, trivial⟩)
 <| .run 1 [b130 = b130] rt1 <|
 .pick [3] <| .run 1 [b1 = b1] rt1 <|
 .fork <| .alt (.run 1 [b1 = b1] rt1 <|
 .pick [11, 12, 13] <| .run 3 [b115 = b115] rt1 <|
 .join J1 (b130, b115) trivial ⟨[(2, aB false), (3, .ptr 3 b130 0), (4, .ptr 4 b115 0), (5, aI dir), (6, aS s)], [(3, .box b130 24 [.sl 5 false (f.l.map nodA), aI f.next]), (4, .box b115 26 [aI c.kind, aI c.ino, aI c.to, aI c.at_, aI c.many, aS c.name, aS c.name2, aS c.text])]⟩ sr5 ⟨⟨_, rfl, SubB.refl _⟩, ⟨_, rfl, SubB.refl _⟩, trivial⟩)
 <| .run 1 [b115 = b115] rt1 <|
 .pick [5, 12, 13] <| .run 3 [b1 = b1] rt1 <|
 .join J1 (b130, b115) trivial ⟨[(2, aB false), (3, .ptr 3 b130 0), (4, .ptr 4 b115 0), (5, aI dir), (6, aS s)], [(3, .box b130 24 [.sl 5 false (f.l.map nodA), aI f.next]), (4, .box b115 26 [aI c.kind, aI c.ino, aI c.to, aI c.at_, aI c.many, aS c.name, aS c.name2, aS c.text])]⟩ sr5 ⟨⟨_, rfl, SubB.refl _⟩, ⟨_, rfl, SubB.refl _⟩, trivial⟩)
 <| .new fun b131 => .fork <| .alt (.run 1 [b1 = b1] rt1 <|
 .fork <| .alt (.run 1 [b1 = b1] rt1 <|
 .fork <| .alt (.run 1 [b1 = b1] rt1 <|
 .pick [10, 11, 12, 13] <| .run 4 [b131 = b131, b115 = b115] rt2 <|
 .join J1 (b131, b115) trivial ⟨[(2, aB false), (3, .ptr 3 b131 0), (4, .ptr 4 b115 0), (5, aI dir), (6, aS s)], [(3, .box b131 24 [.sl 5 false (f.l.map nodA), aI f.next]), (4, .box b115 26 [aI c.kind, aI c.ino, aI c.to, aI c.at_, aI c.many, aS c.name, aS c.name2, aS c.text])]⟩ sr5 ⟨⟨_, rfl, SubB.refl _⟩, ⟨_, rfl, SubB.refl _⟩, trivial⟩)
 <| .run 1 [b131 = b131] rt1 <|
 .fork <| .alt (.run 1 [b1 = b1] rt1 <|
 .pick [11, 12, 13] <| .run 3 [b115 = b115] rt1 <|
 .join J1 (b131, b115) trivial ⟨[(2, aB false), (3, .ptr 3 b131 0), (4, .ptr 4 b115 0), (5, aI dir), (6, aS s)], [(3, .box b131 24 [.sl 5 false (f.l.map nodA), aI f.next]), (4, .box b115 26 [aI c.kind, aI c.ino, aI c.to, aI c.at_, aI c.many, aS c.name, aS c.name2, aS c.text])]⟩ sr5 ⟨⟨_, rfl, SubB.refl _⟩, ⟨_, rfl, SubB.refl _⟩, trivial⟩)
 <| .run 1 [b115 = b115] rt1 <|
 .pick [7, 12, 13] <| .run 3 [b1 = b1] rt1 <|
 .join J1 (b131, b115) trivial ⟨[(2, aB false), (3, .ptr 3 b131 0), (4, .ptr 4 b115 0), (5, aI dir), (6, aS s)], [(3, .box b131 24 [.sl 5 false (f.l.map nodA), aI f.next]), (4, .box b115 26 [aI c.kind, aI c.ino, aI c.to, aI c.at_, aI c.many, aS c.name, aS c.name2, aS c.text])]⟩ sr5 ⟨⟨_, rfl, SubB.refl _⟩, ⟨_, rfl, SubB.refl _⟩, trivial⟩)
 <| .alt (.run 1 [b1 = b1] rt1 <|
 .fork <| .alt (.run 1 [b1 = b1] rt1 <|
 .pick [10, 11, 12, 13] <| .run 4 [b131 = b131, b115 = b115] rt2 <|
 .join J1 (b131, b115) trivial ⟨[(2, aB false), (3, .ptr 3 b131 0), (4, .ptr 4 b115 0), (5, aI dir), (6, aS s)], [(3, .box b131 24 [.sl 5 false (f.l.map nodA), aI f.next]), (4, .box b115 26 [aI c.kind, aI c.ino, aI c.to, aI c.at_, aI c.many, aS c.name, aS c.name2, aS c.text])]⟩ sr5 ⟨⟨_, rfl, SubB.refl _⟩, ⟨_, rfl, SubB.refl _⟩, trivial⟩)
 <| .run 1 [b131 = b131] rt1 <|
 .fork <| .alt (.run 1 [b1 = b1] rt1 <|
 .pick [11, 12, 13] <| .run 3 [b115 = b115] rt1 <|
 .join J1 (b131, b115) trivial ⟨[(2, aB false), (3, .ptr 3 b131 0), (4, .ptr 4 b115 0), (5, aI dir), (6, aS s)], [(3, .box b131 24 [.sl 5 false (f.l.map nodA), aI f.next]), (4, .box b115 26 [aI c.kind, aI c.ino, aI c.to, aI c.at_, aI c.many, aS c.name, aS c.name2, aS c.text])]⟩ sr5 ⟨⟨_, rfl, SubB.refl _⟩, ⟨_, rfl, SubB.refl _⟩, trivial⟩)
 <| .run 1 [b115 = b115] rt1 <|
 .pick [5, 12, 13] <| .run 3 [b1 = b1] rt1 <|
 .join J1 (b131, b115) trivial ⟨[(2, aB false), (3, .ptr 3 b131 0), (4, .ptr 4 b115 0), (5, aI dir), (6, aS s)], [(3, .box b131 24 [.sl 5 false (f.l.map nodA), aI f.next]), (4, .box b115 26 [aI c.kind, aI c.ino, aI c.to, aI c.at_, aI c.many, aS c.name, aS c.name2, aS c.text])]⟩ sr5 ⟨⟨_, rfl, SubB.refl _⟩, ⟨_, rfl, SubB.refl _⟩, trivial⟩)
 <| .run 1 [b131 = b131] rt1 <|
 .fork <| .alt (.run 1 [b1 = b1] rt1 <|
 .fork <| .alt (.run 1 [b1 = b1] rt1 <|
 .pick [11, 12, 13] <| .run 3 [b115 = b115] rt1 <|
 .join J1 (b131, b115) trivial ⟨[(2, aB false), (3, .ptr 3 b131 0), (4, .ptr 4 b115 0), (5, aI dir), (6, aS s)], [(3, .box b131 24 [.sl 5 false (f.l.map nodA), aI f.next]), (4, .box b115 26 [aI c.kind, aI c.ino, aI c.to, aI c.at_, aI c.many, aS c.name, aS c.name2, aS c.text])]⟩ sr5 ⟨⟨_, rfl, SubB.refl _⟩, ⟨_, rfl, SubB.refl _⟩, trivial⟩)
 <| .run 1 [b115 = b115] rt1 <|
 .pick [7, 12, 13] <| .run 3 [b1 = b1] rt1 <|
 .join J1 (b131, b115) trivial ⟨[(2, aB false), (3, .ptr 3 b131 0), (4, .ptr 4 b115 0), (5, aI dir), (6, aS s)], [(3, .box b131 24 [.sl 5 false (f.l.map nodA), aI f.next]), (4, .box b115 26 [aI c.kind, aI c.ino, aI c.to, aI c.at_, aI c.many, aS c.name, aS c.name2, aS c.text])]⟩ sr5 ⟨⟨_, rfl, SubB.refl _⟩, ⟨_, rfl, SubB.refl _⟩, trivial⟩)
 <| .alt (.run 1 [b1 = b1] rt1 <|
 .fork <| .alt (.run 1 [b1 = b1] rt1 <|
 .pick [11, 12, 13] <| .run 3 [b115 = b115] rt1 <|
 .join J1 (b131, b115) trivial ⟨[(2, aB false), (3, .ptr 3 b131 0), (4, .ptr 4 b115 0), (5, aI dir), (6, aS s)], [(3, .box b131 24 [.sl 5 false (f.l.map nodA), aI f.next]), (4, .box b115 26 [aI c.kind, aI c.ino, aI c.to, aI c.at_, aI c.many, aS c.name, aS c.name2, aS c.text])]⟩ sr5 ⟨⟨_, rfl, SubB.refl _⟩, ⟨_, rfl, SubB.refl _⟩, trivial⟩)
 <| .run 1 [b115 = b115] rt1 <|
 .pick [5, 12, 13] <| .run 3 [b1 = b1] rt1 <|
 .join J1 (b131, b115) trivial ⟨[(2, aB false), (3, .ptr 3 b131 0), (4, .ptr 4 b115 0), (5, aI dir), (6, aS s)], [(3, .box b131 24 [.sl 5 false (f.l.map nodA), aI f.next]), (4, .box b115 26 [aI c.kind, aI c.ino, aI c.to, aI c.at_, aI c.many, aS c.name, aS c.name2, aS c.text])]⟩ sr5 ⟨⟨_, rfl, SubB.refl _⟩, ⟨_, rfl, SubB.refl _⟩, trivial⟩)
 <| .run 1 [b115 = b115] rt1 <|
 .pick [5, 7, 12, 13] <| .run 4 [b1 = b1, b1 = b1] rt2 <|
 .join J1 (b131, b115) trivial ⟨[(2, aB false), (3, .ptr 3 b131 0), (4, .ptr 4 b115 0), (5, aI dir), (6, aS s)], [(3, .box b131 24 [.sl 5 false (f.l.map nodA), aI f.next]), (4, .box b115 26 [aI c.kind, aI c.ino, aI c.to, aI c.at_, aI c.many, aS c.name, aS c.name2, aS c.text])]⟩ sr5 ⟨⟨_, rfl, SubB.refl _⟩, ⟨_, rfl, SubB.refl _⟩, trivial⟩)
 <| .alt (.run 1 [b1 = b1] rt1 <|
 .fork <| .alt (.run 1 [b1 = b1] rt1 <|
 .fork <| .alt (.run 1 [b1 = b1] rt1 <|
 .pick [10, 11, 12, 13] <| .run 4 [b131 = b131, b115 = b115] rt2 <|
 .join J1 (b131, b115) trivial ⟨[(2, aB false), (3, .ptr 3 b131 0), (4, .ptr 4 b115 0), (5, aI dir), (6, aS s)], [(3, .box b131 24 [.sl 5 false (f.l.map nodA), aI f.next]), (4, .box b115 26 [aI c.kind, aI c.ino, aI c.to, aI c.at_, aI c.many, aS c.name, aS c.name2, aS c.text])]⟩ sr5 ⟨⟨_, rfl, SubB.refl _⟩, ⟨_, rfl, SubB.refl _⟩, trivial⟩)
 <| .run 1 [b131 = b131] rt1 <|
 .fork <| .alt (.run 1 [b1 = b1] rt1 <|
 .pick [11, 12, 13] <| .run 3 [b115 = b115] rt1 <|
 .join J1 (b131, b115) trivial ⟨[(2, aB false), (3, .ptr 3 b131 0), (4, .ptr 4 b115 0), (5, aI dir), (6, aS s)], [(3, .box b131 24 [.sl 5 false (f.l.map nodA), aI f.next]), (4, .box b115 26 [aI c.kind, aI c.ino, aI c.to, aI c.at_, aI c.many, aS c.name, aS c.name2, aS c.text])]⟩ sr5 ⟨⟨_, rfl, SubB.refl _⟩, ⟨_, rfl, SubB.refl _⟩, trivial⟩)
 <| .run 1 [b115 = b115] rt1 <|
 .pick [7, 12, 13] <| .run 3 [b1 = b1] rt1 <|
 .join J1 (b131, b115) trivial ⟨[(2, aB false), (3, .ptr 3 b131 0), (4, .ptr 4 b115 0), (5, aI dir), (6, aS s)], [(3, .box b131 24 [.sl 5 false (f.l.map nodA), aI f.next]), (4, .box b115 26 [aI c.kind, aI c.ino, aI c.to, aI c.at_, aI c.many, aS c.name, aS c.name2, aS c.text])]⟩ sr5 ⟨⟨_, rfl, SubB.refl _⟩, ⟨_, rfl, SubB.refl _⟩, trivial⟩)
 <| .alt (.run 1 [b1 = b1] rt1 <|
 .fork <| .alt (.run 1 [b1 = b1] rt1 <|
 .pick [10, 11, 12, 13] <| .run 4 [b131 = b131, b115 = b115] rt2 <|
 .join J1 (b131, b115) trivial ⟨[(2, aB false), (3, .ptr 3 b131 0), (4, .ptr 4 b115 0), (5, aI dir), (6, aS s)], [(3, .box b131 24 [.sl 5 false (f.l.map nodA), aI f.next]), (4, .box b115 26 [aI c.kind, aI c.ino, aI c.to, aI c.at_, aI c.many, aS c.name, aS c.name2, aS c.text])]⟩ sr5 ⟨⟨_, rfl, SubB.refl _⟩, ⟨_, rfl, SubB.refl _⟩, trivial⟩)
 <| .run 1 [b131 = b131] rt1 <|
 .pick [3, 11, 12, 13] <| .run 4 [b1 = b1, b115 = b115] rt2 <|
 .join J1 (b131, b115) trivial ⟨[(2, aB false), (3, .ptr 3 b131 0), (4, .ptr 4 b115 0), (5, aI dir), (6, aS s)], [(3, .box b131 24 [.sl 5 false (f.l.map nodA), aI f.next]), (4, .box b115 26 [aI c.kind, aI c.ino, aI c.to, aI c.at_, aI c.many, aS c.name, aS c.name2, aS c.text])]⟩ sr5 ⟨⟨_, rfl, SubB.refl _⟩, ⟨_, rfl, SubB.refl _⟩, trivial⟩)
 <| .run 1 [b131 = b131] rt1 <|
 .pick [3] <| .run 1 [b1 = b1] rt1 <|
 .fork <| .alt (.run 1 [b1 = b1] rt1 <|
 .pick [11, 12, 13] <| .run 3 [b115 = b115] rt1 <|
 .join J1 (b131, b115) trivial ⟨[(2, aB false), (3, .ptr 3 b131 0), (4, .ptr 4 b115 0), (5, aI dir), (6, aS s)], [(3, .box b131 24 [.sl 5 false (f.l.map nodA), aI f.next]), (4, .box b115 26 [aI c.kind, aI c.ino, aI c.to, aI c.at_, aI c.many, aS c.name, aS c.name2, aS c.text])]⟩ sr5 ⟨⟨_, rfl, SubB.refl _⟩, ⟨_, rfl, SubB.refl _⟩, trivial⟩)
 <| .run 1 [b115 = b115] rt1 <|
 .pick [7, 12, 13] <| .run 3 [b1 = b1] rt1 <|
 .join J1 (b131, b115) trivial ⟨[(2, aB false), (3, .ptr 3 b131 0), (4, .ptr 4 b115 0), (5, aI dir), (6, aS s)], [(3, .box b131 24 [.sl 5 false (f.l.map nodA), aI f.next]), (4, .box b115 26 [aI c.kind, aI c.ino, aI c.to, aI c.at_, aI c.many, aS c.name, aS c.name2, aS c.text])]⟩ sr5 ⟨⟨_, rfl, SubB.refl _⟩, ⟨_, rfl, SubB.refl _⟩, trivial⟩)
 <| .alt (.run 1 [b1 = b1] rt1 <|
 .fork <| .alt (.run 1 [b1 = b1] rt1 <|
 .fork <| .alt (.run 1 [b1 = b1] rt1 <|
 .pick [10, 11, 12, 13] <| .run 4 [b131 = b131, b115 = b115] rt2 <|
 .join J1 (b131, b115) trivial ⟨[(2, aB false), (3, .ptr 3 b131 0), (4, .ptr 4 b115 0), (5, aI dir), (6, aS s)], [(3, .box b131 24 [.sl 5 false (f.l.map nodA), aI f.next]), (4, .box b115 26 [aI c.kind, aI c.ino, aI c.to, aI c.at_, aI c.many, aS c.name, aS c.name2, aS c.text])]⟩ sr5 ⟨⟨_, rfl, SubB.refl _⟩, ⟨_, rfl, SubB.refl _⟩, trivial⟩)
 <| .run 1 [b131 = b131] rt1 <|
 .fork <| .alt (.run 1 [b1 = b1] rt1 <|
 .pick [11, 12, 13] <| .run 3 [b115 = b115] rt1 <|
 .join J1 (b131, b115) trivial ⟨[(2, aB false), (3, .ptr 3 b131 0), (4, .ptr 4 b115 0), (5, aI dir), (6, aS s)], [(3, .box b131 24 [.sl 5 false (f.l.map nodA), aI f.next]), (4, .box b115 26 [aI c.kind, aI c.ino, aI c.to, aI c.at_, aI c.many, aS c.name, aS c.name2, aS c.text])]⟩ sr5 ⟨⟨_, rfl, SubB.refl _⟩, ⟨_, rfl, SubB.refl _⟩, trivial⟩)
 <| .run 1 [b115 = b115] rt1 <|
 .pick [5, 12, 13] <| .run 3 [b1 = b1] rt1 <|
 .join J1 (b131, b115) trivial ⟨[(2, aB false), (3, .ptr 3 b131 0), (4, .ptr 4 b115 0), (5, aI dir), (6, aS s)], [(3, .box b131 24 [.sl 5 false (f.l.map nodA), aI f.next]), (4, .box b115 26 [aI c.kind, aI c.ino, aI c.to, aI c.at_, aI c.many, aS c.name, aS c.name2, aS c.text])]⟩ sr5 ⟨⟨_, rfl, SubB.refl _⟩, ⟨_, rfl, SubB.refl _⟩, trivial⟩)
 <| .alt (.run 1 [b1 = b1] rt1 <|
 .fork <| .alt (.run 1 [b1 = b1] rt1 <|
 .pick [10, 11, 12, 13] <| .run 4 [b131 = b131, b115 = b115] rt2 <|
 .join J1 (b131, b115) trivial ⟨[(2, aB false), (3, .ptr 3 b131 0), (4, .ptr 4 b115 0), (5, aI dir), (6, aS s)], [(3, .box b131 24 [.sl 5 false (f.l.map nodA), aI f.next]), (4, .box b115 26 [aI c.kind, aI c.ino, aI c.to, aI c.at_, aI c.many, aS c.name, aS c.name2, aS c.text])]⟩ sr5 ⟨⟨_, rfl, SubB.refl _⟩, ⟨_, rfl, SubB.refl _⟩, trivial⟩)
 <| .run 1 [b131 = b131] rt1 <|
 .pick [3, 11, 12, 13] <| .run 4 [b1 = b1, b115 = b115] rt2 <|
 .join J1 (b131, b115) trivial ⟨[(2, aB false), (3, .ptr 3 b131 0), (4, .ptr 4 b115 0), (5, aI dir), (6, aS s)], [(3, .box b131 24 [.sl 5 false (f.l.map nodA), aI f.next]), (4, .box b115 26 [aI c.kind, aI c.ino, aI c.to, aI c.at_, aI c.many, aS c.name, aS c.name2, aS c.text])]⟩ sr5 ⟨⟨_, rfl, SubB.refl _⟩, ⟨_, rfl, SubB.refl _⟩, trivial⟩)
 <| .run 1 [b131 = b131] rt1 <|
 .pick [3] <| .run 1 [b1 = b1] rt1 <|
 .fork <| .alt (.run 1 [b1 = b1] rt1 <|
 .pick [11, 12, 13] <| .run 3 [b115 = b115] rt1 <|
 .join J1 (b131, b115) trivial ⟨[(2, aB false), (3, .ptr 3 b131 0), (4, .ptr 4 b115 0), (5, aI dir), (6, aS s)], [(3, .box b131 24 [.sl 5 false (f.l.map nodA), aI f.next]), (4, .box b115 26 [aI c.kind, aI c.ino, aI c.to, aI c.at_, aI c.many, aS c.name, aS c.name2, aS c.text])]⟩ sr5 ⟨⟨_, rfl, SubB.refl _⟩, ⟨_, rfl, SubB.refl _⟩, trivial⟩)
 <| .run 1 [b115 = b115] rt1 <|
 .pick [5, 12, 13] <| .run 3 [b1 = b1] rt1 <|
 .join J1 (b131, b115) trivial ⟨[(2, aB false), (3, .ptr 3 b131 0), (4, .ptr 4 b115 0), (5, aI dir), (6, aS s)], [(3, .box b131 24 [.sl 5 false (f.l.map nodA), aI f.next]), (4, .box b115 26 [aI c.kind, aI c.ino, aI c.to, aI c.at_, aI c.many, aS c.name, aS c.name2, aS c.text])]⟩ sr5 ⟨⟨_, rfl, SubB.refl _⟩, ⟨_, rfl, SubB.refl _⟩, trivial⟩)
 <| .run 1 [b131 = b131] rt1 <|
 .pick [3] <| .run 1 [b1 = b1] rt1 <|
 .fork <| .alt (.run 1 [b1 = b1] rt1 <|
 .fork <| .alt (.run 1 [b1 = b1] rt1 <|
 .pick [11, 12, 13] <| .run 3 [b115 = b115] rt1 <|
 .join J1 (b131, b115) trivial ⟨[(2, aB false), (3, .ptr 3 b131 0), (4, .ptr 4 b115 0), (5, aI dir), (6, aS s)], [(3, .box b131 24 [.sl 5 false (f.l.map nodA), aI f.next]), (4, .box b115 26 [aI c.kind, aI c.ino, aI c.to, aI c.at_, aI c.many, aS c.name, aS c.name2, aS c.text])]⟩ sr5 ⟨⟨_, rfl, SubB.refl _⟩, ⟨_, rfl, SubB.refl _⟩, trivial⟩)
 <| .run 1 [b115 = b115] rt1 <|
 .pick [7, 12, 13] <| .run 3 [b1 = b1] rt1 <|
 .join J1 (b131, b115) trivial ⟨[(2, aB false), (3, .ptr 3 b131 0), (4, .ptr 4 b115 0), (5, aI dir), (6, aS s)], [(3, .box b131 24 [.sl 5 false (f.l.map nodA), aI f.next]), (4, .box b115 26 [aI c.kind, aI c.ino, aI c.to, aI c.at_, aI c.many, aS c.name, aS c.name2, aS c.text])]⟩ sr5 ⟨⟨_, rfl, SubB.refl _⟩, ⟨_, rfl, SubB.refl _⟩, trivial⟩)
 <| .alt (.run 1 [b1 = b1] rt1 <|
 .fork <| .alt (.run 1 [b1 = b1] rt1 <|
 .pick [11, 12, 13] <| .run 3 [b115 = b115] rt1 <|
 .join J1 (b131, b115) trivial ⟨[(2, aB false), (3, .ptr 3 b131 0), (4, .ptr 4 b115 0), (5, aI dir), (6, aS s)], [(3, .box b131 24 [.sl 5 false (f.l.map nodA), aI f.next]), (4, .box b115 26 [aI c.kind, aI c.ino, aI c.to, aI c.at_, aI c.many, aS c.name, aS c.name2, aS c.text])]⟩ sr5 ⟨⟨_, rfl, SubB.refl _⟩, ⟨_, rfl, SubB.refl _⟩, trivial⟩)
 <| .run 1 [b115 = b115] rt1 <|
 .pick [5, 12, 13] <| .run 3 [b1 = b1] rt1 <|
 .join J1 (b131, b115) trivial ⟨[(2, aB false), (3, .ptr 3 b131 0), (4, .ptr 4 b115 0), (5, aI dir), (6, aS s)], [(3, .box b131 24 [.sl 5 false (f.l.map nodA), aI f.next]), (4, .box b115 26 [aI c.kind, aI c.ino, aI c.to, aI c.at_, aI c.many, aS c.name, aS c.name2, aS c.text])]⟩ sr5 ⟨⟨_, rfl, SubB.refl _⟩, ⟨_, rfl, SubB.refl _⟩, trivial⟩)
 <| .run 1 [b115 = b115] rt1 <|
 .pick [5, 7, 12, 13] <| .run 4 [b1 = b1, b1 = b1] rt2 <|
 .join J1 (b131, b115) trivial ⟨[(2, aB false), (3, .ptr 3 b131 0), (4, .ptr 4 b115 0), (5, aI dir), (6, aS s)], [(3, .box b131 24 [.sl 5 false (f.l.map nodA), aI f.next]), (4, .box b115 26 [aI c.kind, aI c.ino, aI c.to, aI c.at_, aI c.many, aS c.name, aS c.name2, aS c.text])]⟩ sr5 ⟨⟨_, rfl, SubB.refl _⟩, ⟨_, rfl, SubB.refl _⟩, trivial⟩)
 <| fun j1 _ => (fun (b132 : Nat) (b133 : Nat) => .call (shown11) <|
 .r 1 <| .run 1 [b132 = b132] rt1 <|
 .call (few11 f okf) <|
 .r 1 <| .run 4 [b133 = b133] rt1 <|
 .br 35 (c.kind == 15) (fun q1 => have p1 := beqT q1; .r 15 <| .r 3 <| .br 52 (!(dP (fewF f ∧ rightP f ∧ f.next < 1152921504606846976))) (fun q2 => have q2 := notT q2; have p2 := booF q2; .r 13 <| .r 2 <| .fin (x := aB true) (r := aB true) [] trivial (by exact Sub.of_eq (by first | rfl | exact congrArg aB (dP_true.2 hng.2.1) | (refine congrArg aB ?_; simp; done))))
 <| fun q2 => have q2 := notF q2; have p2 := booT q2; have hfr := dP_true.1 q2; have hp := hfr.2.1.1; have hx := hfr.2.2; have T := rightP_tree hfr.1 hfr.2.1; have hmid := midF_of hfr.1 (Kept.self okf T); .run 2 [b133 = b133] rt1 <|
 .callS (args0 := [.sl 8 true ([[aI c.kind, aI c.ino, aI c.to, aI c.at_, aI c.many, aS c.name, aS c.name2, aS c.text]])]) (args := [.sl 8 false ([c].map calA)]) ⟨Sub.loose _ _ _, trivial⟩ (small_spec [c] (by show 1 ≤ _; omega) (fun x hx => by rw [List.mem_singleton.1 hx]; exact okc0)) <|
 .r 3 <| .br 58 (!(dP (smallP [c]))) (fun q3 => have q3 := notT q3; have p3 := booF q3; .r 7 <| .r 2 <| .fin (x := aB true) (r := aB true) [] trivial (by exact Sub.of_eq (by first | rfl | exact congrArg aB (dP_true.2 hng.2.1) | (refine congrArg aB ?_; simp; done))))
 <| fun q3 => have q3 := notF q3; have p3 := booT q3; have okc := small_ok (dP_true.1 q3) (List.mem_singleton.2 rfl) okc0; have kd := kept_do okf okc T (by omega); have htx := (small_txt (dP_true.1 q3) (List.mem_singleton.2 rfl)).2.2; have lul := looksU_len f c; .r 7 <| .r 2 <| .fin (x := aB true) (r := aB true) [] trivial (by exact Sub.of_eq (by first | rfl | exact congrArg aB (dP_true.2 hng.2.1) | (refine congrArg aB ?_; simp; done))))
 <| fun q1 => have p1 := beqF q1; .run 4 [b133 = b133] rt1 <|
 .br 39 (decide (c.kind ≥ 6)) (fun q4 => have p4 := decT q4; .run 6 [b133 = b133] rt1 <|
 .br 45 (decide (c.kind ≤ 8)) (fun q5 => have p5 := decT q5; .r 5 <| .r 3 <| .br 52 (!(dP (fewF f ∧ rightP f ∧ f.next < 1152921504606846976))) (fun q6 => have q6 := notT q6; have p6 := booF q6; .r 13 <| .r 2 <| .fin (x := aB true) (r := aB true) [] trivial (by exact Sub.of_eq (by first | rfl | exact congrArg aB (dP_true.2 hng.2.1) | (refine congrArg aB ?_; simp; done))))
 <| fun q6 => have q6 := notF q6; have p6 := booT q6; have hfr := dP_true.1 q6; have hp := hfr.2.1.1; have hx := hfr.2.2; have T := rightP_tree hfr.1 hfr.2.1; have hmid := midF_of hfr.1 (Kept.self okf T); .run 2 [b133 = b133] rt1 <|
 .callS (args0 := [.sl 8 true ([[aI c.kind, aI c.ino, aI c.to, aI c.at_, aI c.many, aS c.name, aS c.name2, aS c.text]])]) (args := [.sl 8 false ([c].map calA)]) ⟨Sub.loose _ _ _, trivial⟩ (small_spec [c] (by show 1 ≤ _; omega) (fun x hx => by rw [List.mem_singleton.1 hx]; exact okc0)) <|
 .r 3 <| .br 58 (!(dP (smallP [c]))) (fun q7 => have q7 := notT q7; have p7 := booF q7; .r 7 <| .r 2 <| .fin (x := aB true) (r := aB true) [] trivial (by exact Sub.of_eq (by first | rfl | exact congrArg aB (dP_true.2 hng.2.1) | (refine congrArg aB ?_; simp; done))))
 <| fun q7 => have q7 := notF q7; have p7 := booT q7; have okc := small_ok (dP_true.1 q7) (List.mem_singleton.2 rfl) okc0; have kd := kept_do okf okc T (by omega); have htx := (small_txt (dP_true.1 q7) (List.mem_singleton.2 rfl)).2.2; have lul := looksU_len f c; .r 7 <| .r 2 <| .fin (x := aB true) (r := aB true) [] trivial (by exact Sub.of_eq (by first | rfl | exact congrArg aB (dP_true.2 hng.2.1) | (refine congrArg aB ?_; simp; done))))
 <| fun q5 => have p5 := decF q5; .run 5 [b133 = b133] rt1 <|
 .r 3 <| .br 52 (!(dP (fewF f ∧ rightP f ∧ f.next < 1152921504606846976))) (fun q8 => have q8 := notT q8; have p8 := booF q8; .r 13 <| .r 2 <| .fin (x := aB true) (r := aB true) [] trivial (by exact Sub.of_eq (by first | rfl | exact congrArg aB (dP_true.2 hng.2.1) | (refine congrArg aB ?_; simp; done))))
 <| fun q8 => have q8 := notF q8; have p8 := booT q8; have hfr := dP_true.1 q8; have hp := hfr.2.1.1; have hx := hfr.2.2; have T := rightP_tree hfr.1 hfr.2.1; have hmid := midF_of hfr.1 (Kept.self okf T); .run 2 [b133 = b133] rt1 <|
 .callS (args0 := [.sl 8 true ([[aI c.kind, aI c.ino, aI c.to, aI c.at_, aI c.many, aS c.name, aS c.name2, aS c.text]])]) (args := [.sl 8 false ([c].map calA)]) ⟨Sub.loose _ _ _, trivial⟩ (small_spec [c] (by show 1 ≤ _; omega) (fun x hx => by rw [List.mem_singleton.1 hx]; exact okc0)) <|
 .r 3 <| .br 58 (!(dP (smallP [c]))) (fun q9 => have q9 := notT q9; have p9 := booF q9; .r 7 <| .r 2 <| .fin (x := aB true) (r := aB true) [] trivial (by exact Sub.of_eq (by first | rfl | exact congrArg aB (dP_true.2 hng.2.1) | (refine congrArg aB ?_; simp; done))))
 <| fun q9 => have q9 := notF q9; have p9 := booT q9; have okc := small_ok (dP_true.1 q9) (List.mem_singleton.2 rfl) okc0; have kd := kept_do okf okc T (by omega); have htx := (small_txt (dP_true.1 q9) (List.mem_singleton.2 rfl)).2.2; have lul := looksU_len f c; .r 3 <| .br 61 (c.kind == 12) (fun q10 => have p10 := beqT q10; .r 4 <| .r 2 <| .fin (x := aB true) (r := aB true) [] trivial (by exact Sub.of_eq (by first | rfl | exact congrArg aB (dP_true.2 hng.2.1) | (refine congrArg aB ?_; simp; done))))
 <| fun q10 => have p10 := beqF q10; .r 4 <| .br 65 (decide (((s).length : Int) > 100)) (fun q11 => have p11 := decT q11; .r 2 <| .fin (x := aB true) (r := aB true) [] trivial (by exact Sub.of_eq (by first | rfl | exact congrArg aB (dP_true.2 hng.2.1) | (refine congrArg aB ?_; simp; done))))
 <| fun q11 => have p11 := decF q11; .r 1 <| .new fun b134 => .run 1 [b134 = b134] rt1 <|
 .run 4 [b132 = b132, b134 = b134] rt2 <|
 .callS (args0 := [.agg [.sl 5 false (f.l.map nodA), aI f.next], aI dir, aS s, .agg [aI 0, aI 1, aI 0, aS ([110, 101, 119]), aN]]) (args := [.agg [.sl 5 false (f.l.map nodA), aI f.next], aI dir, aS s, .agg [aI 0, aI 1, aI 0, aS ([110, 101, 119]), .sl 2 false (([] : List Ent).map entA)]]) ⟨Sub.refl _, Sub.refl _, Sub.refl _, Sub.aggs ⟨Sub.refl _, Sub.refl _, Sub.refl _, Sub.refl _, Sub.nil _ _, trivial⟩, trivial⟩ (radd_spec f dir s (⟨0, 1, 0, [110, 101, 119], []⟩ : Nod) okf hp (by omega) knew_ok (by omega)) <|
 .r 3 <| .new fun b135 => .run 2 [b135 = b135] rt1 <|
 .run 2 [b132 = b132, b133 = b133] rt2 <|
 .call ((rlooks_eq hp ▸ rlooks_spec f c okf okc hp)) <|
 .r 1 <| .r 1 <| let L1 : Lp (Nat) := ⟨fun a1 => ⟨[(3, .ptr 3 b132 0), (4, .ptr 4 b133 0), (5, aI dir), (6, aS s), (7, aB true), (10, .ptr 10 b134 0), (11, .ptr 11 b135 0), (12, aI (addErr f dir s (⟨0, 1, 0, [110, 101, 119], []⟩ : Nod))), (13, .sl 1 false ((looksU f c).map intA)), (14, aI (a1 : Int))], [(3, .box b132 24 [.sl 5 false (f.l.map nodA), aI f.next]), (4, .box b133 26 [aI c.kind, aI c.ino, aI c.to, aI c.at_, aI c.many, aS c.name, aS c.name2, aS c.text]), (10, .box b134 59 [aI 0, aI 1, aI 0, aS ([110, 101, 119]), aN]), (11, .box b135 24 [.sl 5 false ((if addErr f dir s (⟨0, 1, 0, [110, 101, 119], []⟩ : Nod) = 0 then addF f dir s (addN f (⟨0, 1, 0, [110, 101, 119], []⟩ : Nod)) else f).l.map nodA), aI ((if addErr f dir s (⟨0, 1, 0, [110, 101, 119], []⟩ : Nod) = 0 then addF f dir s (addN f (⟨0, 1, 0, [110, 101, 119], []⟩ : Nod)) else f).next)])]⟩, fun a1 => (looksU f c).length - a1, fun a1 => AllTo (fun _ x => ¬ x = dir ∧ ¬ x = f.next) (looksU f c) a1⟩
 .loop L1 0 (show AllTo (fun _ x => ¬ x = dir ∧ ¬ x = f.next) (looksU f c) 0 from AllTo.zero _ _) ⟨[(3, .ptr 3 b132 0), (4, .ptr 4 b133 0), (5, aI dir), (6, aS s), (7, aB true), (10, .ptr 10 b134 0), (11, .ptr 11 b135 0), (12, aI (addErr f dir s (⟨0, 1, 0, [110, 101, 119], []⟩ : Nod))), (13, .sl 1 false ((looksU f c).map intA)), (14, aI 0)], [(3, .box b132 24 [.sl 5 false (f.l.map nodA), aI f.next]), (4, .box b133 26 [aI c.kind, aI c.ino, aI c.to, aI c.at_, aI c.many, aS c.name, aS c.name2, aS c.text]), (10, .box b134 59 [aI 0, aI 1, aI 0, aS ([110, 101, 119]), aN]), (11, .box b135 24 [.sl 5 false ((if addErr f dir s (⟨0, 1, 0, [110, 101, 119], []⟩ : Nod) = 0 then addF f dir s (addN f (⟨0, 1, 0, [110, 101, 119], []⟩ : Nod)) else f).l.map nodA), aI ((if addErr f dir s (⟨0, 1, 0, [110, 101, 119], []⟩ : Nod) = 0 then addF f dir s (addN f (⟨0, 1, 0, [110, 101, 119], []⟩ : Nod)) else f).next)])]⟩ ⟨Sub.refl _, Sub.refl _, Sub.refl _, Sub.refl _, Sub.refl _, Sub.refl _, Sub.refl _, Sub.refl _, Sub.refl _, Sub.of_eq (congrArg aI (by first | omega | rfl)), trivial⟩ ⟨⟨_, rfl, SubB.refl _⟩, ⟨_, rfl, SubB.refl _⟩, ⟨_, rfl, SubB.refl _⟩, ⟨_, rfl, SubB.refl _⟩, trivial⟩ fun a1 ha1 =>
 (fun (k : Nat) (hH1 : AllTo (fun _ x => ¬ x = dir ∧ ¬ x = f.next) (looksU f c) k) => .r 3 <| .val 81 (show (aI (((looksU f c).map intA).length : Int) : AV) = aI ((looksU f c).length : Int) from by rw [List.length_map]) <| .r 1 <| .br 82 (decide ((k : Int) < ((looksU f c).length : Int))) (fun q12 => have p12 := decT q12; .ord [0, 1, 2, 3, 4, 5, 6, 7, 8, 9, 10, 11, 12, 13, 14] <| .r 2 <| .idxM (looksU f c) intA k (m := (k : Int)) rfl (by omega) fun x1 hx1 =>
 .r 4 <| .br 91 (x1 == dir) (fun q13 => have p13 := beqT q13; .r 8 <| .r 2 <| .fin (x := aB true) (r := aB true) [] trivial (by exact Sub.of_eq (by first | rfl | exact congrArg aB (dP_true.2 hng.2.1) | (refine congrArg aB ?_; simp; done))))
 <| fun q13 => have p13 := beqF q13; .r 2 <| .idx k (m := (k : Int)) (xs := (looksU f c).map intA) (e := intA x1) rfl (map_some hx1) <|
 .run 5 [b132 = b132] rt1 <|
 .br 99 (x1 == f.next) (fun q14 => have p14 := beqT q14; .r 2 <| .fin (x := aB true) (r := aB true) [] trivial (by exact Sub.of_eq (by first | rfl | exact congrArg aB (dP_true.2 hng.2.1) | (refine congrArg aB ?_; simp; done))))
 <| fun q14 => have p14 := beqF q14; .run 3 [rng .i64 ((k : Int) + 1)] ⟨rng64 (by omega) (by omega), trivial⟩ <|
 .back L1 k (k + 1) (show AllTo (fun _ x => ¬ x = dir ∧ ¬ x = f.next) (looksU f c) (k + 1) from (hH1.step hx1 (by refine ⟨?_, ?_⟩ <;> (simp_all; try omega)))) (show (looksU f c).length - (k + 1) < (looksU f c).length - k from (by omega)) ⟨[(3, .ptr 3 b132 0), (4, .ptr 4 b133 0), (5, aI dir), (6, aS s), (7, aB true), (10, .ptr 10 b134 0), (11, .ptr 11 b135 0), (12, aI (addErr f dir s (⟨0, 1, 0, [110, 101, 119], []⟩ : Nod))), (13, .sl 1 false ((looksU f c).map intA)), (14, aI ((k : Int) + 1))], [(3, .box b132 24 [.sl 5 false (f.l.map nodA), aI f.next]), (4, .box b133 26 [aI c.kind, aI c.ino, aI c.to, aI c.at_, aI c.many, aS c.name, aS c.name2, aS c.text]), (10, .box b134 59 [aI 0, aI 1, aI 0, aS ([110, 101, 119]), aN]), (11, .box b135 24 [.sl 5 false ((if addErr f dir s (⟨0, 1, 0, [110, 101, 119], []⟩ : Nod) = 0 then addF f dir s (addN f (⟨0, 1, 0, [110, 101, 119], []⟩ : Nod)) else f).l.map nodA), aI ((if addErr f dir s (⟨0, 1, 0, [110, 101, 119], []⟩ : Nod) = 0 then addF f dir s (addN f (⟨0, 1, 0, [110, 101, 119], []⟩ : Nod)) else f).next)])]⟩ ⟨Sub.refl _, Sub.refl _, Sub.refl _, Sub.refl _, Sub.refl _, Sub.refl _, Sub.refl _, Sub.refl _, Sub.refl _, Sub.of_eq (congrArg aI (by first | omega | rfl)), trivial⟩ ⟨⟨_, rfl, SubB.refl _⟩, ⟨_, rfl, SubB.refl _⟩, ⟨_, rfl, SubB.refl _⟩, ⟨_, rfl, SubB.refl _⟩, trivial⟩)
 <| fun q12 => have p12 := decF q12; .r 2 <| .br 102 ((addErr f dir s (⟨0, 1, 0, [110, 101, 119], []⟩ : Nod)) != 0) (fun q15 => have p15 := bneT q15; .r 2 <| .fin (x := aB true) (r := aB true) [] trivial (by exact Sub.of_eq (by first | rfl | exact congrArg aB (dP_true.2 hng.2.1) | (refine congrArg aB ?_; simp; done))))
 <| fun q15 => have p15 := bneF q15; have he : addErr f dir s (⟨0, 1, 0, [110, 101, 119], []⟩ : Nod) = 0 := (by simpa using q15); have hlk := hH1.full (by omega); have hw : ¬ wholeC c := (by unfold wholeC; omega); have hng := hangs okf T okc knew_ok (by omega) (by omega) hw he (fun x hx => (by obtain ⟨i, hi⟩ := List.getElem?_of_mem hx; exact hlk i x hi)); have K := kept_add okf T knew_ok (by omega) (by omega) he; have kg := kept_do K.ok okc K.tree (by have := K.next.2; omega); have kp := kept_add kd.ok kd.tree knew_ok (by omega) (by have := kd.next.2; omega) hng.2.2.1; .run 2 [b132 = b132, b133 = b133] rt2 <|
 .call (do_spec f c okf okc hp (by omega)) <|
 .r 3 <| .new fun b136 => .new fun b137 => .run 2 [b136 = b136, b137 = b137] rt2 <|
 .run 2 [b135 = b135, b133 = b133] rt2 <|
 .callS (args0 := [.agg [.sl 5 false ((if addErr f dir s (⟨0, 1, 0, [110, 101, 119], []⟩ : Nod) = 0 then addF f dir s (addN f (⟨0, 1, 0, [110, 101, 119], []⟩ : Nod)) else f).l.map nodA), aI ((if addErr f dir s (⟨0, 1, 0, [110, 101, 119], []⟩ : Nod) = 0 then addF f dir s (addN f (⟨0, 1, 0, [110, 101, 119], []⟩ : Nod)) else f).next)], .agg [aI c.kind, aI c.ino, aI c.to, aI c.at_, aI c.many, aS c.name, aS c.name2, aS c.text]]) (args := [.agg [.sl 5 false ((addF f dir s (addN f (⟨0, 1, 0, [110, 101, 119], []⟩ : Nod))).l.map nodA), aI ((addF f dir s (addN f (⟨0, 1, 0, [110, 101, 119], []⟩ : Nod))).next)], .agg [aI c.kind, aI c.ino, aI c.to, aI c.at_, aI c.many, aS c.name, aS c.name2, aS c.text]]) ⟨by rw [if_pos he]; exact Sub.refl _, Sub.refl _, trivial⟩ (do_spec (addF f dir s (addN f (⟨0, 1, 0, [110, 101, 119], []⟩ : Nod))) c K.ok okc K.tree.rows (by have := K.next.2; omega)) <|
 .r 3 <| .new fun b138 => .new fun b139 => .run 2 [b138 = b138, b139 = b139] rt2 <|
 .run 4 [b136 = b136, b134 = b134] rt2 <|
 .callS (args0 := [.agg [.sl 5 false ((doF f c).1.l.map nodA), aI ((doF f c).1.next)], aI dir, aS s, .agg [aI 0, aI 1, aI 0, aS ([110, 101, 119]), aN]]) (args := [.agg [.sl 5 false ((doF f c).1.l.map nodA), aI ((doF f c).1.next)], aI dir, aS s, .agg [aI 0, aI 1, aI 0, aS ([110, 101, 119]), .sl 2 false (([] : List Ent).map entA)]]) ⟨Sub.refl _, Sub.refl _, Sub.refl _, Sub.aggs ⟨Sub.refl _, Sub.refl _, Sub.refl _, Sub.refl _, Sub.nil _ _, trivial⟩, trivial⟩ (radd_spec (doF f c).1 dir s (⟨0, 1, 0, [110, 101, 119], []⟩ : Nod) kd.ok kd.tree.rows (by omega) knew_ok (by have := kd.next.2; omega)) <|
 .r 3 <| .new fun b140 => .run 2 [b140 = b140] rt1 <|
 .ord [0, 1, 2, 3, 4, 5, 6, 7, 8, 9, 10, 11, 12, 13, 15, 16, 14, 17, 18, 19, 20] <| .run 4 [b137 = b137, b139 = b139] rt2 <|
 .call (rsameG_spec (doF f c).2 (doF (addF f dir s (addN f (⟨0, 1, 0, [110, 101, 119], []⟩ : Nod))) c).2 (do_names_le hp) (Nat.le_trans (do_names_le K.tree.rows) (by decide))) <|
 .r 2 <| .is 130 (show (dP ((doF f c).2 = (doF (addF f dir s (addN f (⟨0, 1, 0, [110, 101, 119], []⟩ : Nod))) c).2)) = true from (dP_true.2 hng.1.symm)) <| .run 2 [b138 = b138, b140 = b140] rt2 <|
 .callS (args0 := [.agg [.sl 5 false ((doF (addF f dir s (addN f (⟨0, 1, 0, [110, 101, 119], []⟩ : Nod))) c).1.l.map nodA), aI ((doF (addF f dir s (addN f (⟨0, 1, 0, [110, 101, 119], []⟩ : Nod))) c).1.next)], .agg [.sl 5 false ((if addErr (doF f c).1 dir s (⟨0, 1, 0, [110, 101, 119], []⟩ : Nod) = 0 then addF (doF f c).1 dir s (addN (doF f c).1 (⟨0, 1, 0, [110, 101, 119], []⟩ : Nod)) else (doF f c).1).l.map nodA), aI ((if addErr (doF f c).1 dir s (⟨0, 1, 0, [110, 101, 119], []⟩ : Nod) = 0 then addF (doF f c).1 dir s (addN (doF f c).1 (⟨0, 1, 0, [110, 101, 119], []⟩ : Nod)) else (doF f c).1).next)]]) (args := [.agg [.sl 5 false ((doF (addF f dir s (addN f (⟨0, 1, 0, [110, 101, 119], []⟩ : Nod))) c).1.l.map nodA), aI ((doF (addF f dir s (addN f (⟨0, 1, 0, [110, 101, 119], []⟩ : Nod))) c).1.next)], .agg [.sl 5 false ((addF (doF f c).1 dir s (addN (doF f c).1 (⟨0, 1, 0, [110, 101, 119], []⟩ : Nod))).l.map nodA), aI ((addF (doF f c).1 dir s (addN (doF f c).1 (⟨0, 1, 0, [110, 101, 119], []⟩ : Nod))).next)]]) ⟨Sub.refl _, by rw [if_pos hng.2.2.1]; exact Sub.refl _, trivial⟩ (fsame_spec (doF (addF f dir s (addN f (⟨0, 1, 0, [110, 101, 119], []⟩ : Nod))) c).1 (addF (doF f c).1 dir s (addN (doF f c).1 (⟨0, 1, 0, [110, 101, 119], []⟩ : Nod))) kg.ok kp.ok) <|
 .r 2 <| .is 135 (show (dP ((doF (addF f dir s (addN f (⟨0, 1, 0, [110, 101, 119], []⟩ : Nod))) c).1 = (addF (doF f c).1 dir s (addN (doF f c).1 (⟨0, 1, 0, [110, 101, 119], []⟩ : Nod))))) = true from (dP_true.2 hng.2.2.2)) <| .run 4 [b132 = b132, b133 = b133, b135 = b135, b133 = b133] rt4 <|
 .call (looksG_spec f c okf okc hp) <|
 .callS (args0 := [.agg [.sl 5 false ((if addErr f dir s (⟨0, 1, 0, [110, 101, 119], []⟩ : Nod) = 0 then addF f dir s (addN f (⟨0, 1, 0, [110, 101, 119], []⟩ : Nod)) else f).l.map nodA), aI ((if addErr f dir s (⟨0, 1, 0, [110, 101, 119], []⟩ : Nod) = 0 then addF f dir s (addN f (⟨0, 1, 0, [110, 101, 119], []⟩ : Nod)) else f).next)], .agg [aI c.kind, aI c.ino, aI c.to, aI c.at_, aI c.many, aS c.name, aS c.name2, aS c.text]]) (args := [.agg [.sl 5 false ((addF f dir s (addN f (⟨0, 1, 0, [110, 101, 119], []⟩ : Nod))).l.map nodA), aI ((addF f dir s (addN f (⟨0, 1, 0, [110, 101, 119], []⟩ : Nod))).next)], .agg [aI c.kind, aI c.ino, aI c.to, aI c.at_, aI c.many, aS c.name, aS c.name2, aS c.text]]) ⟨by rw [if_pos he]; exact Sub.refl _, Sub.refl _, trivial⟩ (looksG_spec (addF f dir s (addN f (⟨0, 1, 0, [110, 101, 119], []⟩ : Nod))) c K.ok okc K.tree.rows) <|
 .call (ints_spec (looksU f c) (looksU (addF f dir s (addN f (⟨0, 1, 0, [110, 101, 119], []⟩ : Nod))) c) (by have := looksU_len f c; omega) (by have := looksU_len (addF f dir s (addN f (⟨0, 1, 0, [110, 101, 119], []⟩ : Nod))) c; omega)) <|
 .r 2 <| .fin (x := aB (dP (looksU f c = looksU (addF f dir s (addN f (⟨0, 1, 0, [110, 101, 119], []⟩ : Nod))) c))) (r := aB true) [] trivial (by exact Sub.of_eq (by first | rfl | exact congrArg aB (dP_true.2 hng.2.1) | (refine congrArg aB ?_; simp; done)))) a1 ha1)
 <| fun q4 => have p4 := decF q4; .run 11 [b133 = b133] rt1 <|
 .r 3 <| .br 52 (!(dP (fewF f ∧ rightP f ∧ f.next < 1152921504606846976))) (fun q16 => have q16 := notT q16; have p16 := booF q16; .r 13 <| .r 2 <| .fin (x := aB true) (r := aB true) [] trivial (by exact Sub.of_eq (by first | rfl | exact congrArg aB (dP_true.2 hng.2.1) | (refine congrArg aB ?_; simp; done))))
 <| fun q16 => have q16 := notF q16; have p16 := booT q16; have hfr := dP_true.1 q16; have hp := hfr.2.1.1; have hx := hfr.2.2; have T := rightP_tree hfr.1 hfr.2.1; have hmid := midF_of hfr.1 (Kept.self okf T); .run 2 [b133 = b133] rt1 <|
 .callS (args0 := [.sl 8 true ([[aI c.kind, aI c.ino, aI c.to, aI c.at_, aI c.many, aS c.name, aS c.name2, aS c.text]])]) (args := [.sl 8 false ([c].map calA)]) ⟨Sub.loose _ _ _, trivial⟩ (small_spec [c] (by show 1 ≤ _; omega) (fun x hx => by rw [List.mem_singleton.1 hx]; exact okc0)) <|
 .r 3 <| .br 58 (!(dP (smallP [c]))) (fun q17 => have q17 := notT q17; have p17 := booF q17; .r 7 <| .r 2 <| .fin (x := aB true) (r := aB true) [] trivial (by exact Sub.of_eq (by first | rfl | exact congrArg aB (dP_true.2 hng.2.1) | (refine congrArg aB ?_; simp; done))))
 <| fun q17 => have q17 := notF q17; have p17 := booT q17; have okc := small_ok (dP_true.1 q17) (List.mem_singleton.2 rfl) okc0; have kd := kept_do okf okc T (by omega); have htx := (small_txt (dP_true.1 q17) (List.mem_singleton.2 rfl)).2.2; have lul := looksU_len f c; .r 3 <| .is 61 (show (c.kind == 12) = false from (by simp; omega)) <| .r 4 <| .br 65 (decide (((s).length : Int) > 100)) (fun q18 => have p18 := decT q18; .r 2 <| .fin (x := aB true) (r := aB true) [] trivial (by exact Sub.of_eq (by first | rfl | exact congrArg aB (dP_true.2 hng.2.1) | (refine congrArg aB ?_; simp; done))))
 <| fun q18 => have p18 := decF q18; .r 1 <| .new fun b141 => .run 1 [b141 = b141] rt1 <|
 .run 4 [b132 = b132, b141 = b141] rt2 <|
 .callS (args0 := [.agg [.sl 5 false (f.l.map nodA), aI f.next], aI dir, aS s, .agg [aI 0, aI 1, aI 0, aS ([110, 101, 119]), aN]]) (args := [.agg [.sl 5 false (f.l.map nodA), aI f.next], aI dir, aS s, .agg [aI 0, aI 1, aI 0, aS ([110, 101, 119]), .sl 2 false (([] : List Ent).map entA)]]) ⟨Sub.refl _, Sub.refl _, Sub.refl _, Sub.aggs ⟨Sub.refl _, Sub.refl _, Sub.refl _, Sub.refl _, Sub.nil _ _, trivial⟩, trivial⟩ (radd_spec f dir s (⟨0, 1, 0, [110, 101, 119], []⟩ : Nod) okf hp (by omega) knew_ok (by omega)) <|
 .r 3 <| .new fun b142 => .run 2 [b142 = b142] rt1 <|
 .run 2 [b132 = b132, b133 = b133] rt2 <|
 .call ((rlooks_eq hp ▸ rlooks_spec f c okf okc hp)) <|
 .r 1 <| .r 1 <| let L1 : Lp (Nat) := ⟨fun a1 => ⟨[(3, .ptr 3 b132 0), (4, .ptr 4 b133 0), (5, aI dir), (6, aS s), (7, aB true), (10, .ptr 10 b141 0), (11, .ptr 11 b142 0), (12, aI (addErr f dir s (⟨0, 1, 0, [110, 101, 119], []⟩ : Nod))), (13, .sl 1 false ((looksU f c).map intA)), (14, aI (a1 : Int))], [(3, .box b132 24 [.sl 5 false (f.l.map nodA), aI f.next]), (4, .box b133 26 [aI c.kind, aI c.ino, aI c.to, aI c.at_, aI c.many, aS c.name, aS c.name2, aS c.text]), (10, .box b141 59 [aI 0, aI 1, aI 0, aS ([110, 101, 119]), aN]), (11, .box b142 24 [.sl 5 false ((if addErr f dir s (⟨0, 1, 0, [110, 101, 119], []⟩ : Nod) = 0 then addF f dir s (addN f (⟨0, 1, 0, [110, 101, 119], []⟩ : Nod)) else f).l.map nodA), aI ((if addErr f dir s (⟨0, 1, 0, [110, 101, 119], []⟩ : Nod) = 0 then addF f dir s (addN f (⟨0, 1, 0, [110, 101, 119], []⟩ : Nod)) else f).next)])]⟩, fun a1 => (looksU f c).length - a1, fun a1 => AllTo (fun _ x => ¬ x = dir ∧ ¬ x = f.next) (looksU f c) a1⟩
 .loop L1 0 (show AllTo (fun _ x => ¬ x = dir ∧ ¬ x = f.next) (looksU f c) 0 from AllTo.zero _ _) ⟨[(3, .ptr 3 b132 0), (4, .ptr 4 b133 0), (5, aI dir), (6, aS s), (7, aB true), (10, .ptr 10 b141 0), (11, .ptr 11 b142 0), (12, aI (addErr f dir s (⟨0, 1, 0, [110, 101, 119], []⟩ : Nod))), (13, .sl 1 false ((looksU f c).map intA)), (14, aI 0)], [(3, .box b132 24 [.sl 5 false (f.l.map nodA), aI f.next]), (4, .box b133 26 [aI c.kind, aI c.ino, aI c.to, aI c.at_, aI c.many, aS c.name, aS c.name2, aS c.text]), (10, .box b141 59 [aI 0, aI 1, aI 0, aS ([110, 101, 119]), aN]), (11, .box b142 24 [.sl 5 false ((if addErr f dir s (⟨0, 1, 0, [110, 101, 119], []⟩ : Nod) = 0 then addF f dir s (addN f (⟨0, 1, 0, [110, 101, 119], []⟩ : Nod)) else f).l.map nodA), aI ((if addErr f dir s (⟨0, 1, 0, [110, 101, 119], []⟩ : Nod) = 0 then addF f dir s (addN f (⟨0, 1, 0, [110, 101, 119], []⟩ : Nod)) else f).next)])]⟩ ⟨Sub.refl _, Sub.refl _, Sub.refl _, Sub.refl _, Sub.refl _, Sub.refl _, Sub.refl _, Sub.refl _, Sub.refl _, Sub.of_eq (congrArg aI (by first | omega | rfl)), trivial⟩ ⟨⟨_, rfl, SubB.refl _⟩, ⟨_, rfl, SubB.refl _⟩, ⟨_, rfl, SubB.refl _⟩, ⟨_, rfl, SubB.refl _⟩, trivial⟩ fun a1 ha1 =>
 (fun (k : Nat) (hH1 : AllTo (fun _ x => ¬ x = dir ∧ ¬ x = f.next) (looksU f c) k) => .r 3 <| .val 81 (show (aI (((looksU f c).map intA).length : Int) : AV) = aI ((looksU f c).length : Int) from by rw [List.length_map]) <| .r 1 <| .br 82 (decide ((k : Int) < ((looksU f c).length : Int))) (fun q19 => have p19 := decT q19; .ord [0, 1, 2, 3, 4, 5, 6, 7, 8, 9, 10, 11, 12, 13, 14] <| .r 2 <| .idxM (looksU f c) intA k (m := (k : Int)) rfl (by omega) fun x2 hx2 =>
 .r 4 <| .br 91 (x2 == dir) (fun q20 => have p20 := beqT q20; .r 8 <| .r 2 <| .fin (x := aB true) (r := aB true) [] trivial (by exact Sub.of_eq (by first | rfl | exact congrArg aB (dP_true.2 hng.2.1) | (refine congrArg aB ?_; simp; done))))
 <| fun q20 => have p20 := beqF q20; .r 2 <| .idx k (m := (k : Int)) (xs := (looksU f c).map intA) (e := intA x2) rfl (map_some hx2) <|
 .run 5 [b132 = b132] rt1 <|
 .br 99 (x2 == f.next) (fun q21 => have p21 := beqT q21; .r 2 <| .fin (x := aB true) (r := aB true) [] trivial (by exact Sub.of_eq (by first | rfl | exact congrArg aB (dP_true.2 hng.2.1) | (refine congrArg aB ?_; simp; done))))
 <| fun q21 => have p21 := beqF q21; .run 3 [rng .i64 ((k : Int) + 1)] ⟨rng64 (by omega) (by omega), trivial⟩ <|
 .back L1 k (k + 1) (show AllTo (fun _ x => ¬ x = dir ∧ ¬ x = f.next) (looksU f c) (k + 1) from (hH1.step hx2 (by refine ⟨?_, ?_⟩ <;> (simp_all; try omega)))) (show (looksU f c).length - (k + 1) < (looksU f c).length - k from (by omega)) ⟨[(3, .ptr 3 b132 0), (4, .ptr 4 b133 0), (5, aI dir), (6, aS s), (7, aB true), (10, .ptr 10 b141 0), (11, .ptr 11 b142 0), (12, aI (addErr f dir s (⟨0, 1, 0, [110, 101, 119], []⟩ : Nod))), (13, .sl 1 false ((looksU f c).map intA)), (14, aI ((k : Int) + 1))], [(3, .box b132 24 [.sl 5 false (f.l.map nodA), aI f.next]), (4, .box b133 26 [aI c.kind, aI c.ino, aI c.to, aI c.at_, aI c.many, aS c.name, aS c.name2, aS c.text]), (10, .box b141 59 [aI 0, aI 1, aI 0, aS ([110, 101, 119]), aN]), (11, .box b142 24 [.sl 5 false ((if addErr f dir s (⟨0, 1, 0, [110, 101, 119], []⟩ : Nod) = 0 then addF f dir s (addN f (⟨0, 1, 0, [110, 101, 119], []⟩ : Nod)) else f).l.map nodA), aI ((if addErr f dir s (⟨0, 1, 0, [110, 101, 119], []⟩ : Nod) = 0 then addF f dir s (addN f (⟨0, 1, 0, [110, 101, 119], []⟩ : Nod)) else f).next)])]⟩ ⟨Sub.refl _, Sub.refl _, Sub.refl _, Sub.refl _, Sub.refl _, Sub.refl _, Sub.refl _, Sub.refl _, Sub.refl _, Sub.of_eq (congrArg aI (by first | omega | rfl)), trivial⟩ ⟨⟨_, rfl, SubB.refl _⟩, ⟨_, rfl, SubB.refl _⟩, ⟨_, rfl, SubB.refl _⟩, ⟨_, rfl, SubB.refl _⟩, trivial⟩)
 <| fun q19 => have p19 := decF q19; .r 2 <| .br 102 ((addErr f dir s (⟨0, 1, 0, [110, 101, 119], []⟩ : Nod)) != 0) (fun q22 => have p22 := bneT q22; .r 2 <| .fin (x := aB true) (r := aB true) [] trivial (by exact Sub.of_eq (by first | rfl | exact congrArg aB (dP_true.2 hng.2.1) | (refine congrArg aB ?_; simp; done))))
 <| fun q22 => have p22 := bneF q22; have he : addErr f dir s (⟨0, 1, 0, [110, 101, 119], []⟩ : Nod) = 0 := (by simpa using q22); have hlk := hH1.full (by omega); have hw : ¬ wholeC c := (by unfold wholeC; omega); have hng := hangs okf T okc knew_ok (by omega) (by omega) hw he (fun x hx => (by obtain ⟨i, hi⟩ := List.getElem?_of_mem hx; exact hlk i x hi)); have K := kept_add okf T knew_ok (by omega) (by omega) he; have kg := kept_do K.ok okc K.tree (by have := K.next.2; omega); have kp := kept_add kd.ok kd.tree knew_ok (by omega) (by have := kd.next.2; omega) hng.2.2.1; .run 2 [b132 = b132, b133 = b133] rt2 <|
 .call (do_spec f c okf okc hp (by omega)) <|
 .r 3 <| .new fun b143 => .new fun b144 => .run 2 [b143 = b143, b144 = b144] rt2 <|
 .run 2 [b142 = b142, b133 = b133] rt2 <|
 .callS (args0 := [.agg [.sl 5 false ((if addErr f dir s (⟨0, 1, 0, [110, 101, 119], []⟩ : Nod) = 0 then addF f dir s (addN f (⟨0, 1, 0, [110, 101, 119], []⟩ : Nod)) else f).l.map nodA), aI ((if addErr f dir s (⟨0, 1, 0, [110, 101, 119], []⟩ : Nod) = 0 then addF f dir s (addN f (⟨0, 1, 0, [110, 101, 119], []⟩ : Nod)) else f).next)], .agg [aI c.kind, aI c.ino, aI c.to, aI c.at_, aI c.many, aS c.name, aS c.name2, aS c.text]]) (args := [.agg [.sl 5 false ((addF f dir s (addN f (⟨0, 1, 0, [110, 101, 119], []⟩ : Nod))).l.map nodA), aI ((addF f dir s (addN f (⟨0, 1, 0, [110, 101, 119], []⟩ : Nod))).next)], .agg [aI c.kind, aI c.ino, aI c.to, aI c.at_, aI c.many, aS c.name, aS c.name2, aS c.text]]) ⟨by rw [if_pos he]; exact Sub.refl _, Sub.refl _, trivial⟩ (do_spec (addF f dir s (addN f (⟨0, 1, 0, [110, 101, 119], []⟩ : Nod))) c K.ok okc K.tree.rows (by have := K.next.2; omega)) <|
 .r 3 <| .new fun b145 => .new fun b146 => .run 2 [b145 = b145, b146 = b146] rt2 <|
 .run 4 [b143 = b143, b141 = b141] rt2 <|
 .callS (args0 := [.agg [.sl 5 false ((doF f c).1.l.map nodA), aI ((doF f c).1.next)], aI dir, aS s, .agg [aI 0, aI 1, aI 0, aS ([110, 101, 119]), aN]]) (args := [.agg [.sl 5 false ((doF f c).1.l.map nodA), aI ((doF f c).1.next)], aI dir, aS s, .agg [aI 0, aI 1, aI 0, aS ([110, 101, 119]), .sl 2 false (([] : List Ent).map entA)]]) ⟨Sub.refl _, Sub.refl _, Sub.refl _, Sub.aggs ⟨Sub.refl _, Sub.refl _, Sub.refl _, Sub.refl _, Sub.nil _ _, trivial⟩, trivial⟩ (radd_spec (doF f c).1 dir s (⟨0, 1, 0, [110, 101, 119], []⟩ : Nod) kd.ok kd.tree.rows (by omega) knew_ok (by have := kd.next.2; omega)) <|
 .r 3 <| .new fun b147 => .run 2 [b147 = b147] rt1 <|
 .ord [0, 1, 2, 3, 4, 5, 6, 7, 8, 9, 10, 11, 12, 13, 15, 16, 14, 17, 18, 19, 20] <| .run 4 [b144 = b144, b146 = b146] rt2 <|
 .call (rsameG_spec (doF f c).2 (doF (addF f dir s (addN f (⟨0, 1, 0, [110, 101, 119], []⟩ : Nod))) c).2 (do_names_le hp) (Nat.le_trans (do_names_le K.tree.rows) (by decide))) <|
 .r 2 <| .is 130 (show (dP ((doF f c).2 = (doF (addF f dir s (addN f (⟨0, 1, 0, [110, 101, 119], []⟩ : Nod))) c).2)) = true from (dP_true.2 hng.1.symm)) <| .run 2 [b145 = b145, b147 = b147] rt2 <|
 .callS (args0 := [.agg [.sl 5 false ((doF (addF f dir s (addN f (⟨0, 1, 0, [110, 101, 119], []⟩ : Nod))) c).1.l.map nodA), aI ((doF (addF f dir s (addN f (⟨0, 1, 0, [110, 101, 119], []⟩ : Nod))) c).1.next)], .agg [.sl 5 false ((if addErr (doF f c).1 dir s (⟨0, 1, 0, [110, 101, 119], []⟩ : Nod) = 0 then addF (doF f c).1 dir s (addN (doF f c).1 (⟨0, 1, 0, [110, 101, 119], []⟩ : Nod)) else (doF f c).1).l.map nodA), aI ((if addErr (doF f c).1 dir s (⟨0, 1, 0, [110, 101, 119], []⟩ : Nod) = 0 then addF (doF f c).1 dir s (addN (doF f c).1 (⟨0, 1, 0, [110, 101, 119], []⟩ : Nod)) else (doF f c).1).next)]]) (args := [.agg [.sl 5 false ((doF (addF f dir s (addN f (⟨0, 1, 0, [110, 101, 119], []⟩ : Nod))) c).1.l.map nodA), aI ((doF (addF f dir s (addN f (⟨0, 1, 0, [110, 101, 119], []⟩ : Nod))) c).1.next)], .agg [.sl 5 false ((addF (doF f c).1 dir s (addN (doF f c).1 (⟨0, 1, 0, [110, 101, 119], []⟩ : Nod))).l.map nodA), aI ((addF (doF f c).1 dir s (addN (doF f c).1 (⟨0, 1, 0, [110, 101, 119], []⟩ : Nod))).next)]]) ⟨Sub.refl _, by rw [if_pos hng.2.2.1]; exact Sub.refl _, trivial⟩ (fsame_spec (doF (addF f dir s (addN f (⟨0, 1, 0, [110, 101, 119], []⟩ : Nod))) c).1 (addF (doF f c).1 dir s (addN (doF f c).1 (⟨0, 1, 0, [110, 101, 119], []⟩ : Nod))) kg.ok kp.ok) <|
 .r 2 <| .is 135 (show (dP ((doF (addF f dir s (addN f (⟨0, 1, 0, [110, 101, 119], []⟩ : Nod))) c).1 = (addF (doF f c).1 dir s (addN (doF f c).1 (⟨0, 1, 0, [110, 101, 119], []⟩ : Nod))))) = true from (dP_true.2 hng.2.2.2)) <| .run 4 [b132 = b132, b133 = b133, b142 = b142, b133 = b133] rt4 <|
 .call (looksG_spec f c okf okc hp) <|
 .callS (args0 := [.agg [.sl 5 false ((if addErr f dir s (⟨0, 1, 0, [110, 101, 119], []⟩ : Nod) = 0 then addF f dir s (addN f (⟨0, 1, 0, [110, 101, 119], []⟩ : Nod)) else f).l.map nodA), aI ((if addErr f dir s (⟨0, 1, 0, [110, 101, 119], []⟩ : Nod) = 0 then addF f dir s (addN f (⟨0, 1, 0, [110, 101, 119], []⟩ : Nod)) else f).next)], .agg [aI c.kind, aI c.ino, aI c.to, aI c.at_, aI c.many, aS c.name, aS c.name2, aS c.text]]) (args := [.agg [.sl 5 false ((addF f dir s (addN f (⟨0, 1, 0, [110, 101, 119], []⟩ : Nod))).l.map nodA), aI ((addF f dir s (addN f (⟨0, 1, 0, [110, 101, 119], []⟩ : Nod))).next)], .agg [aI c.kind, aI c.ino, aI c.to, aI c.at_, aI c.many, aS c.name, aS c.name2, aS c.text]]) ⟨by rw [if_pos he]; exact Sub.refl _, Sub.refl _, trivial⟩ (looksG_spec (addF f dir s (addN f (⟨0, 1, 0, [110, 101, 119], []⟩ : Nod))) c K.ok okc K.tree.rows) <|
 .call (ints_spec (looksU f c) (looksU (addF f dir s (addN f (⟨0, 1, 0, [110, 101, 119], []⟩ : Nod))) c) (by have := looksU_len f c; omega) (by have := looksU_len (addF f dir s (addN f (⟨0, 1, 0, [110, 101, 119], []⟩ : Nod))) c; omega)) <|
 .r 2 <| .fin (x := aB (dP (looksU f c = looksU (addF f dir s (addN f (⟨0, 1, 0, [110, 101, 119], []⟩ : Nod))) c))) (r := aB true) [] trivial (by exact Sub.of_eq (by first | rfl | exact congrArg aB (dP_true.2 hng.2.1) | (refine congrArg aB ?_; simp; done)))) a1 ha1) j1.1 j1.2) Tryz.func9 rfl (by kernel_rfl) (by kernel_rfl)
theorem opsHangs_spec (a : Hng) (h : OkHng a) : FSpec Tryz.prog 9 [.agg (hngA a)] (aB true) := opsHangs_data a.f a.c a.dir a.s h.f h.c h.dir h.s
end Go.Proofs.YtkhnialfkndiiaaGreat
