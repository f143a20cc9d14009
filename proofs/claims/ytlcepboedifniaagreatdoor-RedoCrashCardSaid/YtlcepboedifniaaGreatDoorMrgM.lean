/- strings.Trim of one byte; redo.stands. redo.stands. Records one behind the other: the mathematics. Boxes lent to a callee, what they hold behind the call known: the callee's contract, and the call. Over any program. redo.found$1. -/
import Derived.Test.YtlcepboedifniaaGreatDoorMrgK
import Derived.Test.YtlcepboedifniaaGreatDoorMrgH
set_option linter.unusedVariables false
set_option linter.unusedSimpArgs false
namespace Go.Proofs.YtlcepboedifniaaGreatDoor
open Go Go.RowKit Copyhold
def kR (c : UInt8) (s : Txt) : Nat → Nat
  | 0 => 0
  | k + 1 => if s[k]? = some c then kR c s k else k + 1
def trimR (c : UInt8) (s : Txt) : Txt := s.take (kR c s s.length)
def trimL (c : UInt8) (s : Txt) : Txt := s.dropWhile (· == c)
theorem kR_yes {c : UInt8} {s : Txt} {k : Nat} (h : s[k]? = some c) : kR c s (k + 1) = kR c s k := if_pos h
theorem kR_no {c b : UInt8} {s : Txt} {k : Nat} (h : s[k]? = some b) (hb : ¬ b = c) : kR c s (k + 1) = k + 1 := if_neg (fun e => hb (by rw [h] at e; exact Option.some.inj e))
theorem kR_all (c : UInt8) (s : Txt) : ∀ k j b, kR c s k ≤ j → j < k → s[j]? = some b → b = c
  | 0, j, b, _, h, _ => absurd h (by omega)
  | k + 1, j, b, h1, h2, h3 => by
    unfold kR at h1
    split at h1
    · rename_i h
      by_cases e : j = k
      · subst e; rw [h] at h3; exact (Option.some.inj h3).symm
      · exact kR_all c s k j b h1 (by omega) h3
    · omega
theorem trimL_nil_iff {c : UInt8} : ∀ {t : Txt}, trimL c t = [] ↔ ∀ b ∈ t, b = c
  | [] => by simp [trimL]
  | x :: r => by
    unfold trimL
    rw [List.dropWhile_cons]
    by_cases h : x = c
    · subst h
      have := trimL_nil_iff (c := x) (t := r)
      unfold trimL at this
      simp [this]
    · simp [h]
theorem trim_nil {c : UInt8} {s : Txt} : trimL c (trimR c s) = [] ↔ ∀ b ∈ s, b = c := by
  rw [trimL_nil_iff]
  unfold trimR
  constructor
  · intro h b hb
    obtain ⟨j, hj⟩ := List.getElem?_of_mem hb
    by_cases hk : j < kR c s s.length
    · have : b ∈ s.take (kR c s s.length) := List.mem_of_getElem? (i := j) (by rw [List.getElem?_take, if_pos hk]; exact hj)
      exact h b this
    · exact kR_all c s s.length j b (by omega) (List.getElem?_eq_some_iff.1 hj).1 hj
  · intro h b hb
    exact h b (List.mem_of_mem_take hb)
theorem trimL_step {c b : UInt8} {s : Txt} {k : Nat} (h : (s.drop k)[0]? = some b) (hb : b = c) : trimL c (s.drop k) = trimL c (s.drop (k + 1)) := by
  rw [show s.drop (k + 1) = (s.drop k).drop 1 from by rw [List.drop_drop]]
  cases e : s.drop k with
  | nil => rw [e] at h; cases h
  | cons x r =>
    rw [e] at h
    obtain rfl := Option.some.inj h
    subst hb
    simp [trimL, List.dropWhile_cons]
theorem trimL_end {c b : UInt8} {t : Txt} (h : t[0]? = some b) (hb : ¬ b = c) : trimL c t = t := by
  cases t with
  | nil => cases h
  | cons x r =>
    obtain rfl := Option.some.inj h
    simp [trimL, List.dropWhile_cons, hb]
theorem u8_eq {a b : UInt8} (h : (a.toNat : Int) = (b.toNat : Int)) : a = b := UInt8.toNat_inj.1 (by omega)
theorem u8_ne {a b : UInt8} (h : ¬ (a.toNat : Int) = (b.toNat : Int)) : ¬ a = b := fun e => h (by rw [e])
theorem take_at {s : Txt} {k j : Nat} {b : UInt8} (h : (s.take k)[j]? = some b) : s[j]? = some b := by
  rw [List.getElem?_take] at h
  split at h
  · exact h
  · cases h
set_option maxRecDepth 100000 in
set_option maxHeartbeats 4000000 in
theorem trimR_spec (s : Txt) (c : UInt8) (hs : s.length ≤ 140737488355328) : FSpec Tryz.prog 78 [aS s, .val (.int .u8 (c.toNat : Int))] (aS (trimR c s)) := by
  exact spec_vd Tryz.func78 (
 .r 1 <| let L1 : Lp (Nat) := ⟨fun a1 => ⟨[(1, .val (.int .u8 (c.toNat : Int))), (0, aS (s.take a1))], []⟩, fun a1 => a1, fun a1 => a1 ≤ s.length ∧ kR c s s.length = kR c s a1⟩
 .lp L1 s.length ⟨Nat.le_refl _, rfl⟩ [(0, aS s)] [] ⟨Sub.refl _, Sub.of_eq (congrArg aS (by simp)), trivial⟩ trivial fun a1 ha1 =>
 (fun (k : Nat) (hH1 : k ≤ s.length ∧ kR c s s.length = kR c s k) => have hlk : (s.take k).length = k := (by rw [List.length_take]; omega); .r 4 <| .br 8 (decide (((s.take k).length : Int) > 0)) (fun q1 => have p1 := decT q1; .run 4 [rng .i64 (((s.take k).length : Int) - 1)] ⟨rng64 (by omega) (by omega), trivial⟩ <|
 .byte ((s.take k).length - 1) (m := ((s.take k).length : Int) - 1) (tx := s.take k) (by omega) (by omega) fun c1 hc1 =>
 .r 1 <| .binV .eql 5 (eqlN (k := .u8) (a := (c1.toNat : Int)) (b := (c.toNat : Int))) <|
 .r 1 <| .br 16 ((c1.toNat : Int) == (c.toNat : Int)) (fun q2 => have p2 := beqT q2; .run 4 [rng .i64 (((s.take k).length : Int) - 1)] ⟨rng64 (by omega) (by omega), trivial⟩ <|
 .slcS (s.take k) none (some (((s.take k).length : Int) - 1)) 0 ((s.take k).length - 1) (.inl ⟨rfl, rfl⟩) (.inr (congrArg some (by omega))) (by first | omega | (simp; done) | (simp; omega)) (by first | omega | (simp; done) | (simp; omega)) <|
 .r 1 <| .bk L1 k (k - 1) ⟨by omega, by rw [hH1.2]; have e := kR_yes (k := k - 1) (c := c) (s := s) (by have := take_at hc1; rw [List.length_take, Nat.min_eq_left hH1.1] at this; rw [this, u8_eq (a := c1) (b := c) (by assumption)]); rwa [show k - 1 + 1 = k from by omega] at e⟩ (show (k - 1) < k from (by omega)) [(0, aS (((s.take k).take ((s.take k).length - 1)).drop 0))] [] ⟨Sub.refl _, Sub.of_eq (congrArg aS (by rw [List.drop_zero, List.take_take, List.length_take, Nat.min_eq_left hH1.1, Nat.min_eq_left (by omega)])), trivial⟩ trivial)
 <| fun q2 => have p2 := beqF q2; .r 2 <| .f (aS (trimR c s)) [] (aS (s.take k)) (by
    refine Sub.of_eq (congrArg aS ?_)
    unfold trimR
    rw [hH1.2]
    have e := kR_no (k := k - 1) (s := s) (by have := take_at hc1; rw [hlk] at this; exact this) (u8_ne (by assumption))
    rw [show k - 1 + 1 = k from by omega] at e
    rw [e]))
 <| fun q1 => have p1 := decF q1; .r 8 <| .r 2 <| .f (aS (trimR c s)) [] (aS (s.take k)) (by
    refine Sub.of_eq (congrArg aS ?_)
    unfold trimR
    rw [hH1.2, show k = 0 from by omega]
    rfl)) a1 ha1)
set_option maxRecDepth 100000 in
set_option maxHeartbeats 4000000 in
theorem trimL_spec (s : Txt) (c : UInt8) (hs : s.length ≤ 140737488355328) : FSpec Tryz.prog 77 [aS s, .val (.int .u8 (c.toNat : Int))] (aS (trimL c s)) := by
  exact spec_vd Tryz.func77 (
 .r 1 <| let L1 : Lp (Nat) := ⟨fun a1 => ⟨[(1, .val (.int .u8 (c.toNat : Int))), (0, aS (s.drop a1))], []⟩, fun a1 => s.length - a1, fun a1 => a1 ≤ s.length ∧ trimL c s = trimL c (s.drop a1)⟩
 .lp L1 0 ⟨Nat.zero_le _, rfl⟩ [(0, aS s)] [] ⟨Sub.refl _, Sub.of_eq (congrArg aS rfl), trivial⟩ trivial fun a1 ha1 =>
 (fun (k : Nat) (hH1 : k ≤ s.length ∧ trimL c s = trimL c (s.drop k)) => have hlk : (s.drop k).length = s.length - k := List.length_drop ..; .r 4 <| .br 8 (decide (((s.drop k).length : Int) > 0)) (fun q1 => have p1 := decT q1; .r 1 <| .byte 0 (m := 0) (tx := s.drop k) rfl (by omega) fun c1 hc1 =>
 .r 1 <| .binV .eql 5 (eqlN (k := .u8) (a := (c1.toNat : Int)) (b := (c.toNat : Int))) <|
 .r 1 <| .br 13 ((c1.toNat : Int) == (c.toNat : Int)) (fun q2 => have p2 := beqT q2; .r 1 <| .slcS (s.drop k) (some 1) none 1 ((s.drop k).length) (.inr rfl) (.inl ⟨rfl, rfl⟩) (by first | omega | (simp; done) | (simp; omega)) (by first | omega | (simp; done) | (simp; omega)) <|
 .r 1 <| .bk L1 k (k + 1) ⟨by have := (List.getElem?_eq_some_iff.1 hc1).1; rw [List.length_drop] at this; omega, by rw [hH1.2]; exact trimL_step hc1 (u8_eq (by assumption))⟩ (show s.length - (k + 1) < s.length - k from (by have := (List.getElem?_eq_some_iff.1 hc1).1; rw [List.length_drop] at this; omega)) [(0, aS (((s.drop k).take ((s.drop k).length)).drop 1))] [] ⟨Sub.refl _, Sub.of_eq (congrArg aS (by rw [List.take_length, List.drop_drop])), trivial⟩ trivial)
 <| fun q2 => have p2 := beqF q2; .r 2 <| .f (aS (trimL c s)) [] (aS (s.drop k)) (by exact Sub.of_eq (congrArg aS (by rw [hH1.2]; exact (trimL_end hc1 (u8_ne (by assumption))).symm))))
 <| fun q1 => have p1 := decF q1; .r 5 <| .r 2 <| .f (aS (trimL c s)) [] (aS (s.drop k)) (by exact Sub.of_eq (congrArg aS (by rw [hH1.2, show s.drop k = [] from List.eq_nil_of_length_eq_zero (by omega)]; rfl)))) a1 ha1)
theorem one_zero {c : UInt8} (h : ([0] : Txt)[0]? = some c) : c = 0 := (Option.some.inj h).symm
set_option maxRecDepth 100000 in
set_option maxHeartbeats 4000000 in
theorem trim_spec (s : Txt) (hs : s.length ≤ 140737488355328) : FSpec Tryz.prog 67 [aS s, aS ([0])] (aS (trimL 0 (trimR 0 s))) := by
  have h1 : ([0] : Txt).length = 1 := rfl
  exact spec_vd Tryz.func67 (
 .r 1 <| .r 3 <| .br 9 (s == ([])) (fun q1 => have p1 := beqT q1; .r 3 <| .r 2 <| .f (aS (trimL 0 (trimR 0 s))) [] (aS s) (by exact Sub.of_eq (congrArg aS (by rw [show s = [] from by assumption]; rfl))))
 <| fun q1 => have p1 := beqF q1; .r 3 <| .is 12 (show (([0]) == ([])) = false from (by decide)) <| .r 4 <| .is 17 (show ((([0]).length : Int) == 1) = true from (by decide)) <| .r 1 <| .byte 0 (m := 0) (tx := [0]) rfl (by omega) fun c1 hc1 =>
 .binV .lss 5 (lssN (k := .u8) (a := (c1.toNat : Int)) (b := 128)) <|
 .r 1 <| .is 21 (show (decide ((c1.toNat : Int) < 128)) = true from (by rw [one_zero hc1]; decide)) <| .ord [0, 1, 2, 4, 5, 3, 6, 7] <| .r 2 <| .byte 0 (m := 0) (tx := [0]) rfl (by omega) fun c2 hc2 =>
 .r 1 <| .byte 0 (m := 0) (tx := [0]) rfl (by omega) fun c3 hc3 =>
 .call (trimR_spec s c2 hs) <|
 .call (trimL_spec (trimR c2 s) c3 (by unfold trimR; rw [List.length_take]; omega)) <|
 .r 1 <| .f (aS (trimL 0 (trimR 0 s))) [] (aS (trimL c3 (trimR c2 s))) (by
    rw [one_zero hc3, one_zero hc2]
    exact Sub.refl _))
end Go.Proofs.YtlcepboedifniaaGreatDoor

set_option linter.unusedVariables false
set_option linter.unusedSimpArgs false
namespace Go.Proofs.YtlcepboedifniaaGreatDoor
open Go Go.RowKit Copyhold
def tkG (g : Txt) (n : Int) : Txt × Txt × Int := takeText (cutP g (num8 n)).1 ((cutP g (num8 n)).1.length : Int)
def recG (g : Txt) (n : Int) : Txt := recB n (tkG g n).1
def szG (g : Txt) (n : Int) : Nat := sec (recG g n).length * 64
def behG (g : Txt) (n : Int) : Txt × Bool := cutP (g.take (szG g n)) (recG g n)
def stG (g : Txt) (n : Int) : Txt × Bool :=
  if (cutP g (num8 n)).2 = true then
    if (tkG g n).2.2 = 0 then
      if szG g n ≤ g.length then ((tkG g n).1, (behG g n).2 && (trimL 0 (trimR 0 (behG g n).1) == [])) else ([], false)
    else ([], false)
  else ([], false)
theorem cutP_len (s p : Txt) : (cutP s p).1.length ≤ s.length := by
  unfold cutP
  split
  · simp
  · exact Nat.le_refl _
theorem takeText_le (l : Txt) (m : Int) : (takeText l m).1.length ≤ l.length := (takeText_bd l m).1
theorem tkG_len (g : Txt) (n : Int) : (tkG g n).1.length ≤ g.length := Nat.le_trans (takeText_le _ _) (cutP_len _ _)
set_option maxRecDepth 100000 in
set_option maxHeartbeats 4000000 in
theorem stands_spec (g : Txt) (n : Int) (hg : g.length ≤ 100000) (hn : U64 n) : FSpec Tryz.prog 54 [aS g, .val (.int .u64 n)] (.tup [aS (stG g n).1, aB (stG g n).2]) := by
  have h1 := cutP_len g (num8 n)
  have h2 := tkG_len g n
  have h3 := recB_len n (tkG g n).1
  have h4 := textB_len (tkG g n).1 (by omega)
  have h5 : (recG g n).length = (recB n (tkG g n).1).length := rfl
  have h6 : (behG g n).1.length ≤ (g.take (szG g n)).length := cutP_len _ _
  have h7 : (g.take (szG g n)).length ≤ g.length := by rw [List.length_take]; omega
  have h8 : sec (recG g n).length ≤ (recG g n).length + 1 := by unfold sec; omega
  exact spec_vd Tryz.func54 (
 .r 2 <| .r 2 <| .call (number_spec n hn) <|
 .call (cutPrefix_spec g (num8 n) (by omega) (by rw [num8_len]; omega)) <|
 .r 5 <| .r 2 <| .br 22 (!((cutP g (num8 n)).2)) (fun q1 => have q1 := notT q1; have p1 := booF q1; .r 2 <| .f (.tup [aS (stG g n).1, aB (stG g n).2]) [] (.tup [aS ([]), aB false]) (by
    rw [show stG g n = _ from by unfold stG; rw [if_neg (by rw [q1]; decide)]]
    exact Sub.tups ⟨Sub.refl _, Sub.of_eq (congrArg aB (by simp_all)), trivial⟩))
 <| fun q1 => have q1 := notF q1; have p1 := booT q1; .r 3 <| .call (otake_spec (cutP g (num8 n)).1 ((cutP g (num8 n)).1.length : Int) (by omega) ⟨by omega, by omega⟩) <|
 .r 7 <| .r 2 <| .bn 32 ((tkG g n).2.2) 0 (fun p2 => .r 2 <| .f (.tup [aS (stG g n).1, aB (stG g n).2]) [] (.tup [aS ([]), aB false]) (by
    rw [show stG g n = _ from by unfold stG; rw [if_pos q1, if_neg p2]]
    exact Sub.tups ⟨Sub.refl _, Sub.of_eq (congrArg aB (by simp_all)), trivial⟩))
 <| fun p2 => .r 2 <| .call (record_spec n (tkG g n).1 hn (by omega)) <|
 .r 1 <| .r 2 <| .call (sectors_spec (recG g n).length (by omega)) <|
 .run 1 [rng .i64 ((sec (recG g n).length : Int) * 64)] ⟨rng64 (by omega) (by omega), trivial⟩ <|
 .val 39 (show (aI ((sec (recG g n).length : Int) * 64) : AV) = aI (szG g n : Int) from (congrArg aI (show _ = ((sec (recG g n).length * 64 : Nat) : Int) from by omega))) <| .r 1 <| .r 4 <| .bd 43 ((szG g n : Int) > ((g).length : Int)) (fun p3 => .r 2 <| .f (.tup [aS (stG g n).1, aB (stG g n).2]) [] (.tup [aS ([]), aB false]) (by
    rw [show stG g n = _ from by unfold stG; rw [if_pos q1, if_pos p2, if_neg (by omega)]]
    exact Sub.tups ⟨Sub.refl _, Sub.of_eq (congrArg aB (by simp_all)), trivial⟩))
 <| fun p3 => .r 2 <| .slcS g none (some (szG g n : Int)) 0 (szG g n) (.inl ⟨rfl, rfl⟩) (.inr rfl) (by first | omega | (simp; done) | (simp; omega)) (by first | omega | (simp; done) | (simp; omega)) <|
 .r 1 <| .cs (args0 := [aS ((g.take (szG g n)).drop 0), aS (recG g n)]) (cutPrefix_spec (g.take (szG g n)) (recG g n) (by rw [List.length_take]; omega) (by omega)) ⟨Sub.of_eq (congrArg aS List.drop_zero), Sub.refl _, trivial⟩ <|
 .r 5 <| .r 3 <| .bb 54 ((behG g n).2) (fun p4 => .r 1 <| .call (trim_spec (behG g n).1 (by omega)) <|
 .r 4 <| .f (.tup [aS (stG g n).1, aB (stG g n).2]) [] (.tup [aS ((tkG g n).1), aB ((trimL 0 (trimR 0 (behG g n).1)) == ([]))]) (by
    rw [show stG g n = _ from by unfold stG; rw [if_pos q1, if_pos p2, if_pos (by omega)]]
    exact Sub.tups ⟨Sub.refl _, Sub.of_eq (congrArg aB (by simp_all)), trivial⟩))
 <| fun p4 => .r 6 <| .f (.tup [aS (stG g n).1, aB (stG g n).2]) [] (.tup [aS ((tkG g n).1), aB false]) (by
    rw [show stG g n = _ from by unfold stG; rw [if_pos q1, if_pos p2, if_pos (by omega)]]
    exact Sub.tups ⟨Sub.refl _, Sub.of_eq (congrArg aB (by simp_all)), trivial⟩))
end Go.Proofs.YtlcepboedifniaaGreatDoor

set_option linter.unusedVariables false
set_option linter.unusedSimpArgs false
namespace Go.Proofs.YtlcepboedifniaaGreatDoor
open Go Go.RowKit Copyhold
theorem needB_pos (s : Txt) : 1 ≤ needB s := by unfold needB sec; rw [recB_len]; omega
theorem need_rec (n : Int) (s : Txt) : sec (recB n s).length = needB s := by unfold needB; rw [recB_len, recB_len]
theorem szG_need (g : Txt) (n : Int) : szG g n = 64 * needB (tkG g n).1 := by
  unfold szG recG
  rw [need_rec, Nat.mul_comm]
def sumN (ts : List Txt) : Nat := (ts.map needB).sum
theorem sumN_snoc (ts : List Txt) (s : Txt) : sumN (ts ++ [s]) = sumN ts + needB s := by simp [sumN]
theorem sumN_len (ts : List Txt) : ts.length ≤ sumN ts := by
  induction ts with
  | nil => simp [sumN]
  | cons a r ih => have := needB_pos a; simp only [sumN, List.map_cons, List.sum_cons, List.length_cons] at *; omega
theorem st_fits {g : Txt} {n : Int} (h : (stG g n).2 = true) : (stG g n).1 = (tkG g n).1 ∧ 64 * needB (stG g n).1 ≤ g.length := by
  unfold stG at h ⊢
  split at h
  · rename_i h1
    rw [if_pos h1]
    split at h
    · rename_i h2
      rw [if_pos h2]
      split at h
      · rename_i h3
        rw [if_pos h3]
        exact ⟨rfl, by rw [← szG_need]; exact h3⟩
      · cases h
    · cases h
  · cases h
theorem st_nil (n : Int) : (stG [] n).2 = false := by
  cases h : (stG [] n).2 with
  | false => rfl
  | true =>
    have := (st_fits h).2
    have := needB_pos (stG [] n).1
    simp at *
    omega
def recsF : Nat → Txt → Int → List Txt
  | 0, _, _ => []
  | f + 1, g, n => if (stG g n).2 = true then (stG g n).1 :: recsF f (g.drop (64 * needB (stG g n).1)) ((n + 1) % 18446744073709551616) else []
def recsG (g : Txt) (n : Int) : List Txt := recsF g.length g n
theorem recs_at : ∀ (k f : Nat) (g : Txt) (n : Int), U64 n → k ≤ (recsF f g n).length → (recsF f g n).drop k = recsF (f - k) (g.drop (64 * sumN ((recsF f g n).take k))) ((n + k) % 18446744073709551616)
  | 0, f, g, n, hn, _ => by
    obtain ⟨h0, h1⟩ := hn
    rw [List.drop_zero, List.take_zero, show (n + ((0 : Nat) : Int)) % 18446744073709551616 = n from by rw [Int.emod_eq_of_lt (by omega) (by omega)]; omega]
    rfl
  | k + 1, 0, g, n, hn, h => by simp [recsF] at h
  | k + 1, f + 1, g, n, hn, h => by
    obtain ⟨h0, h1⟩ := hn
    rw [recsF] at h ⊢
    split at h
    · rename_i hs
      rw [if_pos hs]
      have ih := recs_at k f (g.drop (64 * needB (stG g n).1)) ((n + 1) % 18446744073709551616) ⟨by omega, by omega⟩ (by simpa using h)
      rw [List.drop_succ_cons, ih, List.take_succ_cons, List.drop_drop, show f + 1 - (k + 1) = f - k from by omega]
      have e1 : 64 * needB (stG g n).1 + 64 * sumN ((recsF f (g.drop (64 * needB (stG g n).1)) ((n + 1) % 18446744073709551616)).take k) = 64 * sumN ((stG g n).1 :: (recsF f (g.drop (64 * needB (stG g n).1)) ((n + 1) % 18446744073709551616)).take k) := by
        simp only [sumN, List.map_cons, List.sum_cons]; omega
      have e2 : ((n + 1) % 18446744073709551616 + (k : Int)) % 18446744073709551616 = (n + ((k + 1 : Nat) : Int)) % 18446744073709551616 := by omega
      rw [e1, e2]
    · simp at h
theorem recs_sum : ∀ (f : Nat) (g : Txt) (n : Int), 64 * sumN (recsF f g n) ≤ g.length
  | 0, g, n => by simp [recsF, sumN]
  | f + 1, g, n => by
    rw [recsF]
    split
    · rename_i hs
      have h1 := (st_fits hs).2
      have := recs_sum f (g.drop (64 * needB (stG g n).1)) ((n + 1) % 18446744073709551616)
      rw [List.length_drop] at this
      simp only [sumN, List.map_cons, List.sum_cons] at this ⊢
      omega
    · simp [sumN]
theorem sumN_take (ts : List Txt) (k : Nat) : sumN (ts.take k) ≤ sumN ts := by
  conv => rhs; rw [← List.take_append_drop k ts]
  simp only [sumN, List.map_append, List.sum_append]
  omega
theorem recs_next {g : Txt} {n : Int} {k : Nat} (hn : U64 n) (hk : k ≤ (recsG g n).length) :
    ((stG (g.drop (64 * sumN ((recsG g n).take k))) ((n + k) % 18446744073709551616)).2 = true → (recsG g n)[k]? = some (stG (g.drop (64 * sumN ((recsG g n).take k))) ((n + k) % 18446744073709551616)).1) ∧
    ((stG (g.drop (64 * sumN ((recsG g n).take k))) ((n + k) % 18446744073709551616)).2 = false → k = (recsG g n).length) := by
  have h := recs_at k g.length g n hn hk
  have hs := recs_sum g.length g n
  have ht := sumN_take (recsG g n) k
  have hl := sumN_len ((recsG g n).take k)
  rw [List.length_take, Nat.min_eq_left hk] at hl
  change (recsG g n).drop k = recsF (g.length - k) (g.drop (64 * sumN ((recsG g n).take k))) _ at h
  change 64 * sumN (recsG g n) ≤ g.length at hs
  generalize hg : g.drop (64 * sumN ((recsG g n).take k)) = q at *
  generalize hm : (n + k) % 18446744073709551616 = m at *
  have hq : q.length = g.length - 64 * sumN ((recsG g n).take k) := by rw [← hg, List.length_drop]
  have hd : (recsG g n)[k]? = ((recsG g n).drop k)[0]? := by rw [List.getElem?_drop]; rfl
  cases hf : g.length - k with
  | zero =>
    have : q = [] := List.eq_nil_of_length_eq_zero (by omega)
    rw [this, st_nil]
    rw [hf, recsF] at h
    refine ⟨fun h => (by cases h), fun _ => ?_⟩
    have := congrArg List.length h
    rw [List.length_drop] at this
    simp at this
    omega
  | succ f =>
    rw [hf, recsF] at h
    constructor
    · intro hst
      rw [if_pos hst] at h
      rw [hd, h]
      rfl
    · intro hst
      rw [if_neg (by rw [hst]; decide)] at h
      have := congrArg List.length h
      rw [List.length_drop] at this
      simp at this
      omega
def tellL (b : Lg) (nd mx : Int) : Lg := if b.many < mx then ⟨b.at_, b.used + nd, b.first, b.many + 1⟩ else b
def tellT (ts : List Txt) (s : Txt) (b : Lg) (mx : Int) : List Txt := if b.many < mx then ts ++ [s] else ts
end Go.Proofs.YtlcepboedifniaaGreatDoor

set_option linter.unusedVariables false
set_option linter.unusedSimpArgs false
namespace Go.Proofs.YtlcepboedifniaaGreatDoor
open Go Go.RowKit Copyhold
def LSpecN (P : Program) (f : FuncId) (args : List AV) (ys : List (Nat × Bx)) (r : AV) (ys' : Value → List (Nat × Bx)) : Prop :=
  ∀ (D : Nat → Prop) (w : World) (vs : Array Value), (∀ b, D b → b < w.heap.size) → RaAll D w args vs → (∀ p ∈ ys, BoxR D w p.2) → (∀ p ∈ ys, ∀ g, p.2.blk = some g → ¬ D g) → ApartN ys →
    Calls P f vs w (fun e w' => ∃ V v, ∃ D' : Nat → Prop, e = .returned v ∧ Below 0 w w' ∧ (∀ k, ¬ Lends ys k → k < w.heap.size → w'.heap[k]? = w.heap[k]?) ∧ (∀ b, D b → D' b) ∧
      (∀ b, D' b → b < w'.heap.size ∧ (D b ∨ Lends ys b ∨ w.heap.size ≤ b)) ∧ (∀ p ∈ ys' V, ∀ g, p.2.blk = some g → (Lends ys g ∨ w.heap.size ≤ g) ∧ ¬ D' g) ∧ (∀ p ∈ ys' V, BoxR D' w' p.2) ∧ ApartN (ys' V) ∧ Ra D' w' r v)
theorem bget_mem : ∀ {l : List (Nat × Bx)} {i : Nat} {x : Bx}, bget l i = some x → (i, x) ∈ l
  | [], _, _, h => by cases h
  | (k, y) :: r, i, x, h => by
    simp only [bget] at h
    cases hb : Nat.beq k i with
    | true =>
      rw [hb] at h
      obtain rfl := Option.some.inj h
      obtain rfl := Nat.eq_of_beq_eq_true hb
      exact List.mem_cons_self ..
    | false => rw [hb] at h; exact List.mem_cons_of_mem _ (bget_mem h)
theorem lspecN_vc {P : Program} {f : FuncId} {F : Func} {code : Code} {args : List AV} {ys : List (Nat × Bx)} {ys' : Value → List (Nat × Bx)} {r : AV} (n : Nat) (ct : Ct P) (hf : P.funcs[f]? = some F) (hb : F.body = some code)
    (hk : (decide (args.length ≤ F.ntmps) && (P.follows .mixedOrders && (F.results.toList.all fun rv => decide ((match rv with | .tmp t => t | .cell t _ => t) < F.ntmps)))) = true)
    (h : vcC ct = vc P F (.valBs r ys') n ct (.code code) [] ⟨initL args 0, ys⟩) : LSpecN P f args ys r ys' := by
  simp only [Bool.and_eq_true] at hk
  have hsz : args.length ≤ F.ntmps := of_decide_eq_true hk.1
  have hn := hk.2.2
  have hv : vc P F (.valBs r ys') n ct (.code code) [] ⟨initL args 0, ys⟩ := h ▸ vcC_true ct
  intro D w vs hD hvs hy hyD hap
  refine calls_of_wp hf hb ?_
  let c : Cx := ⟨w.heap.size, w, F.ntmps, D, Lends ys⟩
  have hawp : AWp c P code (FinG P F (.valBs r ys')) (LS.mk (initL args 0) ys).fs := vc_sound (c := c) rfl hk.2.1 n ct (.code code) [] _ hv
  have htm : ∀ t, (LS.mk (initL args 0) ys).fs.tm t = args.getD t .any := fun t => by
    show lget (initL args 0) t = _
    rw [lget_initL]; simp
  have hrel : Rel c (LS.mk (initL args 0) ys).fs { tmps := vs ++ Array.replicate (F.ntmps - vs.size) undef, defers := [] } w := by
    refine ⟨Nat.le_refl _, D, rfl, ?_, BelowL.refl (c := c), hD, ⟨fun _ h => h, fun _ h => .inl h⟩, fun t v hv => ?_, fun id x h => ?_, fun i j x z hx hz hij => ?_⟩
    · have := hvs.1
      simp [c]
      omega
    · rw [htm]
      by_cases ht : t < vs.size
      · rw [Array.getElem?_append_left ht] at hv
        have hta : t < args.length := by rw [hvs.1]; exact ht
        have := hvs.2 t args[t] v (List.getElem?_eq_getElem hta) hv
        simpa [List.getD, List.getElem?_eq_getElem hta] using this
      · have hta : args.length ≤ t := by rw [hvs.1]; omega
        have : args.getD t .any = .any := by simp [List.getD, List.getElem?_eq_none hta]
        rw [this]
        exact .any v
    · have hm := bget_mem (l := ys) h
      exact ⟨fun g hg => ⟨.inr ⟨_, hm, hg⟩, hyD _ hm g hg⟩, hy _ hm⟩
    · exact hap _ (bget_mem (l := ys) hx) _ (bget_mem (l := ys) hz) hij
  refine wp_mono (hawp _ _ hrel) fun e' a' w' ⟨s', hq, hc, D', hR⟩ => ?_
  obtain ⟨he, hd, V, hbs⟩ := hq
  have hn' : ∀ rv ∈ F.results.toList, (match rv with | .tmp t => t | .cell t _ => t) < c.n := fun rv hrv => by
    have := List.all_eq_true.1 hn rv hrv
    simpa using this
  obtain ⟨v, hv1, hrv⟩ := run_results hR hn' hd
  have fin : ∃ V u, ∃ D'' : Nat → Prop, Ending.returned v = .returned u ∧ Below 0 w w' ∧ (∀ k, ¬ Lends ys k → k < w.heap.size → w'.heap[k]? = w.heap[k]?) ∧ (∀ b, D b → D'' b) ∧
      (∀ b, D'' b → b < w'.heap.size ∧ (D b ∨ Lends ys b ∨ w.heap.size ≤ b)) ∧ (∀ p ∈ ys' V, ∀ g, p.2.blk = some g → (Lends ys g ∨ w.heap.size ≤ g) ∧ ¬ D'' g) ∧ (∀ p ∈ ys' V, BoxR D'' w' p.2) ∧ ApartN (ys' V) ∧ Ra D'' w' r u :=
    ⟨V, v, D', rfl, ⟨hR.below.os, hR.below.tape, hR.below.output, hR.below.size, fun k hk => absurd hk (by omega)⟩, fun k hk hl => hR.below.block k hl hk, hR.old.1,
      fun b hb => ⟨hR.dlt b hb, (hR.old.2 b hb).imp id fun h => h.symm⟩, fun p hp g hg => ⟨((hR.bx p.1 p.2 (hbs p hp)).1 g hg).1.symm, ((hR.bx p.1 p.2 (hbs p hp)).1 g hg).2⟩, fun p hp => (hR.bx p.1 p.2 (hbs p hp)).2,
      fun p hp q hq hne g hg => hR.apart p.1 q.1 p.2 q.2 (hbs p hp) (hbs q hq) hne g hg, hrv⟩
  rcases he with rfl | rfl
  · exact ⟨hR.defers, v, hv1, fin⟩
  · exact ⟨hR.defers, v, hv1, fin⟩
def lnR (P : Program) (ys : List (Nat × Bx)) (ops : Array Oper) (s : LS) (i : Nat) : Option ((FuncId × List AV × Option Tmp) × List (Nat × Bx)) :=
  match callO ops s i, bxsOf s ys with
  | some (f, args, d), some l => bif entB P f then some ((f, args, d), l) else none
  | _, _ => none
theorem rule_lentN {P : Program} {f : FuncId} {args args' : List AV} {d : Option Tmp} {ys : List (Nat × Bx)} {ys' : Value → List (Nat × Bx)} {r : AV} (hs : SubAll args args') (hsp : LSpecN P f args' ys r ys') (hkey : ∀ V, (ys' V).map Prod.fst = ys.map Prod.fst) :
    ∀ (ops : Array Oper) (i : Nat) (s : LS) (K : FS → Prop), lnR P ys ops s i = some ((f, args, d), ys) → (∀ V : Value, K (setBsL (s.put d r) (ys' V)).fs) → StepL P ops i s.fs K := by
  intro ops i s K h kk
  unfold lnR at h
  split at h
  · rename_i f' args0 d' l hc hr
    cases he : entB P f' with
    | false => rw [he] at h; cases h
    | true =>
      rw [he] at h
      simp only [cond_true, Option.some.injEq, Prod.mk.injEq] at h
      obtain ⟨⟨rfl, rfl, rfl⟩, rfl⟩ := h
      obtain ⟨o, hi, hg, hrd, hd, hrun⟩ := callO_run (P := P) hc
      refine ⟨o, hi, hg, .inr ⟨l, ys', r, ⟨bxsOf_ok hr, hkey, ?_⟩, fun V => ?_⟩⟩
      · intro D w a Q K' hD hops hbx hnd hap hcont
        obtain ⟨hl, hsa⟩ := hs.ok
        obtain ⟨vs, h1, h2⟩ := hrun D w a.eval hops
        have hra : RaAll D w args' vs := by
          refine ⟨by rw [← hl]; exact h2.1, fun j x v hx hv => ?_⟩
          have hj : j < args0.length := by have := (List.getElem?_eq_some_iff.1 hx).1; omega
          exact hsa j args0[j] x (List.getElem?_eq_getElem hj) hx D w v (h2.2 j args0[j] v (List.getElem?_eq_getElem hj) hv)
        unfold Oper.wp
        rw [h1, entB_ok he, Oper.upon_enter]
        refine (hsp D w _ hD hra hbx hnd hap).mono ?_
        rintro e' w' ⟨V, v, D', rfl, g1, g2, g3, g4, g6, g7, g8, g5⟩
        exact hcont V v w' D' g1 g2 g3 g4 g6 g7 g8 g5
      · rw [hd, LS.fs_put, ← fs_setBs]
        exact kk V
  · cases h
theorem lspecN_vd {P : Program} {f : FuncId} {F : Func} {code : Code} {args : List AV} {ys : List (Nat × Bx)} {ys' : Value → List (Nat × Bx)} {r : AV} (hf : P.funcs[f]? = some F) (ct : Ct P) (n : Nat := 400) (hb : F.body = some code := by rfl)
    (hk : (decide (args.length ≤ F.ntmps) && (P.follows .mixedOrders && (F.results.toList.all fun rv => decide ((match rv with | .tmp t => t | .cell t _ => t) < F.ntmps)))) = true := by kernel_rfl)
    (h : vcC ct = vc P F (.valBs r ys') n ct (.code code) [] ⟨initL args 0, ys⟩ := by kernel_rfl) : LSpecN P f args ys r ys' := lspecN_vc n ct hf hb hk h
end Go.Proofs.YtlcepboedifniaaGreatDoor

set_option linter.unusedVariables false
set_option linter.unusedSimpArgs false
namespace Go.Proofs.YtlcepboedifniaaGreatDoor
open Go Go.RowKit Copyhold
set_option maxRecDepth 100000 in
set_option maxHeartbeats 4000000 in
theorem found1_yes (bb bm bt : Nat) (V0 : Value) (s : Txt) (nd mx : Int) (b : Lg) (ts : List Txt) (hb : 0 ≤ b.used ∧ b.used ≤ 1000000) (hm : 0 ≤ b.many ∧ b.many ≤ 1000000) (hd : 0 ≤ nd ∧ nd ≤ 1000000) (hl : ts.length ≤ 1000000) (h : b.many < mx) : LSpecN Tryz.prog 43 [aS s, aI nd, .ptr 11 bb 0, .ptr 7 bm 0, .ptr 10 bt 0] [(11, .box bb 30 [aI b.at_, aI b.used, .val (.int .u64 b.first), aI b.many]), (7, .box bm 3 [aI mx]), (10, .box bt 22 [.rw 100 V0 ts.length]), (100, .row V0 9 1 (ts.map txA))] (aB true) (fun V => [(11, .box bb 30 [aI b.at_, aI (b.used + nd), .val (.int .u64 b.first), aI (b.many + 1)]), (7, .box bm 3 [aI mx]), (10, .box bt 22 [.rw 100 V ((ts.map txA).length + 1)]), (100, .row V 9 1 (ts.map txA ++ [[aS s]]))]) := by
  exact lspecN_vd Tryz.func43 (
 .r 1 <| .run 4 [bb = bb, bm = bm] ⟨rfl, rfl, trivial⟩ <|
 .is 11 (show (decide (b.many ≥ mx)) = false from (by simp; omega)) <| .run 5 [bb = bb, rng .i64 (b.many + 1), bb = bb] ⟨rfl, rng64 (by omega) (by omega), rfl, trivial⟩ <|
 .run 6 [bb = bb, rng .i64 (b.used + nd), bb = bb] ⟨rfl, rng64 (by omega) (by omega), rfl, trivial⟩ <|
 .run 3 [bt = bt] ⟨rfl, trivial⟩ <|
 .app 16 V0 (ts.map txA) ([[aS s]]) (by simp; omega) (by simp; omega) fun V1 =>
 .run 1 [bt = bt] ⟨rfl, trivial⟩ <|
 .r 1 <| .finBs (x := aB true) (r := aB true) [] trivial V1 [(11, .box bb 30 [aI b.at_, aI (b.used + nd), .val (.int .u64 b.first), aI (b.many + 1)]), (7, .box bm 3 [aI mx]), (10, .box bt 22 [.rw 100 V1 ((ts.map txA).length + 1)]), (100, .row V1 9 1 (ts.map txA ++ [[aS s]]))] (by exact Sub.refl _))
set_option maxRecDepth 100000 in
set_option maxHeartbeats 4000000 in
theorem found1_no (bb bm bt : Nat) (V0 : Value) (s : Txt) (nd mx : Int) (b : Lg) (ts : List Txt) (hb : 0 ≤ b.used ∧ b.used ≤ 1000000) (hm : 0 ≤ b.many ∧ b.many ≤ 1000000) (hd : 0 ≤ nd ∧ nd ≤ 1000000) (hl : ts.length ≤ 1000000) (h : ¬ b.many < mx) : LSpecN Tryz.prog 43 [aS s, aI nd, .ptr 11 bb 0, .ptr 7 bm 0, .ptr 10 bt 0] [(11, .box bb 30 [aI b.at_, aI b.used, .val (.int .u64 b.first), aI b.many]), (7, .box bm 3 [aI mx]), (10, .box bt 22 [.rw 100 V0 ts.length]), (100, .row V0 9 1 (ts.map txA))] (aB false) (fun V => [(11, .box bb 30 [aI b.at_, aI b.used, .val (.int .u64 b.first), aI b.many]), (7, .box bm 3 [aI mx]), (10, .box bt 22 [.rw 100 V ts.length]), (100, .row V 9 1 (ts.map txA))]) := by
  exact lspecN_vd Tryz.func43 (
 .r 1 <| .run 4 [bb = bb, bm = bm] ⟨rfl, rfl, trivial⟩ <|
 .is 11 (show (decide (b.many ≥ mx)) = true from (by simp; omega)) <| .r 1 <| .finBs (x := aB false) (r := aB false) [] trivial V0 [(11, .box bb 30 [aI b.at_, aI b.used, .val (.int .u64 b.first), aI b.many]), (7, .box bm 3 [aI mx]), (10, .box bt 22 [.rw 100 V0 ts.length]), (100, .row V0 9 1 (ts.map txA))] (by exact Sub.refl _))
end Go.Proofs.YtlcepboedifniaaGreatDoor
