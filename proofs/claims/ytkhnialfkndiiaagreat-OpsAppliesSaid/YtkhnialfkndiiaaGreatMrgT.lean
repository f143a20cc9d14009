/- What was moved is found, and moved back: the mathematics. What dirs makes of a right file system. ref08.Names over data, under a wider bound. ref08.Under: over data. ref08.Right: over data. A tree is right. ref08.Below, ref10.Move over data. Whole numbers as floats of 64 bits, below 2^53: they are told apart, added and cut to themselves. Numbers alone: nothing of the program. span.lay, span.Of: for every two numbers they answer as the document says; memory is as it was. data.Read, data.refused, data.filled: they answer as the document says; old memory is as it was. 'copy' of a text into bytes that the call owns; over any program. No conditions beyond each law's own. data.filled, data.Write, data.Cut: they answer as the document says; old memory is as it was. -/
import Derived.Test.YtkhnialfkndiiaaGreatMrgS
import Derived.Test.YtkhnialfkndiiaaGreatMrgN
import Derived.Test.YtkhnialfkndiiaaGreatMrgR
import Derived.Laws.FloatArith
import Derived.Laws.ComplexArith
import Derived.Test.YtkhnialfkndiiaaGreatRows
import Derived.Test.YtkhnialfkndiiaaGreatMrgA
import Derived.Lib.BufferWrite
import Derived.Laws.IdiomStrings
import Derived.Laws.MakeOwn
set_option linter.unusedVariables false
set_option linter.unusedSimpArgs false
namespace Go.Proofs.YtkhnialfkndiiaaGreat
open Go Go.RowKit Copyhold
open Copyhold.Name (Srt insE delE getE isAt)
structure Goes (g : Fsy) (a : Int) (s : Txt) (b : Int) (t : Txt) (d e : Nod) (j : Int) (n : Nod) : Prop where
  ok : OkF g
  rows : rowsP g
  dir : atF g a = some d
  kind : d.kind = 2
  chk : checkE s = 0
  ent : getE (lI d.l) s = some j
  to : atF g b = some e
  kinde : e.kind = 2
  chkt : checkE t = 0
  none : getE (lI e.l) t = .none
  node : atF g j = some n
  room : ¬ b = a → e.l.length < 256
noncomputable def Goes.mid {g : Fsy} {a : Int} {s : Txt} {b : Int} {t : Txt} {d e : Nod} {j : Int} {n : Nod} (_ : Goes g a s b t d e j n) : Nod := if b = a then withL d (delL d.l s) else e
structure Gone2 (g : Fsy) (a : Int) (s : Txt) (b : Int) (t : Txt) (d : Nod) (j : Int) (m : Nod) : Prop where
  ok : OkF (enterF (leaveF g a s) b t j)
  rows : rowsP (enterF (leaveF g a s) b t j)
  next : (enterF (leaveF g a s) b t j).next = g.next
  at0 : ∀ x, atF (leaveF g a s) x = if x = a then some (withL d (delL d.l s)) else atF g x
  rows0 : rowsP (leaveF g a s)
  ok0 : OkF (leaveF g a s)
  next0 : (leaveF g a s).next = g.next
  at1 : ∀ x, atF (enterF (leaveF g a s) b t j) x = if x = b then some (withL m (entL m.l t j)) else atF (leaveF g a s) x
  mid : atF (leaveF g a s) b = some m
  kind : m.kind = 2
  mis : isB m.l t = false
  ment : entE m.l t j = 0
  look : lookE (enterF (leaveF g a s) b t j) b t = 0
  lookN : atF (enterF (leaveF g a s) b t j) j = some (lookN (enterF (leaveF g a s) b t j) b t)
  gone : lookE (enterF (leaveF g a s) b t j) a s = 6
theorem Goes.go {g : Fsy} {a : Int} {s : Txt} {b : Int} {t : Txt} {d e : Nod} {j : Int} {n : Nod} (G : Goes g a s b t d e j n) (ht : t.length ≤ 1000000) : Gone2 g a s b t d j G.mid := by
  obtain ⟨l1, l2, l3, l4, l5⟩ := leave_all (s := s) G.ok G.rows G.dir G.kind
  have hrow := (dir_row (rows_at G.rows G.dir).1 G.kind).2
  have hs := row_srt hrow
  have hlen := hrow.1
  have hdl := del_len1 hs G.ent
  have hm : atF (leaveF g a s) b = some G.mid := by
    rw [l5]
    unfold Goes.mid
    split
    · rfl
    · exact G.to
  have hk : G.mid.kind = 2 := by
    unfold Goes.mid
    split
    · exact G.kind
    · exact G.kinde
  have hde : b = a → d = e := fun h => by
    have h1 := G.dir
    rw [← h, G.to] at h1
    exact (Option.some.inj h1).symm
  have hg : getE (lI G.mid.l) t = .none := by
    unfold Goes.mid
    split
    · rename_i h
      show getE (lI (delL d.l s)) t = _
      rw [get_del hs]
      split
      · rfl
      · rw [hde h]; exact G.none
    · exact G.none
  have hb : isB G.mid.l t = false := by rw [isB_get, hg]; rfl
  have hml : G.mid.l.length < 256 := by
    unfold Goes.mid
    split
    · show (delL d.l s).length < 256
      omega
    · rename_i h; exact G.room h
  obtain ⟨n1, n2, n3⟩ := rows_at G.rows G.node
  have hj1 : 1 ≤ j := by have := n1.1; omega
  have hj2 : I64 j := by have := (G.ok.2.2 n (at_mem G.node)).1; rw [n3] at this; exact this
  obtain ⟨e1, e2, e3, e4, e5⟩ := enter_all l1 l2 hm hk G.chkt ht hj1 hj2 hb hml
  have hmrow := (dir_row (rows_at l2 hm).1 hk).2
  have he0 := entE_cases (n := j) G.chkt hj1 hb hml
  have hst : b = a → ¬ s = t := fun h h2 => by
    have h3 := G.ent
    rw [hde h, h2, G.none] at h3
    cases h3
  have hy : ∃ y, atF (enterF (leaveF g a s) b t j) j = some y := by
    rw [e5]
    split
    · exact ⟨_, rfl⟩
    · rw [l5]
      split
      · exact ⟨_, rfl⟩
      · exact ⟨_, G.node⟩
  obtain ⟨y, hy⟩ := hy
  have hbb : atF (enterF (leaveF g a s) b t j) b = some (withL G.mid (entL G.mid.l t j)) := by rw [e5, if_pos rfl]
  have hget : getE (lI (withL G.mid (entL G.mid.l t j)).l) t = some j := by
    show getE (lI (entL G.mid.l t j)) t = _
    rw [get_ent (row_srt hmrow) he0 hb, if_pos rfl]
  obtain ⟨k1, k2⟩ := look_at hbb hk G.chkt hget hy
  refine ⟨e1, e2, by rw [e4, l4], l5, l2, l1, l4, e5, hm, hk, hb, he0, k1, by rw [k2]; exact hy, ?_⟩
  by_cases h : b = a
  · refine look_gone (d := withL G.mid (entL G.mid.l t j)) e2 (by rw [e5, if_pos h.symm]) hk G.chk ?_
    show getE (lI (entL G.mid.l t j)) s = _
    rw [get_ent (row_srt hmrow) he0 hb, if_neg (hst h)]
    unfold Goes.mid
    rw [if_pos h]
    show getE (lI (delL d.l s)) s = _
    rw [get_del hs, if_pos rfl]
  · refine look_gone (d := withL d (delL d.l s)) e2 (by rw [e5, if_neg (fun e => h e.symm), l5, if_pos rfl]) G.kind G.chk ?_
    show getE (lI (delL d.l s)) s = _
    rw [get_del hs, if_pos rfl]
theorem Goes.back {g : Fsy} {a : Int} {s : Txt} {b : Int} {t : Txt} {d e : Nod} {j : Int} {n : Nod} (G : Goes g a s b t d e j n) (ht : t.length ≤ 1000000) (hs0 : s.length ≤ 1000000) (T : TreeP g) (hw : withinB g b n = false) :
    movErr (enterF (leaveF g a s) b t j) b t a s = 0 ∧ movF (enterF (leaveF g a s) b t j) b t a s = g := by
  have Z := G.go ht
  have hrow := (dir_row (rows_at G.rows G.dir).1 G.kind).2
  have hs := row_srt hrow
  have hnj := at_ino G.node
  have hkid : j ∈ kidsF g a := by
    obtain ⟨x, hx, _, hi⟩ := get_some_mem hs G.ent
    exact kids_of G.dir G.kind hx hi
  have hja : ¬ j = a := fun h => T.acyc (w := a) (.one (by rw [h] at hkid; exact hkid))
  have hjb : ¬ j = b := fun h => by
    have h1 := G.node
    rw [h, G.to] at h1
    have h2 := Option.some.inj h1
    unfold withinB at hw
    rw [← h2, G.kinde, h2, hnj, h] at hw
    simp at hw
  have hyn : lookN (enterF (leaveF g a s) b t j) b t = n := by
    have h1 := Z.lookN
    rw [Z.at1, if_neg hjb, Z.at0, if_neg hja, G.node] at h1
    exact (Option.some.inj h1).symm
  have hmid : ∀ x ∈ G.mid.l, x.ino ∈ kidsF g b := fun x hx => by
    unfold Goes.mid at hx
    split at hx
    · rename_i h
      rw [h]
      exact kids_of G.dir G.kind (del_sub x hx) rfl
    · exact kids_of G.to G.kinde hx rfl
  have hkids : ∀ p z, z ∈ kidsF (enterF (leaveF g a s) b t j) p → z ∈ kidsF g p ∨ z = j := fun p z hz => by
    obtain ⟨d', hd', hk', x, hx, hxz⟩ := kids_some hz
    rw [Z.at1] at hd'
    split at hd'
    · rename_i h
      obtain rfl := Option.some.inj hd'
      rcases ent_sub x hx with rfl | hx
      · exact .inr hxz.symm
      · left; rw [h, ← hxz]; exact hmid x hx
    · rw [Z.at0] at hd'
      split at hd'
      · rename_i h
        obtain rfl := Option.some.inj hd'
        left; rw [h]
        exact kids_of G.dir G.kind (del_sub x hx) hxz
      · exact .inl (kids_of hd' hk' hx hxz)
  have hreach : ∀ p w, Reach (enterF (leaveF g a s) b t j) p w → (p = j ∨ Reach g j p) → (w = j ∨ Reach g j w) := by
    have step : ∀ p z, z ∈ kidsF (enterF (leaveF g a s) b t j) p → (p = j ∨ Reach g j p) → (z = j ∨ Reach g j z) := fun p z hz hp => by
      rcases hkids p z hz with h | h
      · rcases hp with hp | hp
        · rw [hp] at h; exact .inr (.one h)
        · exact .inr (hp.snoc h)
      · exact .inl h
    intro p w h
    induction h with
    | one h => exact step _ _ h
    | more h _ ih => exact fun hp => ih (step _ _ h hp)
  have hwi : withinB (enterF (leaveF g a s) b t j) a n = false := by
    unfold withinB
    rw [hnj]
    by_cases hk : n.kind = 2
    · rw [show (a == j) = false from by simpa using fun h => hja h.symm]
      cases hb : hasB (reachF (enterF (leaveF g a s) b t j) j) a with
      | false => simp
      | true =>
        exfalso
        rcases hreach j a (reach_iff.1 hb) (.inl rfl) with h | h
        · exact hja h.symm
        · exact T.acyc (h.snoc hkid)
    · simp [hk]
  have hda : ∃ d3, atF (enterF (leaveF g a s) b t j) a = some d3 ∧ d3.kind = 2 ∧ (¬ a = b → d3.l.length < 256) := by
    rw [Z.at1]
    by_cases h : a = b
    · rw [if_pos h]; exact ⟨_, rfl, Z.kind, fun h2 => absurd h h2⟩
    · rw [if_neg h, Z.at0, if_pos rfl]
      refine ⟨_, rfl, G.kind, fun _ => ?_⟩
      show (delL d.l s).length < 256
      have := del_len1 hs G.ent
      have := hrow.1
      omega
  obtain ⟨d3, hd3, hk3, hl3⟩ := hda
  obtain ⟨q1, q2⟩ := dir_of hd3 hk3
  have h1 : mov1 (enterF (leaveF g a s) b t j) b t a s = 0 := by
    unfold mov1
    rw [first4, if_pos Z.look, if_pos q1, if_pos G.chk, hyn, hwi]; rfl
  have hB : movB (enterF (leaveF g a s) b t j) a s = false := by
    unfold movB
    rw [q2, isB_get]
    cases hg : getE (lI d3.l) s with
    | none => rfl
    | some i =>
      exfalso
      have hmem := get_some_mem (row_srt (dir_row (rows_at Z.rows hd3).1 hk3).2) hg
      obtain ⟨x, hx, _, hxi⟩ := hmem
      have hkz := kids_of hd3 hk3 hx hxi
      have hat : ∃ y, atF (enterF (leaveF g a s) b t j) i = some y := by
        rcases hkids a i hkz with h | h
        · obtain ⟨⟨y, hy⟩, _⟩ := T.kid a i h
          rw [Z.at1]
          split
          · exact ⟨_, rfl⟩
          · rw [Z.at0]
            split
            · exact ⟨_, rfl⟩
            · exact ⟨_, hy⟩
        · rw [h]; exact ⟨_, Z.lookN⟩
      obtain ⟨y, hy⟩ := hat
      have := (look_at hd3 hk3 G.chk hg hy).1
      rw [Z.gone] at this
      cases this
  have h2 : mov2 (enterF (leaveF g a s) b t j) b t a s = 0 := by
    unfold mov2
    rw [if_pos hB, when0 (by decide), q2]
    by_cases h : a = b
    · simp [h]
    · have := hl3 h
      have e : decide ((d3.l.length : Int) ≥ 256) = false := decide_eq_false (by omega)
      rw [e]; simp
  refine ⟨by unfold movErr; rw [if_pos h1, h2], ?_⟩
  unfold movF
  rw [if_pos h1, if_neg (fun h => by rw [hB] at h; cases h.1), if_pos h2, hB, hyn]
  unfold mov0
  rw [if_neg (by decide), hnj]
  have hbb : atF (enterF (leaveF g a s) b t j) b = some (withL G.mid (entL G.mid.l t j)) := by rw [Z.at1, if_pos rfl]
  obtain ⟨p1, p2, p3, p4, p5⟩ := leave_all (s := t) Z.ok Z.rows hbb Z.kind
  have hback : leaveF (enterF (leaveF g a s) b t j) b t = leaveF g a s := by
    refine fsy_ext (rows_rise p2) (rows_rise Z.rows0) (fun x => ?_) (by rw [p4, Z.next, Z.next0])
    rw [p5]
    by_cases h : x = b
    · rw [if_pos h, h, Z.mid]
      show some (withL _ (delL (entL G.mid.l t j) t)) = _
      have hsm := row_srt (dir_row (rows_at Z.rows0 Z.mid).1 Z.kind).2
      rw [del_ent hsm Z.ment Z.mis]
      rfl
    · rw [if_neg h, Z.at1, if_neg h]
  rw [hback]
  have haa : atF (leaveF g a s) a = some (withL d (delL d.l s)) := by rw [Z.at0, if_pos rfl]
  rw [enter_set haa]
  obtain ⟨n1, n2, n3⟩ := rows_at G.rows G.node
  show setL _ _ (entL (delL d.l s) s j) = g
  rw [ins_del hrow G.chk (by have := n1.1; omega) G.ent]
  obtain ⟨s1, s2, s3, s4⟩ := setL_rows Z.rows0 haa G.kind hrow
  refine fsy_ext (rows_rise s1) (rows_rise G.rows) (fun x => ?_) (by rw [s3, Z.next0])
  rw [s4]
  by_cases h : x = a
  · rw [if_pos h, h, G.dir]; rfl
  · rw [if_neg h, Z.at0, if_neg h]
end Go.Proofs.YtkhnialfkndiiaaGreat

set_option linter.unusedVariables false
set_option linter.unusedSimpArgs false
namespace Go.Proofs.YtkhnialfkndiiaaGreat
open Go Go.RowKit Copyhold
open Copyhold.Name (Srt insE delE getE isAt)
def wK (n : Nod) : Nat := 1 + n.l.length
def wF (f : Fsy) : Nat := (f.l.map wK).sum
structure Kept (f g : Fsy) : Prop where
  ok : OkF g
  tree : TreeP g
  next : f.next ≤ g.next ∧ g.next ≤ f.next + 1
  few : wF g ≤ wF f + 2
end Go.Proofs.YtkhnialfkndiiaaGreat

set_option linter.unusedVariables false
set_option linter.unusedSimpArgs false
namespace Go.Proofs.YtkhnialfkndiiaaGreat
open Go Go.RowKit Copyhold
end Go.Proofs.YtkhnialfkndiiaaGreat

set_option linter.unusedVariables false
set_option linter.unusedSimpArgs false
namespace Go.Proofs.YtkhnialfkndiiaaGreat
open Go Go.RowKit Copyhold
end Go.Proofs.YtkhnialfkndiiaaGreat

set_option linter.unusedVariables false
set_option linter.unusedSimpArgs false
namespace Go.Proofs.YtkhnialfkndiiaaGreat
open Go Go.RowKit Copyhold
end Go.Proofs.YtkhnialfkndiiaaGreat

set_option linter.unusedVariables false
set_option linter.unusedSimpArgs false
namespace Go.Proofs.YtkhnialfkndiiaaGreat
open Go Go.RowKit Copyhold
end Go.Proofs.YtkhnialfkndiiaaGreat

set_option linter.unusedVariables false
set_option linter.unusedSimpArgs false
namespace Go.Proofs.YtkhnialfkndiiaaGreat
open Go Go.RowKit Copyhold
open Copyhold.Name (Srt insE delE getE isAt)
end Go.Proofs.YtkhnialfkndiiaaGreat

namespace Copyhold
open Go Ieee
def IsN (d : Datum) (n : Nat) : Prop := ∃ (s : Nat), d = .number false (n * 2 ^ s) (-(s : Int)) ∧ s ≤ 1074
theorem signed_up (a s m : Nat) (h : s ≤ m) : signed false (a * 2 ^ s) (m - s) = ((a * 2 ^ m : Nat) : Int) := by
  unfold signed
  rw [if_neg (by decide), Nat.shiftLeft_eq, Nat.mul_assoc, ← Nat.pow_add, show s + (m - s) = m from by omega]
theorem low1 (u v : Nat) : (-(u : Int) - min (-(u : Int)) (-(v : Int))).toNat = max u v - u := by omega
theorem low2 (u v : Nat) : (-(v : Int) - min (-(u : Int)) (-(v : Int))).toNat = max u v - v := by omega
theorem order_isN {d e : Datum} {a b : Nat} (ha : IsN d a) (hb : IsN e b) : d.order e = some (compare a b) := by
  obtain ⟨s, rfl, _⟩ := ha
  obtain ⟨t, rfl, _⟩ := hb
  simp only [Datum.order]
  rw [low1, low2, signed_up a s _ (by omega), signed_up b t _ (by omega)]
  have hp : 0 < 2 ^ max s t := Nat.pow_pos (by decide)
  generalize 2 ^ max s t = p at hp
  congr 1
  rcases Nat.lt_trichotomy a b with h | h | h
  · have h2 : a * p < b * p := Nat.mul_lt_mul_of_pos_right h hp
    rw [Nat.compare_eq_lt.2 h]
    exact Int.compare_eq_lt.2 (by omega)
  · subst h
    rw [Nat.compare_eq_eq.2 rfl]
    exact Int.compare_eq_eq.2 rfl
  · have h2 : b * p < a * p := Nat.mul_lt_mul_of_pos_right h hp
    rw [Nat.compare_eq_gt.2 h]
    exact Int.compare_eq_gt.2 (by omega)
theorem sum_isN {d e : Datum} {a b : Nat} (ha : IsN d a) (hb : IsN e b) : ∃ r, d.sum e = some r ∧ IsN r (a + b) := by
  obtain ⟨s, rfl, hs⟩ := ha
  obtain ⟨t, rfl, ht⟩ := hb
  simp only [Datum.sum]
  refine ⟨_, rfl, max s t, ?_, by omega⟩
  have e3 : signed false (a * 2 ^ s) (-(s : Int) - min (-(s : Int)) (-(t : Int))).toNat + signed false (b * 2 ^ t) (-(t : Int) - min (-(s : Int)) (-(t : Int))).toNat = (((a + b) * 2 ^ max s t : Nat) : Int) := by
    rw [low1, low2, signed_up a s _ (by omega), signed_up b t _ (by omega), Nat.add_mul]; omega
  simp only [e3]
  congr 1
  · split
    · rfl
    · exact decide_eq_false (Int.not_lt.2 (Int.natCast_nonneg _))
  · omega
theorem log2_mul_pow (n s : Nat) (h : n ≠ 0) : (n * 2 ^ s).log2 = n.log2 + s := by
  have hp : 0 < 2 ^ s := Nat.pow_pos (by decide)
  have hn : n * 2 ^ s ≠ 0 := by have := Nat.mul_pos (Nat.pos_of_ne_zero h) hp; omega
  rw [Nat.log2_eq_iff hn]
  have h1 := (Nat.log2_eq_iff h).1 rfl
  constructor
  · rw [Nat.pow_add]; exact Nat.mul_le_mul_right _ h1.1
  · rw [show n.log2 + s + 1 = (n.log2 + 1) + s from by omega, Nat.pow_add]; exact Nat.mul_lt_mul_of_pos_right h1.2 hp
theorem cut_exact (way : Toward) (neg : Bool) (n s : Nat) : way.cut neg (n * 2 ^ s) s = n := by
  have hp : 0 < 2 ^ s := Nat.pow_pos (by decide)
  by_cases h0 : n = 0
  · subst h0
    simp only [Toward.cut, Nat.zero_mul, Nat.zero_div, Nat.zero_mod]
    cases way <;> simp
    all_goals (try omega)
  · have hl := log2_mul_pow n s h0
    have hm : min s ((n * 2 ^ s).log2 + 2) = s := by rw [hl]; omega
    simp only [Toward.cut, hm, Nat.one_shiftLeft, Nat.mul_div_cancel _ hp, Nat.mul_mod_left]
    cases way <;> simp
    all_goals (try omega)
theorem nearest_up (n s : Nat) (hn : n < 2 ^ 53) (h0 : n ≠ 0) (hs : s ≤ 1074) : double.nearest false (n * 2 ^ s) (-(s : Int)) = (n.log2 + 1022) * 2 ^ 52 + n * 2 ^ (52 - n.log2) := by
  have hp : 0 < 2 ^ s := Nat.pow_pos (by decide)
  have hne : n * 2 ^ s ≠ 0 := by have := Nat.mul_pos (Nat.pos_of_ne_zero h0) hp; omega
  have hl := log2_mul_pow n s h0
  have hk : n.log2 ≤ 52 := by
    have := (Nat.log2_lt h0).2 hn
    omega
  have hlast : max (-(s : Int) + ((n * 2 ^ s).log2 : Int) - (double.fractionBits : Int)) double.leastPlace = (n.log2 : Int) - 52 := by
    rw [hl]
    simp only [double, Format.leastPlace]
    have : (2 : Int) ^ (11 - 1) = 1024 := by decide
    omega
  unfold Format.nearest
  rw [if_neg hne]
  simp only [hlast]
  have hfin : ∀ kept, kept = n * 2 ^ (52 - n.log2) → double.word false (min (((n.log2 : Int) - 52 - double.leastPlace).toNat * double.binade + kept) double.infRung) = (n.log2 + 1022) * 2 ^ 52 + n * 2 ^ (52 - n.log2) := by
    rintro kept rfl
    have e1 : ((n.log2 : Int) - 52 - double.leastPlace).toNat = n.log2 + 1022 := by
      simp only [double, Format.leastPlace]
      have : (2 : Int) ^ (11 - 1) = 1024 := by decide
      omega
    have e2 : double.binade = 2 ^ 52 := rfl
    have e3 : double.infRung = 2047 * 2 ^ 52 := rfl
    rw [e1, e2, e3]
    have hb : n * 2 ^ (52 - n.log2) < 2 ^ 53 := by
      have := (Nat.log2_eq_iff h0).1 rfl
      have h3 : n * 2 ^ (52 - n.log2) < 2 ^ (n.log2 + 1) * 2 ^ (52 - n.log2) := Nat.mul_lt_mul_of_pos_right this.2 (Nat.pow_pos (by decide))
      rw [← Nat.pow_add, show n.log2 + 1 + (52 - n.log2) = 53 from by omega] at h3
      exact h3
    have hb2 : (n.log2 + 1022) * 2 ^ 52 ≤ 1074 * 2 ^ 52 := Nat.mul_le_mul_right _ (by omega)
    have hle : (n.log2 + 1022) * 2 ^ 52 + n * 2 ^ (52 - n.log2) ≤ 2047 * 2 ^ 52 := by
      rw [show (2 : Nat) ^ 53 = 2 * 2 ^ 52 from by rw [Nat.pow_succ, Nat.mul_comm]] at hb
      generalize (2 : Nat) ^ 52 = M at *
      generalize (n.log2 + 1022) * M = A at *
      generalize n * 2 ^ (52 - n.log2) = B at *
      omega
    simp only [Format.word]
    rw [if_neg (by decide), Nat.min_eq_left hle]
  apply hfin
  by_cases h : s ≤ 52 - n.log2
  · rw [show ((n.log2 : Int) - 52 - -(s : Int)).toNat = 0 from by omega, show (-(s : Int) - ((n.log2 : Int) - 52)).toNat = 52 - n.log2 - s from by omega, Nat.shiftLeft_eq, Nat.mul_assoc, ← Nat.pow_add, show s + (52 - n.log2 - s) = 52 - n.log2 from by omega]
    have := cut_exact .even false (n * 2 ^ (52 - n.log2)) 0
    simpa using this
  · rw [show ((n.log2 : Int) - 52 - -(s : Int)).toNat = s - (52 - n.log2) from by omega, show (-(s : Int) - ((n.log2 : Int) - 52)).toNat = 0 from by omega, Nat.shiftLeft_zero]
    have := cut_exact .even false (n * 2 ^ (52 - n.log2)) (s - (52 - n.log2))
    rw [Nat.mul_assoc, ← Nat.pow_add, show 52 - n.log2 + (s - (52 - n.log2)) = s from by omega] at this
    exact this
def fl (n : Nat) : Nat := floatOfInt .f64 (n : Int)
theorem fl_eq (n : Nat) (hn : n < 2 ^ 53) (h0 : n ≠ 0) : fl n = (n.log2 + 1022) * 2 ^ 52 + n * 2 ^ (52 - n.log2) := by
  have h := nearest_up n 0 hn h0 (by decide)
  rw [Nat.pow_zero, Nat.mul_one] at h
  exact h
theorem fl_zero : fl 0 = 0 := rfl
theorem read_fl (n : Nat) (hn : n < 2 ^ 53) : IsN (double.read (fl n)) n := by
  by_cases h0 : n = 0
  · subst h0
    obtain ⟨s, hs⟩ : ∃ s : Nat, s = 1074 := ⟨_, rfl⟩
    refine ⟨s, ?_, by omega⟩
    rw [Nat.zero_mul, show (-(s : Int)) = -1074 from by omega]
    rfl
  · have hk : n.log2 ≤ 52 := by
      have := (Nat.log2_lt h0).2 hn
      omega
    have hlo : 2 ^ 52 ≤ n * 2 ^ (52 - n.log2) := by
      have := (Nat.log2_eq_iff h0).1 rfl
      have h3 : 2 ^ n.log2 * 2 ^ (52 - n.log2) ≤ n * 2 ^ (52 - n.log2) := Nat.mul_le_mul_right _ this.1
      rwa [← Nat.pow_add, show n.log2 + (52 - n.log2) = 52 from by omega] at h3
    have hhi : n * 2 ^ (52 - n.log2) < 2 * 2 ^ 52 := by
      have := (Nat.log2_eq_iff h0).1 rfl
      have h3 : n * 2 ^ (52 - n.log2) < 2 ^ (n.log2 + 1) * 2 ^ (52 - n.log2) := Nat.mul_lt_mul_of_pos_right this.2 (Nat.pow_pos (by decide))
      rw [← Nat.pow_add, show n.log2 + 1 + (52 - n.log2) = 53 from by omega] at h3
      rwa [show (2 : Nat) ^ 53 = 2 * 2 ^ 52 from by rw [Nat.pow_succ, Nat.mul_comm]] at h3
    refine ⟨52 - n.log2, ?_, by omega⟩
    rw [fl_eq n hn h0]
    have hsw : double.signWeight = 2048 * 2 ^ 52 := rfl
    have hbi : double.binade = 2 ^ 52 := rfl
    have hin : double.infRung = 2047 * 2 ^ 52 := rfl
    have hlp : double.leastPlace = -1074 := rfl
    unfold Format.read
    simp only [hsw, hbi, hin, hlp]
    have hM : 0 < (2 : Nat) ^ 52 := Nat.pow_pos (by decide)
    generalize hB : n * 2 ^ (52 - n.log2) = B at *
    obtain ⟨c, rfl⟩ : ∃ c, B = 2 ^ 52 + c := ⟨B - 2 ^ 52, by omega⟩
    generalize (2 : Nat) ^ 52 = M at *
    have hc : c < M := by omega
    have e0 : (n.log2 + 1022) * M + (M + c) = c + (n.log2 + 1023) * M := by
      rw [show n.log2 + 1023 = n.log2 + 1022 + 1 from by omega, Nat.add_mul (n.log2 + 1022) 1 M]; omega
    have hlt : c + (n.log2 + 1023) * M < 2047 * M := by
      have : (n.log2 + 1023) * M ≤ 1075 * M := Nat.mul_le_mul_right _ (by omega)
      omega
    rw [e0]
    have hdiv : (c + (n.log2 + 1023) * M) / M = n.log2 + 1023 := by rw [Nat.add_mul_div_right _ _ hM, Nat.div_eq_of_lt hc, Nat.zero_add]
    have hmod : (c + (n.log2 + 1023) * M) % M = c := by rw [Nat.add_mul_mod_self_right, Nat.mod_eq_of_lt hc]
    have hge : ¬ (c + (n.log2 + 1023) * M) < M := by
      have : 1 * M ≤ (n.log2 + 1023) * M := Nat.mul_le_mul_right _ (by omega)
      omega
    rw [Nat.mod_eq_of_lt (by omega), Nat.div_eq_of_lt (by omega), if_neg hge, if_pos hlt, hdiv, hmod]
    have e9 : (-1074 + ((n.log2 + 1023 - 1 : Nat) : Int)) = -((52 - n.log2 : Nat) : Int) := by
      clear hlt hge hdiv hmod e0 hhi hn hB hlo
      omega
    rw [e9]
    rfl
theorem fl_order (a b : Nat) (ha : a < 2 ^ 53) (hb : b < 2 ^ 53) : FloatKind.f64.format.order (fl a) (fl b) = some (compare a b) :=
  order_isN (read_fl a ha) (read_fl b hb)
theorem fl_add (a b : Nat) (h : a + b < 2 ^ 53) : FloatKind.f64.format.add (fl a) (fl b) = some (fl (a + b)) := by
  obtain ⟨r, hr, s, rfl, hs⟩ := sum_isN (read_fl a (Nat.lt_of_le_of_lt (Nat.le_add_right a b) h)) (read_fl b (Nat.lt_of_le_of_lt (Nat.le_add_left b a) h))
  show ((double.read (fl a)).sum (double.read (fl b))).map double.write = _
  rw [hr, Option.map_some]
  congr 1
  show double.nearest false ((a + b) * 2 ^ s) (-(s : Int)) = _
  by_cases h0 : a + b = 0
  · rw [h0, Nat.zero_mul, fl_zero]
    simp [Format.nearest, Format.word]
  · rw [nearest_up _ _ h h0 hs, fl_eq _ h h0]
end Copyhold

namespace Go.Proofs.YtkhnialfkndiiaaGreat
open Go.RowKit Copyhold
theorem fl_conv (n : Nat) : floatOfInt .f64 (n : Int) = fl n := rfl
theorem span_lay (a b : Nat) (w : World) :
    Calls Tryz.prog 159 #[.int .i64 a, .int .i64 b] w fun e w' => e = .returned (.complex .f64 (fl a) (fl b)) ∧ w = w' := by
  have ha := fl_conv a
  have hb := fl_conv b
  go_enter Tryz.func159, Tryz.ntmps159
  go_wp2
  go_ret
  exact ⟨rfl, rfl⟩
def ofOk (a b : Int) : Prop := 0 ≤ a ∧ 0 ≤ b ∧ a ≤ 1099511627776 ∧ b ≤ 1099511627776 - a
theorem span_Of_ok (a b : Nat) (w : World) (h : ofOk a b) :
    Calls Tryz.prog 134 #[.int .i64 a, .int .i64 b] w fun e w' => e = .returned (.tuple #[.complex .f64 (fl a) (fl b), .int .i64 0]) ∧ w = w' := by
  obtain ⟨_, _, h3, h4⟩ := h
  have h1 : (0 : Int) ≤ (a : Int) := by omega
  have h2 : (0 : Int) ≤ (b : Int) := by omega
  go_enter Tryz.func134, Tryz.ntmps134
  go_wp2_with (go_at_call 159; refine (span_lay a b _).mono ?_; rintro e w' ⟨rfl, rfl⟩)
  go_ret2
  exact ⟨rfl, rfl⟩
theorem span_Of_bad (a b : Int) (w : World) (ha1 : -9223372036854775808 ≤ a) (ha2 : a ≤ 9223372036854775807) (hb1 : -9223372036854775808 ≤ b) (hb2 : b ≤ 9223372036854775807) (h : ¬ ofOk a b) :
    Calls Tryz.prog 134 #[.int .i64 a, .int .i64 b] w fun e w' => e = .returned (.tuple #[.complex .f64 0 0, .int .i64 1]) ∧ w = w' := by
  unfold ofOk at h
  rcases (show a < 0 ∨ 0 ≤ a ∧ b < 0 ∨ 0 ≤ a ∧ 0 ≤ b ∧ 1099511627776 < a ∨ 0 ≤ a ∧ 0 ≤ b ∧ a ≤ 1099511627776 ∧ 1099511627776 - a < b from by omega) with h1 | ⟨h1, h2⟩ | ⟨h1, h2, h3⟩ | ⟨h1, h2, h3, h4⟩
  all_goals
    clear h
    go_enter Tryz.func134, Tryz.ntmps134
    go_wp2_with fail
    go_ret2
    exact ⟨rfl, rfl⟩
end Go.Proofs.YtkhnialfkndiiaaGreat

namespace Go.Proofs.YtkhnialfkndiiaaGreat
open Go.RowKit Copyhold
attribute [local go_sem] piece
def readD (l : List UInt8) (a b : Int) : List UInt8 × Int :=
  if 0 ≤ a ∧ 0 ≤ b ∧ a ≤ 1099511627776 ∧ b ≤ 1099511627776 - a then ((l.drop a.toNat).take b.toNat, 0) else ([], 1)
set_option maxHeartbeats 1000000 in
theorem data_Read (l : List UInt8) (a b : Int) (w : World) (hl : l.length ≤ 140737488355328) (ha1 : -9223372036854775808 ≤ a) (ha2 : a ≤ 9223372036854775807) (hb1 : -9223372036854775808 ≤ b) (hb2 : b ≤ 9223372036854775807) :
    Calls Tryz.prog 110 #[.string ⟨l.toArray⟩, .int .i64 a, .int .i64 b] w fun e w' => e = .returned (.tuple #[.string ⟨(readD l a b).1.toArray⟩, .int .i64 (readD l a b).2]) ∧ w = w' := by
  by_cases h : ofOk a b
  · have hr : readD l a b = ((l.drop a.toNat).take b.toNat, 0) := if_pos h
    obtain ⟨h1, h2, h3, h4⟩ := id h
    obtain ⟨a, rfl⟩ := Int.eq_ofNat_of_zero_le h1
    obtain ⟨b, rfl⟩ := Int.eq_ofNat_of_zero_le h2
    rw [Int.toNat_natCast, Int.toNat_natCast] at hr
    have HR := Lib.hid hr
    have HO := Lib.hid h
    clear hr h ha1 hb1
    go_enter Tryz.func110, Tryz.ntmps110
    go_wp2_with fail
    refine (span_Of_ok a b _ HO.out).mono ?_
    rintro e w' ⟨rfl, rfl⟩
    rcases (show l.length < a ∨ a ≤ l.length ∧ l.length < a + b ∨ a + b ≤ l.length from by omega) with q | ⟨q, q'⟩ | q
    · go_wp2_with fail
      go_ret2
      refine ⟨?_, rfl⟩
      rw [HR.out]
      exact ret2 (congrArg (fun x : List UInt8 => Value.string ⟨x.toArray⟩) (by rw [List.drop_eq_nil_of_le (by omega), List.take_nil])) rfl
    · go_wp2_with fail
      go_ret2
      refine ⟨?_, rfl⟩
      rw [HR.out]
      exact ret2 (congrArg (fun x : List UInt8 => Value.string ⟨x.toArray⟩) (by rw [List.take_of_length_le (by rw [List.length_drop]; omega)])) rfl
    · go_wp2_with fail
      go_ret2
      refine ⟨?_, rfl⟩
      rw [HR.out]
      exact ret2 (congrArg (fun x : List UInt8 => Value.string ⟨x.toArray⟩) (by rw [List.drop_take, Nat.add_sub_cancel_left])) rfl
  · have hr : readD l a b = ([], 1) := if_neg h
    have HR := Lib.hid hr
    go_enter Tryz.func110, Tryz.ntmps110
    go_wp2_with fail
    refine (span_Of_bad a b _ ha1 ha2 hb1 hb2 h).mono ?_
    rintro e w' ⟨rfl, rfl⟩
    go_wp2_with fail
    go_ret2
    exact ⟨by rw [HR.out]; rfl, rfl⟩
def refusedD (a b : Int) : Int := if 0 ≤ a ∧ 0 ≤ b ∧ a ≤ 1099511627776 ∧ b ≤ 1099511627776 - a then (if a + b > 4096 then 5 else 0) else 1
theorem fl_4096 : fl 4096 = 4661225614328463360 := by decide +kernel
set_option maxHeartbeats 1000000 in
theorem data_refused (a b : Int) (w : World) (ha1 : -9223372036854775808 ≤ a) (ha2 : a ≤ 9223372036854775807) (hb1 : -9223372036854775808 ≤ b) (hb2 : b ≤ 9223372036854775807) :
    Calls Tryz.prog 135 #[.int .i64 a, .int .i64 b] w fun e w' => e = .returned (.int .i64 (refusedD a b)) ∧ w = w' := by
  by_cases h : ofOk a b
  · have hr : refusedD a b = if a + b > 4096 then 5 else 0 := if_pos h
    obtain ⟨h1, h2, h3, h4⟩ := id h
    obtain ⟨a, rfl⟩ := Int.eq_ofNat_of_zero_le h1
    obtain ⟨b, rfl⟩ := Int.eq_ofNat_of_zero_le h2
    have hadd := run_float_arith (P := Tryz.prog) w .add 180 .f64 (fl a) (fl b) (fl (a + b)) (fl_add a b (by omega))
    have hord := fl_order (a + b) 4096 (by omega) (by decide)
    rw [fl_4096] at hord
    have HR := Lib.hid hr
    have HO := Lib.hid h
    clear hr h ha1 hb1
    by_cases h5 : 4096 < a + b
    · have hf : refusedD a b = 5 := by rw [HR.out, if_pos (by omega)]
      rw [Nat.compare_eq_gt.2 h5] at hord
      have HF := Lib.hid hf
      clear hf HR
      go_enter Tryz.func135, Tryz.ntmps135
      go_wp2_with fail
      refine (span_Of_ok a b _ HO.out).mono ?_
      rintro e w' ⟨rfl, rfl⟩
      go_wp2_with fail
      go_ret
      exact ⟨by rw [HF.out]; rfl, rfl⟩
    · have hf : refusedD a b = 0 := by rw [HR.out, if_neg (by omega)]
      have HF := Lib.hid hf
      clear hf HR
      rcases Nat.lt_or_eq_of_le (Nat.not_lt.1 h5) with h6 | h6
      · rw [Nat.compare_eq_lt.2 h6] at hord
        clear h6
        go_enter Tryz.func135, Tryz.ntmps135
        go_wp2_with fail
        refine (span_Of_ok a b _ HO.out).mono ?_
        rintro e w' ⟨rfl, rfl⟩
        go_wp2_with fail
        go_ret
        exact ⟨by rw [HF.out]; rfl, rfl⟩
      · rw [Nat.compare_eq_eq.2 h6] at hord
        clear h6
        go_enter Tryz.func135, Tryz.ntmps135
        go_wp2_with fail
        refine (span_Of_ok a b _ HO.out).mono ?_
        rintro e w' ⟨rfl, rfl⟩
        go_wp2_with fail
        go_ret
        exact ⟨by rw [HF.out]; rfl, rfl⟩
  · have hr : refusedD a b = 1 := if_neg h
    have HR := Lib.hid hr
    go_enter Tryz.func135, Tryz.ntmps135
    go_wp2_with fail
    refine (span_Of_bad a b _ ha1 ha2 hb1 hb2 h).mono ?_
    rintro e w' ⟨rfl, rfl⟩
    go_wp2_with fail
    go_ret
    exact ⟨by rw [HR.out]; rfl, rfl⟩
end Go.Proofs.YtkhnialfkndiiaaGreat

namespace Copyhold
open Go Go.RowKit
theorem run_copy_text {P : Program} (w : World) (dT sT ty elem : TypeId) (g o dLen dCap : Nat) (l : List UInt8) (cur : List UInt8) (t : TypeId)
    (hu : P.underlying dT = some (.slice elem)) (hs : (P.info? elem).map (·.size) = some 1) (hg : w.heap[g]? = some (.cells (Lib.byteCells cur).toArray t (0, 0))) (hfit : o + dLen = cur.length) :
    (Builtin.copy_ #[dT, sT] ty #[.slice (some ⟨g, o, none⟩) dLen dCap, .string ⟨l.toArray⟩]).run P w =
      .ok (goInt (Nat.min l.length dLen)) (w.setRow g (Lib.byteCells (cur.take o ++ l.take dLen ++ cur.drop (o + l.length))).toArray) := by
  have hsz : (⟨l.toArray⟩ : ByteArray).size = l.length := by simp [ByteArray.size]
  have hlen : (Lib.byteCells (l.take dLen)).length = Nat.min l.length dLen := by rw [Lib.byteCells_length, List.length_take, Nat.min_comm]
  have hcl : (Lib.byteCells cur).length = cur.length := Lib.byteCells_length _
  have hst := run_storeCells_at P g o t (Lib.byteCells (l.take dLen)) 0 (Lib.byteCells cur).toArray w hg (by rw [hlen]; simp [hcl]; have : Nat.min l.length dLen ≤ dLen := Nat.min_le_right l.length dLen; omega) (Lib.byteCells_one _)
  have htk : List.take (Nat.min l.length dLen) (List.map (fun b : UInt8 => Value.int IntKind.u8 (b.toNat : Int)) l) = Lib.byteCells (l.take dLen) := by
    unfold Lib.byteCells
    rw [List.map_take]
    show List.take (min l.length dLen) _ = _
    rw [List.take_eq_take_iff]
    simp
    omega
  have hrow : ((Lib.byteCells cur).take o ++ Lib.byteCells (l.take dLen) ++ (Lib.byteCells cur).drop (o + Nat.min l.length dLen)) = Lib.byteCells (cur.take o ++ l.take dLen ++ cur.drop (o + l.length)) := by
    unfold Lib.byteCells
    rw [List.map_append, List.map_append, List.map_take, List.map_take, List.map_drop]
    congr 1
    show List.drop (o + min l.length dLen) _ = _
    rw [List.drop_eq_drop_iff]
    simp
    omega
  rw [hlen] at hst
  simp only [Nat.add_zero] at hst
  rw [hrow] at hst
  cases hq : P.info? elem with
  | none => simp [hq] at hs
  | some i =>
    simp [Builtin.copy_, run_underlying hu, Builtin.lenOf, Builtin.firstCells, Go.sizeOf, typeInfo, hq, hsz]
    rw [htk, hst]
    simp [Result.andThen, List.append_assoc]
theorem madeBytes (n : Nat) : madeCells (Value.int .u8 0).cells n = (Lib.byteCells (List.replicate n 0)).toArray := by
  unfold madeCells
  have : (Value.int .u8 0).cells = #[Value.int .u8 0] := rfl
  rw [this]
  apply Array.ext
  · simp [Lib.byteCells]
  · intro i h1 h2
    simp [Lib.byteCells, Nat.mod_one]
end Copyhold

set_option maxRecDepth 100000
namespace Go.Proofs.YtkhnialfkndiiaaGreat
open Go.RowKit Copyhold
attribute [local go_sem] piece
def fillD (l : List UInt8) (n : Nat) : List UInt8 := l.take n ++ List.replicate (n - l.length) 0
theorem fillD_length (l : List UInt8) (n : Nat) : (fillD l n).length = n := by
  simp [fillD]
  omega
def BytesAt (w : World) (g : Nat) (l : List UInt8) : Prop := w.heap[g]? = some (.cells (Lib.byteCells l).toArray 5 (0, 0))
theorem run_make_bytes (w : World) (n : Nat) (hn : n ≤ 140737488355328) : (Instr.makeSlice 144 (.int .i64 (n : Int)) (.int .i64 (n : Int))).run Tryz.prog w = .ok (.slice (some ⟨w.heap.size, 0, none⟩) n n) (w.alloc (.cells (Lib.byteCells (List.replicate n 0)).toArray 5)) := by
  have h := run_make (P := Tryz.prog) w 144 5 _ (.int .u8 0) rfl rfl rfl .i64 .i64 (n : Int) (n : Int) (by omega) (by omega) (by show (1 : Int) * _ ≤ _; omega) (by omega)
  rw [madeBytes, show (Tryz.prog.types[5]'(by decide)).size = 1 from rfl, Nat.mul_one, Int.toNat_natCast] at h
  exact h
set_option maxHeartbeats 1000000 in
theorem data_filled (l : List UInt8) (n : Nat) (w : World) (_hl : l.length ≤ 140737488355328) (hn : n ≤ 140737488355328) :
    Calls Tryz.prog 136 #[.string ⟨l.toArray⟩, .int .i64 n] w fun e w' => e = .returned (.slice (some ⟨w.heap.size, 0, none⟩) n n) ∧ BytesAt w' w.heap.size (fillD l n) ∧ Below w.heap.size w w' := by
  have hmk := run_make_bytes w n hn
  have hb := (Below.refl w.heap.size w).alloc (Nat.le_refl _) (.cells (Lib.byteCells (List.replicate n 0)).toArray 5)
  have hg := heap_alloc_new w (.cells (Lib.byteCells (List.replicate n 0)).toArray 5)
  obtain ⟨W, hW⟩ : ∃ W, W = w.alloc (.cells (Lib.byteCells (List.replicate n 0)).toArray 5) := ⟨_, rfl⟩
  rw [← hW] at hmk hb hg
  have hcp := run_copy_text (P := Tryz.prog) W 144 9 3 5 w.heap.size 0 n n l (List.replicate n 0) 5 rfl rfl hg (by simp)
  have hf : (List.replicate n (0 : UInt8)).take 0 ++ l.take n ++ (List.replicate n 0).drop (0 + l.length) = fillD l n := by simp [fillD]
  rw [hf] at hcp
  have HB := Lib.hid hb
  have HG := Lib.hid hg
  clear hb hg hf hW
  go_enter Tryz.func136, Tryz.ntmps136
  go_wp2_with fail
  go_ret
  exact ⟨rfl, setRow_heap _ _ _ _ _ _ HG.out, below_setRow HB.out (Nat.le_refl _) _⟩
def cutD (l : List UInt8) (n : Int) : List UInt8 × Int := if refusedD 0 n = 0 then (fillD l n.toNat, 0) else (l, refusedD 0 n)
theorem run_bytes_back {w : World} {g : Nat} {l : List UInt8} (h : BytesAt w g l) : (convert 144 9 (.slice (some ⟨g, 0, none⟩) l.length l.length)).run Tryz.prog w = .ok (.string ⟨l.toArray⟩) w :=
  run_convert_bytes_back w _ _ 5 _ _ l rfl rfl rfl fun j hj => by
    have hadd : (⟨g, 0, none⟩ : Addr).add j = ⟨g, j, none⟩ := by unfold Addr.add; split <;> simp_all
    rw [hadd]
    simp only [World.cell?, show w.heap[g]? = some (.cells (Lib.byteCells l).toArray 5 (0, 0)) from h]
    simp [Lib.byteCells, hj]
set_option maxHeartbeats 1000000 in
theorem data_Cut (l : List UInt8) (n : Int) (w : World) (hl : l.length ≤ 140737488355328) (h1 : -9223372036854775808 ≤ n) (h2 : n ≤ 9223372036854775807) :
    Calls Tryz.prog 112 #[.string ⟨l.toArray⟩, .int .i64 n] w fun e w' => e = .returned (.tuple #[.string ⟨(cutD l n).1.toArray⟩, .int .i64 (cutD l n).2]) ∧ Below w.heap.size w w' := by
  by_cases h : refusedD 0 n = 0
  · have hn : 0 ≤ n ∧ n ≤ 4096 := by
      unfold refusedD at h
      split at h
      · split at h <;> omega
      · cases h
    have hc : cutD l n = (fillD l n.toNat, 0) := if_pos h
    obtain ⟨n, rfl⟩ := Int.eq_ofNat_of_zero_le hn.1
    rw [Int.toNat_natCast] at hc
    have HR := Lib.hid h
    have HC := Lib.hid hc
    clear h hc h1
    go_enter Tryz.func112, Tryz.ntmps112
    go_wp2_with fail
    refine (data_refused 0 n _ (by decide) (by decide) (by omega) (by omega)).mono ?_
    rintro e w1 ⟨rfl, rfl⟩
    rw [HR.out]
    go_wp2_with fail
    refine (data_filled l n _ hl (by omega)).mono ?_
    rintro e w1 ⟨rfl, hb1, hb⟩
    have hk := run_bytes_back hb1
    rw [fillD_length] at hk
    go_wp2_with fail
    go_ret2
    exact ⟨by rw [HC.out]; rfl, hb⟩
  · have hc : cutD l n = (l, refusedD 0 n) := if_neg h
    obtain ⟨z, hz⟩ : ∃ z, z = refusedD 0 n := ⟨_, rfl⟩
    rw [← hz] at h hc
    have HZ := Lib.hid hz
    have HC := Lib.hid hc
    have hq : (z == 0) = false := by simpa using h
    clear hc hz h
    go_enter Tryz.func112, Tryz.ntmps112
    go_wp2_with fail
    refine (data_refused 0 n _ (by decide) (by decide) h1 h2).mono ?_
    rintro e w1 ⟨rfl, rfl⟩
    rw [← HZ.out]
    go_wp2_with fail
    go_ret2
    exact ⟨by rw [HC.out]; rfl, Below.refl _ _⟩
def putD (l : List UInt8) (a : Nat) (t : List UInt8) : List UInt8 :=
  (fillD l (max l.length (a + t.length))).take a ++ t ++ (fillD l (max l.length (a + t.length))).drop (a + t.length)
def writeD (l : List UInt8) (a : Int) (t : List UInt8) : List UInt8 × Int :=
  if refusedD a t.length = 0 then (if t = [] then l else putD l a.toNat t, 0) else (l, refusedD a t.length)
theorem refusedD_zero {a b : Int} (h : refusedD a b = 0) : 0 ≤ a ∧ 0 ≤ b ∧ a + b ≤ 4096 := by
  unfold refusedD at h
  split at h
  · split at h <;> omega
  · cases h
theorem putD_length (l : List UInt8) (a : Nat) (t : List UInt8) : (putD l a t).length = max l.length (a + t.length) := by
  unfold putD
  simp [fillD_length]
  omega
set_option maxHeartbeats 1000000 in
theorem data_Write (l : List UInt8) (a : Int) (t : List UInt8) (w : World) (hl : l.length ≤ 140737488355328) (ht : t.length ≤ 140737488355328) (h1 : -9223372036854775808 ≤ a) (h2 : a ≤ 9223372036854775807) :
    Calls Tryz.prog 111 #[.string ⟨l.toArray⟩, .int .i64 a, .string ⟨t.toArray⟩] w fun e w' => e = .returned (.tuple #[.string ⟨(writeD l a t).1.toArray⟩, .int .i64 (writeD l a t).2]) ∧ Below w.heap.size w w' := by
  by_cases h : refusedD a t.length = 0
  · have hn := refusedD_zero h
    obtain ⟨a, rfl⟩ := Int.eq_ofNat_of_zero_le hn.1
    rcases Classical.em (t = []) with rfl | h0
    · have hc : writeD l a [] = (l, 0) := by unfold writeD; rw [if_pos h, if_pos rfl]
      have HR := Lib.hid h
      have HC := Lib.hid hc
      clear h hc h1 hn
      go_enter Tryz.func111, Tryz.ntmps111
      go_wp2_with fail
      refine (data_refused a 0 _ (by omega) (by omega) (by decide) (by decide)).mono ?_
      rintro e w1 ⟨rfl, rfl⟩
      rw [show refusedD a 0 = 0 from HR.out]
      go_wp2_with fail
      go_ret2
      exact ⟨by rw [HC.out]; rfl, Below.refl _ _⟩
    · have hc : writeD l a t = (putD l a t, 0) := by unfold writeD; rw [if_pos h, if_neg h0, Int.toNat_natCast]
      have hm : ∃ m : Nat, m = max l.length (a + t.length) := ⟨_, rfl⟩
      obtain ⟨m, hm⟩ := hm
      have hp : putD l a t = (fillD l m).take a ++ t.take (m - a) ++ (fillD l m).drop (a + t.length) := by
        unfold putD
        rw [hm, List.take_of_length_le (l := t) (by omega)]
      have hs : (⟨t.toArray⟩ : ByteArray) ≠ ⟨#[]⟩ := fun e => h0 (by simpa using congrArg (fun x : ByteArray => x.data.toList) e)
      have HR := Lib.hid h
      have HC := Lib.hid hc
      have HP := Lib.hid hp
      have HM := Lib.hid hm
      have hpl := putD_length l a t
      rw [← hm] at hpl
      have HL := Lib.hid hpl
      have hmm : (max (l.length : Int) ((a : Int) + t.length)) = m := by omega
      have htp : 0 < t.length := List.length_pos_iff.2 h0
      have ham : a < m := by omega
      have hie : t.isEmpty = false := by simpa using h0
      have hmb : m ≤ 140737488355328 := by omega
      clear h hc h1 hp hm hpl
      go_enter Tryz.func111, Tryz.ntmps111
      go_wp2_with fail
      refine (data_refused a t.length _ (by omega) (by omega) (by omega) (by omega)).mono ?_
      rintro e w1 ⟨rfl, rfl⟩
      rw [HR.out]
      go_wp2_with fail
      · have hmq : (a : Int) + t.length = m := by have := HM.out; omega
        rw [hmq]
        refine (data_filled l m _ hl hmb).mono ?_
        rintro e w1 ⟨rfl, hb1, hb⟩
        have hcp := run_copy_text (P := Tryz.prog) w1 144 9 3 5 w.heap.size a (m - a) (m - a) t (fillD l m) 5 rfl rfl hb1 (by rw [fillD_length]; omega)
        rw [← HP.out] at hcp
        have hb2 : BytesAt (w1.setRow w.heap.size (Lib.byteCells (putD l a t)).toArray) w.heap.size (putD l a t) := setRow_heap _ _ _ _ _ _ hb1
        have hb3 := below_setRow hb (Nat.le_refl _) (Lib.byteCells (putD l a t)).toArray
        obtain ⟨W, hW⟩ : ∃ W, W = w1.setRow w.heap.size (Lib.byteCells (putD l a t)).toArray := ⟨_, rfl⟩
        rw [← hW] at hcp hb2 hb3
        have hk := run_bytes_back hb2
        rw [HL.out] at hk
        clear hW
        go_wp2_with fail
        go_ret2
        exact ⟨by rw [HC.out]; rfl, hb3⟩
      · have hmq : (l.length : Int) = m := by have := HM.out; omega
        rw [hmq]
        refine (data_filled l m _ hl hmb).mono ?_
        rintro e w1 ⟨rfl, hb1, hb⟩
        have hcp := run_copy_text (P := Tryz.prog) w1 144 9 3 5 w.heap.size a (m - a) (m - a) t (fillD l m) 5 rfl rfl hb1 (by rw [fillD_length]; omega)
        rw [← HP.out] at hcp
        have hb2 : BytesAt (w1.setRow w.heap.size (Lib.byteCells (putD l a t)).toArray) w.heap.size (putD l a t) := setRow_heap _ _ _ _ _ _ hb1
        have hb3 := below_setRow hb (Nat.le_refl _) (Lib.byteCells (putD l a t)).toArray
        obtain ⟨W, hW⟩ : ∃ W, W = w1.setRow w.heap.size (Lib.byteCells (putD l a t)).toArray := ⟨_, rfl⟩
        rw [← hW] at hcp hb2 hb3
        have hk := run_bytes_back hb2
        rw [HL.out] at hk
        clear hW
        go_wp2_with fail
        go_ret2
        exact ⟨by rw [HC.out]; rfl, hb3⟩
  · have hc : writeD l a t = (l, refusedD a t.length) := if_neg h
    obtain ⟨z, hz⟩ : ∃ z, z = refusedD a t.length := ⟨_, rfl⟩
    rw [← hz] at h hc
    have HZ := Lib.hid hz
    have HC := Lib.hid hc
    have hq : (z == 0) = false := by simpa using h
    clear hc hz h
    go_enter Tryz.func111, Tryz.ntmps111
    go_wp2_with fail
    refine (data_refused a t.length _ h1 h2 (by omega) (by omega)).mono ?_
    rintro e w1 ⟨rfl, rfl⟩
    rw [← HZ.out]
    go_wp2_with fail
    go_ret2
    exact ⟨by rw [HC.out]; rfl, Below.refl _ _⟩
end Go.Proofs.YtkhnialfkndiiaaGreat
