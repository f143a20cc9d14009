/- Layer 14's plain mathematics, on: a row's decisions by their numbers; Ask by rows and decisions. No program. -/
import Derived.Test.YthnajmfbomedlaaTabP
set_option linter.unusedVariables false
set_option linter.unusedSimpArgs false
namespace Go.Proofs.Ythnajmfbomedlaa
open Copyhold

/-- decisions whose numbers rise -/
def SrtD (l : List (Int × Bool)) : Prop := l.Pairwise (fun a b => a.1 < b.1)
/-- a number's decision -/
def decAt (l : List (Int × Bool)) (s : Int) : Option (Int × Bool) := l.find? (fun d => d.1 == s)

theorem decAt_cons (d : Int × Bool) (l : List (Int × Bool)) (s : Int) : decAt (d :: l) s = if d.1 = s then some d else decAt l s := by
  unfold decAt
  rw [List.find?_cons]
  by_cases h : d.1 = s
  · simp [h]
  · have : (d.1 == s) = false := by simpa using h
    rw [this, if_neg h]
theorem decAt_above {l : List (Int × Bool)} {s : Int} (h : ∀ d ∈ l, s < d.1) : decAt l s = none := by
  unfold decAt
  rw [List.find?_eq_none]
  intro d hd
  have := h d hd
  simp
  omega

theorem place_dec : ∀ (l : List (Int × Bool)) (s : Int), SrtD l → ((placeN (l.map (·.1)) s).2 = (decAt l s).isSome) ∧ ((placeN (l.map (·.1)) s).2 = true → l[(placeN (l.map (·.1)) s).1]? = decAt l s)
  | [], s, _ => by simp [placeN, decAt]
  | d :: l, s, h => by
    have hp := List.pairwise_cons.1 h
    have ih := place_dec l s hp.2
    rw [List.map_cons, placeN, decAt_cons]
    by_cases hle : s ≤ d.1
    · rw [if_pos hle]
      by_cases he : d.1 = s
      · rw [if_pos he]
        simp [he]
      · rw [if_neg he, decAt_above (fun q hq => by have := hp.1 q hq; omega)]
        simp [he]
    · rw [if_neg hle, if_neg (show ¬ d.1 = s by omega)]
      simpa using ih

/-- insD, step by step -/
theorem insD_cons (d : Int × Bool) (l : List (Int × Bool)) (s : Int) (y : Bool) : insD (d :: l) s y = if s ≤ d.1 then (s, y) :: d :: l else d :: insD l s y := by
  unfold insD
  rw [List.map_cons, placeN]
  by_cases h : s ≤ d.1
  · rw [if_pos h, if_pos h]; simp
  · rw [if_neg h, if_neg h]; simp
theorem dec_ins : ∀ (l : List (Int × Bool)) (s : Int) (y : Bool) (m : Int), SrtD l → decAt (insD l s y) m = if m = s then some (s, y) else decAt l m
  | [], s, y, m, _ => by
    show decAt [(s, y)] m = _
    rw [decAt_cons]
    by_cases h : m = s
    · rw [if_pos h.symm, if_pos h]
    · rw [if_neg (fun e => h e.symm), if_neg h]
  | d :: l, s, y, m, h => by
    have hp := List.pairwise_cons.1 h
    rw [insD_cons]
    by_cases hs : s ≤ d.1
    · rw [if_pos hs, decAt_cons]
      by_cases hm : m = s
      · rw [if_pos hm.symm, if_pos hm]
      · rw [if_neg (fun e => hm e.symm), if_neg hm]
    · rw [if_neg hs, decAt_cons, dec_ins l s y m hp.2, decAt_cons]
      by_cases hm : m = s
      · rw [if_pos hm, if_pos hm, if_neg (by omega)]
      · rw [if_neg hm, if_neg hm]
theorem mem_ins : ∀ (l : List (Int × Bool)) (s : Int) (y : Bool) (q : Int × Bool), q ∈ insD l s y → q = (s, y) ∨ q ∈ l
  | [], s, y, q, h => by
    have : q ∈ [(s, y)] := h
    simpa using this
  | d :: l, s, y, q, h => by
    rw [insD_cons] at h
    split at h
    · rcases List.mem_cons.1 h with h | h
      · exact .inl h
      · exact .inr h
    · rcases List.mem_cons.1 h with h | h
      · exact .inr (h ▸ List.mem_cons_self ..)
      · rcases mem_ins l s y q h with h | h
        · exact .inl h
        · exact .inr (List.mem_cons_of_mem _ h)
theorem srt_ins : ∀ (l : List (Int × Bool)) (s : Int) (y : Bool), SrtD l → decAt l s = none → SrtD (insD l s y)
  | [], s, y, _, _ => by
    show SrtD [(s, y)]
    simp [SrtD]
  | d :: l, s, y, h, hn => by
    have hp := List.pairwise_cons.1 h
    rw [decAt_cons] at hn
    have hne : ¬ d.1 = s := by intro e; rw [if_pos e] at hn; cases hn
    rw [if_neg hne] at hn
    rw [insD_cons]
    by_cases hs : s ≤ d.1
    · rw [if_pos hs]
      refine List.pairwise_cons.2 ⟨?_, h⟩
      intro q hq
      rcases List.mem_cons.1 hq with e | hq
      · rw [e]; show s < d.1; omega
      · have := hp.1 q hq
        show s < q.1
        omega
    · rw [if_neg hs]
      refine List.pairwise_cons.2 ⟨?_, srt_ins l s y hp.2 hn⟩
      intro q hq
      rcases mem_ins l s y q hq with e | hq
      · rw [e]; show d.1 < s; omega
      · exact hp.1 q hq
theorem srt_above (l : List (Int × Bool)) (M : Int) (h : SrtD l) : SrtD (above l M) := List.Pairwise.filter _ h
theorem dec_above : ∀ (l : List (Int × Bool)) (M m : Int), decAt (above l M) m = if M < m then decAt l m else none
  | [], M, m => by simp [above, decAt]
  | d :: l, M, m => by
    have ih := dec_above l M m
    have hc : above (d :: l) M = if M < d.1 then d :: above l M else above l M := by
      unfold above
      rw [List.filter_cons]
      by_cases h : M < d.1 <;> simp [h]
    rw [hc, decAt_cons]
    by_cases h : M < d.1
    · rw [if_pos h, decAt_cons, ih]
      by_cases hm : d.1 = m
      · rw [if_pos hm, if_pos hm, if_pos (by omega)]
      · rw [if_neg hm, if_neg hm]
    · rw [if_neg h, ih]
      by_cases hm : M < m
      · rw [if_pos hm, if_pos hm, if_neg (by omega)]
      · rw [if_neg hm, if_neg hm]

/-- Ask, by rows and decisions -/
theorem ask_row (rs : List TRow) (n ep sq : Int) (h : SrtC rs) (hd : ∀ r ∈ rs, SrtD r.l) : askF rs n ep sq = if n < 0 ∨ ep < 1 ∨ sq < 1 then ((false, 1) : Bool × Int) else match rowAt rs n with
    | none => (false, 6)
    | some r => if ep < r.epoch then (false, 17) else if r.epoch < ep then (false, 6) else if sq ≤ r.done then (false, 18) else match decAt r.l sq with
      | none => (false, 6)
      | some d => (d.2, 0) := by
  unfold askF
  rw [own_row rs n ep sq h]
  by_cases hv : n < 0 ∨ ep < 1 ∨ sq < 1
  · simp only [if_pos hv]
  · simp only [if_neg hv]
    cases hr : rowAt rs n with
    | none => rfl
    | some r =>
      have hm := (rowAt_client hr).2
      obtain ⟨h1, h2⟩ := place_dec r.l sq (hd r hm)
      by_cases c1 : ep < r.epoch
      · simp only [if_pos c1]
      · simp only [if_neg c1]
        by_cases c2 : r.epoch < ep
        · simp only [if_pos c2]
        · simp only [if_neg c2]
          by_cases c3 : sq ≤ r.done
          · simp only [if_pos c3]
          · simp only [if_neg c3]
            cases hq : decAt r.l sq with
            | none =>
              rw [hq] at h1
              rw [if_neg (by rw [h1]; decide)]
            | some d =>
              rw [hq] at h1 h2
              have ht : (placeN (r.l.map (·.1)) sq).2 = true := by rw [h1]; rfl
              rw [if_pos ht, h2 ht]
              rfl

end Go.Proofs.Ythnajmfbomedlaa
