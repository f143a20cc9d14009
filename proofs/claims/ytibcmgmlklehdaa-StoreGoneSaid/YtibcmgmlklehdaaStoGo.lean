/- A number that is taken away (the mathematics). -/
import Derived.Test.YtibcmgmlklehdaaStoTw
set_option linter.unusedVariables false
set_option linter.unusedSimpArgs false
namespace Go.Proofs.Ytibcmgmlklehdaa
open Go Go.RowKit Copyhold
theorem set_map {α β : Type} {f : α → β} {l : List α} {i : Nat} {c d : α} (hc : l[i]? = some c) (h : f d = f c) : (l.set i d).map f = l.map f := by
  rw [List.map_set, h]
  apply List.ext_getElem?
  intro j
  rw [List.getElem?_set]
  split
  · rename_i e
    subst e
    rw [List.length_map, if_pos (lt_of_some hc), List.getElem?_map, hc]
    rfl
  · rfl
theorem filterMap_id' {α β : Type} (f : α → Option β) (l : List α) : l.filterMap f = (l.map f).filterMap id := by
  rw [List.filterMap_map]
  rfl
theorem viewC_above {st n : Int} {r : List Ver} {v : Ver} (hv : v.stamp > st) : viewC st ⟨n, r ++ [v]⟩ = viewC st ⟨n, r⟩ := by
  have e : ∀ r : List Ver, cutD Ver.stamp st (r ++ [v]) = cutD Ver.stamp st r := by
    intro r
    induction r with
    | nil => show (if cutD Ver.stamp st [] = 0 then (if v.stamp ≤ st then 1 else 0) else _) = 0; simp only [cutD, if_true]; rw [if_neg (by omega)]
    | cons x r ih => simp only [List.cons_append, cutD, ih]
  unfold viewC atD
  rw [e]
  have h1 := cut_le Ver.stamp st r
  by_cases h0 : cutD Ver.stamp st r = 0
  · rw [if_pos h0, if_pos h0]
  · rw [if_neg h0, if_neg h0, List.getElem?_append_left (by omega)]
theorem base_same {r : List Ver} {st : Int} (h : ∀ v ∈ r, v.stamp < st) : baseD r st = r := by
  unfold baseD
  split
  · rename_i v hv
    have := h v (List.mem_of_getElem? hv)
    rw [if_neg (by omega)]
  · rfl
theorem put_view {l : List Chn} {st st' n : Int} {v : Ver} (hb : ∀ c ∈ l, ∀ v ∈ c.l, v.stamp < st') (hv : v.stamp > st) : (putD l st' n v).filterMap (viewC st) = l.filterMap (viewC st) := by
  cases ht : thereD l n with
  | true =>
    obtain ⟨c, hc, hn⟩ := there_some ht
    rw [put_there ht hc, filterMap_id', set_map hc, ← filterMap_id']
    rw [base_same (hb c (List.mem_of_getElem? hc)), viewC_above hv]
  | false =>
    rw [put_anew ht, List.filterMap_append, List.filterMap_cons]
    have e : viewC st ⟨n, [v]⟩ = none := by
      have := viewC_above (st := st) (n := n) (r := []) hv
      rw [List.nil_append] at this
      rw [this]; rfl
    rw [e]
    show _ ++ (l.drop (placeD l n)).filterMap (viewC st) = _
    rw [← List.filterMap_append, List.take_append_drop]
def RiseI (l : List Chn) : Prop := l.Pairwise fun c d => c.ino < d.ino
theorem rise_of {s : Sto} (hp : storeP s) : RiseI s.l := by
  have h := hp.2.2.2
  have key : ∀ (i j : Nat) (c d : Chn), i < j → s.l[i]? = some c → s.l[j]? = some d → c.ino < d.ino := by
    intro i j
    induction j with
    | zero => intro c d h; omega
    | succ j ih =>
      intro c d hij hc hd
      obtain ⟨e, he⟩ := some_of (l := s.l) (k := j) (by have := lt_of_some hd; omega)
      have h1 := (h.at hd).2 e (by omega) (by simpa using he)
      rcases Nat.lt_or_ge i j with hij' | hij'
      · have := ih c e hij' hc he; omega
      · obtain rfl : i = j := by omega
        rw [hc] at he
        obtain rfl := Option.some.inj he
        exact h1
  unfold RiseI
  rw [List.pairwise_iff_getElem]
  intro i j hi hj hij
  exact key i j _ _ hij (List.getElem?_eq_getElem hi) (List.getElem?_eq_getElem hj)
theorem drop_gt {n : Int} : ∀ {l : List Chn}, RiseI l → thereD l n = false → ∀ c ∈ l, c.ino ≠ n
  | [], _, _, c, hc => by cases hc
  | x :: r, hr, ht, c, hc => by
    obtain ⟨h1, h2⟩ := List.pairwise_cons.1 hr
    by_cases hx : x.ino < n
    · have e : placeD (x :: r) n = placeD r n + 1 := by unfold placeD; simp [hx]
      have ht' : thereD r n = false := by
        unfold thereD at ht ⊢
        rw [e] at ht
        simpa using ht
      rcases List.mem_cons.1 hc with rfl | hc
      · omega
      · exact drop_gt h2 ht' c hc
    · have e : placeD (x :: r) n = 0 := by unfold placeD; simp [hx]
      have hne : x.ino ≠ n := by
        unfold thereD at ht
        rw [e] at ht
        simpa using ht
      rcases List.mem_cons.1 hc with rfl | hc
      · exact hne
      · have := h1 c hc; omega
theorem put_last {l : List Chn} {st n : Int} {v : Ver} (hr : RiseI l) : ∀ c ∈ putD l st n v, (c.ino = n ∧ ∃ b, c.l = b ++ [v]) ∨ (c ∈ l ∧ c.ino ≠ n) := by
  intro c hc
  cases ht : thereD l n with
  | true =>
    obtain ⟨d, hd, hn⟩ := there_some ht
    rw [put_there ht hd] at hc
    obtain ⟨j, hj⟩ := List.getElem?_of_mem hc
    rw [List.getElem?_set] at hj
    split at hj
    · split at hj
      · obtain rfl := Option.some.inj hj
        exact .inl ⟨hn, _, rfl⟩
      · cases hj
    · rename_i hne
      refine .inr ⟨List.mem_of_getElem? hj, fun he => ?_⟩
      have h3 := List.pairwise_iff_getElem.1 hr
      have l1 := lt_of_some hj
      have l2 := lt_of_some hd
      have e1 : l[j] = c := Option.some.inj ((List.getElem?_eq_getElem l1).symm.trans hj)
      have e2 : l[placeD l n] = d := Option.some.inj ((List.getElem?_eq_getElem l2).symm.trans hd)
      rcases Nat.lt_or_gt_of_ne hne with h | h
      · have := h3 _ _ l2 l1 h; rw [e1, e2] at this; omega
      · have := h3 _ _ l1 l2 h; rw [e1, e2] at this; omega
  | false =>
    have hno := drop_gt hr ht
    rw [put_anew ht] at hc
    rcases List.mem_append.1 hc with hc | hc
    · exact .inr ⟨List.mem_of_mem_take hc, hno c (List.mem_of_mem_take hc)⟩
    · rcases List.mem_cons.1 hc with rfl | hc
      · exact .inl ⟨rfl, [], rfl⟩
      · exact .inr ⟨List.mem_of_mem_drop hc, hno c (List.mem_of_mem_drop hc)⟩
theorem filter_one {α : Type} {p : α → Bool} {l : List α} {i : Nat} {x : α} (h : ∀ y ∈ l, p y = false) (hx : p x = true) (hi : i ≤ l.length) (b : Nat) : ((l.take i ++ x :: l.drop b).filter p).length = 1 := by
  rw [List.filter_append, List.filter_cons, if_pos hx, List.filter_eq_nil_iff.2 (fun y hy => by simp [h y (List.mem_of_mem_take hy)]), List.filter_eq_nil_iff.2 (fun y hy => by simp [h y (List.mem_of_mem_drop hy)])]
  rfl
theorem put_later {l : List Chn} {st st' n : Int} {v : Ver} (h : ∀ c ∈ l, laterB st c = false) (hv : v.stamp > st) : ((putD l st' n v).filter (laterB st)).length = 1 := by
  have e : ∀ b, laterB st ⟨n, b ++ [v]⟩ = true := fun b => by unfold laterB; simp [hv]
  cases ht : thereD l n with
  | true =>
    obtain ⟨d, hd, hn⟩ := there_some ht
    have hlt := lt_of_some hd
    rw [put_there ht hd, List.set_eq_take_append_cons_drop, if_pos hlt]
    exact filter_one h (by have := e (baseD d.l st'); rw [hn]; exact this) (by omega) _
  | false =>
    rw [put_anew ht]
    exact filter_one h (e []) (place_le l n) _
def goneC (n : Int) : Chg := ⟨n, true, nod0⟩
theorem goneC_ok {n : Int} (h : I64 n) : OkCh (goneC n) := ⟨h, nod0_ok⟩
def goneD (s : Sto) (n : Int) : Sto := instD s [goneC n] 0
theorem gone_l (s : Sto) (n : Int) : (goneD s n).l = putD s.l (s.stamp + 1) n ⟨s.stamp + 1, true, nod0⟩ := rfl
theorem gone_nexts {s : Sto} (hp : storeP s) (n : Int) : (goneD s n).nexts = s.nexts := nextsD_none hp
theorem gone_before {s : Sto} (hp : storeP s) (n : Int) : viewD (goneD s n) s.stamp = viewD s s.stamp := by
  show Fsy.mk ((goneD s n).l.filterMap _) (nextD (goneD s n) s.stamp) = Fsy.mk _ _
  congr 1
  · rw [gone_l]
    exact put_view (fun c hc v hv => by have := stamps_le hp c hc v hv; omega) (by show s.stamp + 1 > s.stamp; omega)
  · unfold nextD
    rw [gone_nexts hp]
theorem gone_since {s : Sto} (hp : storeP s) (n : Int) : (sinceD (goneD s n) s.stamp).length = 2 := by
  have h1 : (laterL (goneD s n) s.stamp (goneD s n).l.length).length = 1 := by
    unfold laterL
    rw [take_all (Nat.le_refl _), List.length_map, gone_l]
    exact put_later (fun c hc => later_last hp hc) (by show s.stamp + 1 > s.stamp; omega)
  unfold sinceD
  rw [if_pos (.inl (by omega)), List.length_cons, h1]
theorem viewC_last {st : Int} {c : Chn} {b : List Ver} {v : Ver} (hc : c.l = b ++ [v]) (hle : ∀ u ∈ c.l, u.stamp ≤ st) (hg : v.gone = true) : viewC st c = none := by
  rw [viewC_abs (st := 0) hle]
  unfold absC viewA
  rw [hc]
  simp [hg]
theorem gone_le {s : Sto} (hp : storeP s) (n : Int) : ∀ c ∈ (goneD s n).l, ∀ v ∈ c.l, v.stamp ≤ s.stamp + 1 := by
  rw [gone_l]
  exact put_all (P := fun c => ∀ v ∈ c.l, v.stamp ≤ s.stamp + 1) (fun c hc v hv => by have := stamps_le hp c hc v hv; omega) (fun v hv => by obtain rfl := List.mem_singleton.1 hv; exact Int.le_refl _) (fun d hd v hv => by
    rcases List.mem_append.1 hv with hv | hv
    · have := stamps_le hp d hd v (base_sub v hv); omega
    · obtain rfl := List.mem_singleton.1 hv; exact Int.le_refl _)
theorem gone_find {s : Sto} (hp : storeP s) (n : Int) : findB (viewD (goneD s n) (goneD s n).stamp) n = false := by
  have key : ∀ m ∈ (goneD s n).l.filterMap (viewC (s.stamp + 1)), isNo n m = false := fun m hm => by
    obtain ⟨c, hc, hv⟩ := List.mem_filterMap.1 hm
    rcases put_last (rise_of hp) c hc with ⟨h1, b, h2⟩ | ⟨h1, h2⟩
    · rw [viewC_last h2 (gone_le hp n c hc) rfl] at hv
      cases hv
    · have h3 := viewC_ino hp h1 hv
      unfold isNo
      rw [h3]
      have h4 : ¬ c.ino = n := h2
      simpa using h4
  exact List.any_eq_false.2 fun m hm => by simp [key m hm]
def lastC (st : Int) (c : Chn) : Option Chn := match atD Ver.stamp st c.l with
  | some v => if v.gone then none else some ⟨c.ino, [v]⟩
  | none => none
def keepN (st : Int) (l : List Cnt) : List Cnt := match atD Cnt.stamp st l with
  | some c => [c]
  | none => []
def sweepD (s : Sto) : Sto := ⟨s.l.filterMap (lastC s.stamp), keepN s.stamp s.nexts, s.stamp⟩
theorem lastC_view {st : Int} {c : Chn} (h : viewC st c = none) : lastC st c = none := by
  unfold viewC at h
  unfold lastC
  split
  · rename_i v hv
    rw [hv] at h
    simp only at h
    split at h
    · rename_i hg; rw [if_pos hg]
    · cases h
  · rfl
theorem gone_sweep {s : Sto} (hp : storeP s) (n : Int) : ∀ c ∈ (sweepD (goneD s n)).l, c.ino ≠ n := by
  intro c hc
  obtain ⟨d, hd, hv⟩ := List.mem_filterMap.1 hc
  replace hv : lastC (s.stamp + 1) d = some c := hv
  have hi : c.ino = d.ino := by
    unfold lastC at hv
    split at hv
    · split at hv
      · cases hv
      · obtain rfl := Option.some.inj hv; rfl
    · cases hv
  rcases put_last (rise_of hp) d hd with ⟨h1, b, h2⟩ | ⟨h1, h2⟩
  · rw [lastC_view (viewC_last h2 (gone_le hp n d hd) rfl)] at hv
    cases hv
  · rw [hi]; exact h2
theorem gone_not {s : Sto} (hp : storeP s) {n : Int} {k : Nat} {c : Chn} (hc : (sweepD (goneD s n)).l[k]? = some c) : ¬ c.ino = n := gone_sweep hp n c (List.mem_of_getElem? hc)
end Go.Proofs.Ytibcmgmlklehdaa
