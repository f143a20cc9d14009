/- Two installs, one behind the other, and one of both: seen alike (the mathematics). -/
import Derived.Test.YtibcmgmlklehdaaStoMay
set_option linter.unusedVariables false
set_option linter.unusedSimpArgs false
namespace Go.Proofs.Ytibcmgmlklehdaa
open Go Go.RowKit Copyhold
theorem base_sub {r : List Ver} {st : Int} : ∀ v ∈ baseD r st, v ∈ r := by
  intro v hv
  unfold baseD at hv
  split at hv
  · split at hv
    · exact List.mem_of_mem_take hv
    · exact hv
  · exact hv
theorem put_all {P : Chn → Prop} {l : List Chn} {st n : Int} {v : Ver} (hl : ∀ c ∈ l, P c) (h1 : P ⟨n, [v]⟩) (h2 : ∀ d ∈ l, P ⟨d.ino, baseD d.l st ++ [v]⟩) : ∀ c ∈ putD l st n v, P c := by
  intro c hc
  unfold putD at hc
  split at hc
  · split at hc
    · rename_i d hd
      rcases List.mem_or_eq_of_mem_set hc with hc | rfl
      · exact hl c hc
      · exact h2 d (List.mem_of_getElem? hd)
    · exact hl c hc
  · rcases List.mem_append.1 hc with hc | hc
    · exact hl c (List.mem_of_mem_take hc)
    · rcases List.mem_cons.1 hc with rfl | hc
      · exact h1
      · exact hl c (List.mem_of_mem_drop hc)
def instF (l : List Chn) (st : Int) (cs : List Chg) : List Chn := cs.foldl (fun l c => putD l st c.ino (versionD c st)) l
theorem instL_eq (l : List Chn) (st : Int) (cs : List Chg) : instL l st cs cs.length = instF l st cs := by unfold instL instF; rw [List.take_length]
theorem instF_all {P : Chn → Prop} {st : Int} : ∀ {cs : List Chg} {l : List Chn}, (∀ c ∈ l, P c) → (∀ c ∈ cs, P ⟨c.ino, [versionD c st]⟩) → (∀ c ∈ cs, ∀ d, P d → P ⟨d.ino, baseD d.l st ++ [versionD c st]⟩) → ∀ c ∈ instF l st cs, P c
  | [], l, hl, _, _ => hl
  | x :: r, l, hl, h1, h2 => instF_all (cs := r) (l := putD l st x.ino (versionD x st)) (put_all hl (h1 x (List.mem_cons_self ..)) (fun d hd => h2 x (List.mem_cons_self ..) d (hl d hd))) (fun c hc => h1 c (List.mem_cons_of_mem _ hc)) (fun c hc => h2 c (List.mem_cons_of_mem _ hc))
theorem versionD_stamp (c : Chg) (st : Int) : (versionD c st).stamp = st := by unfold versionD; split <;> rfl
theorem versionD_ok {c : Chg} {st : Int} (h : OkCh c) (hs : I64 st) : OkV (versionD c st) := by
  unfold versionD
  split
  · exact ⟨hs, nod0_ok⟩
  · exact ⟨hs, h.1, h.2.2⟩
def OkD (c : Chn) : Prop := I64 c.ino ∧ ∀ v ∈ c.l, OkV v
theorem instF_ok {l : List Chn} {st : Int} {cs : List Chg} (hs : I64 st) (hl : ∀ c ∈ l, OkD c) (hc : ∀ c ∈ cs, OkCh c) : ∀ c ∈ instF l st cs, OkD c :=
  instF_all hl (fun c h => ⟨(hc c h).1, fun v hv => by obtain rfl := List.mem_singleton.1 hv; exact versionD_ok (hc c h) hs⟩)
    (fun c h d hd => ⟨hd.1, fun v hv => by
      rcases List.mem_append.1 hv with hv | hv
      · exact hd.2 v (base_sub v hv)
      · obtain rfl := List.mem_singleton.1 hv; exact versionD_ok (hc c h) hs⟩)
theorem instF_le {l : List Chn} {st b : Int} {cs : List Chg} (hb : st ≤ b) (hl : ∀ c ∈ l, ∀ v ∈ c.l, v.stamp ≤ b) : ∀ c ∈ instF l st cs, ∀ v ∈ c.l, v.stamp ≤ b :=
  instF_all (P := fun c => ∀ v ∈ c.l, v.stamp ≤ b) hl (fun c h v hv => by obtain rfl := List.mem_singleton.1 hv; rw [versionD_stamp]; exact hb)
    (fun c h d hd v hv => by
      rcases List.mem_append.1 hv with hv | hv
      · exact hd v (base_sub v hv)
      · obtain rfl := List.mem_singleton.1 hv; rw [versionD_stamp]; exact hb)
theorem nextsD_none {s : Sto} (hp : storeP s) : nextsD s 0 = s.nexts := by
  unfold nextsD
  split
  · rename_i c hc
    have := hp.2.2.1.at hc
    rw [if_neg (by omega)]
  · rename_i h
    have := hp.2.1.1
    have := List.getElem?_eq_none_iff.1 h
    omega
theorem nextsD_none' {s : Sto} (h1 : 1 ≤ s.nexts.length) (h2 : ∀ c ∈ s.nexts, 1 ≤ c.next) : nextsD s 0 = s.nexts := by
  unfold nextsD
  split
  · rename_i c hc
    have := h2 c (List.mem_of_getElem? hc)
    rw [if_neg (by omega)]
  · rename_i h
    have := List.getElem?_eq_none_iff.1 h
    omega
theorem nextsD_ok {s : Sto} {next : Int} (oks : OkS s) (hn : I64 next) (hs : I64 (s.stamp + 1)) : ∀ c ∈ nextsD s next, OkK c := by
  have key : ∀ c ∈ s.nexts ++ [(⟨s.stamp + 1, next⟩ : Cnt)], OkK c := fun c hc => by
    rcases List.mem_append.1 hc with hc | hc
    · exact oks.2.2.2.2 c hc
    · obtain rfl := List.mem_singleton.1 hc; exact ⟨hs, hn⟩
  intro c hc
  unfold nextsD at hc
  split at hc
  · split at hc
    · exact key c hc
    · exact oks.2.2.2.2 c hc
  · exact key c hc
theorem nextsD_len (s : Sto) (next : Int) : (nextsD s next).length ≤ s.nexts.length + 1 := by
  unfold nextsD
  split
  · split
    · simp
    · omega
  · simp
structure Fit (s : Sto) (B : Nat) : Prop where
  ok : OkS s
  l : s.l.length ≤ B
  n : s.nexts.length ≤ B
  r : ∀ c ∈ s.l, c.l.length ≤ B
theorem Fit.inst {s : Sto} {B : Nat} {cs : List Chg} {next : Int} (h : Fit s B) (hc : ∀ c ∈ cs, OkCh c) (hn : I64 next) (hs : s.stamp < 9223372036854775807) (hB : B + 1 + cs.length ≤ 100000) : Fit (instD s cs next) (B + 1 + cs.length) := by
  have hst : I64 (s.stamp + 1) := ⟨by have := h.ok.1.1; omega, by omega⟩
  have h1 := instL_len s.l (s.stamp + 1) cs cs.length
  have h2 := instL_rows (st := s.stamp + 1) (cs := cs) h.r cs.length (Nat.le_refl _)
  have h3 := nextsD_len s next
  have h4 : ∀ c ∈ instL s.l (s.stamp + 1) cs cs.length, OkD c := by
    rw [instL_eq]
    exact instF_ok hst (fun c hc => ⟨(h.ok.2.2.2.1 c hc).1, (h.ok.2.2.2.1 c hc).2.2⟩) hc
  have hl := h.l
  have hn2 := h.n
  refine ⟨⟨hst, ?_, ?_, fun c hc => ⟨(h4 c hc).1, ?_, (h4 c hc).2⟩, nextsD_ok h.ok hn hst⟩, ?_, ?_, fun c hc => ?_⟩
  · show (instL s.l (s.stamp + 1) cs cs.length).length ≤ _; omega
  · show (nextsD s next).length ≤ _; omega
  · have := h2 c hc; omega
  · show (instL s.l (s.stamp + 1) cs cs.length).length ≤ _; omega
  · show (nextsD s next).length ≤ _; omega
  · have := h2 c hc; omega
theorem few_fit {s : Sto} (oks : OkS s) (h : few s) : Fit s 200 := by
  obtain ⟨h1, h2, h3⟩ := few_many h
  refine ⟨oks, h1, h2, fun c hc => ?_⟩
  have : c.l.length ≤ (s.l.map (fun c => c.l.length)).sum := by
    clear h h1 h2 h3
    revert hc
    generalize s.l = l
    intro hc
    induction l with
    | nil => cases hc
    | cons d r ih =>
      simp only [List.map_cons, List.sum_cons]
      rcases List.mem_cons.1 hc with rfl | hc
      · omega
      · have := ih hc; omega
  unfold manyD at h3
  omega
structure Abs where
  ino : Int
  last : Option (Bool × Nod)
  later : Bool
def absC (st : Int) (c : Chn) : Abs := ⟨c.ino, c.l.getLast?.map (fun v => (v.gone, v.n)), laterB st c⟩
def viewA (a : Abs) : Option Nod := match a.last with
  | some (g, n) => if g then none else some n
  | none => none
def placeA (L : List Abs) (n : Int) : Nat := (L.takeWhile fun a => decide (a.ino < n)).length
def putA (L : List Abs) (n : Int) (x : Bool × Nod) : List Abs :=
  match L[placeA L n]? with
  | some a => if a.ino = n then L.set (placeA L n) ⟨a.ino, some x, true⟩ else L.take (placeA L n) ++ ⟨n, some x, true⟩ :: L.drop (placeA L n)
  | none => L.take (placeA L n) ++ ⟨n, some x, true⟩ :: L.drop (placeA L n)
theorem placeA_map (st : Int) (l : List Chn) (n : Int) : placeA (l.map (absC st)) n = placeD l n := by
  unfold placeA placeD
  rw [List.takeWhile_map, List.length_map]
  rfl
theorem absC_put {st n : Int} {b : List Ver} {v : Ver} (hv : v.stamp > st) : absC st ⟨n, b ++ [v]⟩ = ⟨n, some (v.gone, v.n), true⟩ := by
  unfold absC laterB
  simp [hv]
theorem put_abs {l : List Chn} {st st' n : Int} {v : Ver} (hv : v.stamp > st) : (putD l st' n v).map (absC st) = putA (l.map (absC st)) n (v.gone, v.n) := by
  have e0 := absC_put (st := st) (n := n) (b := []) hv
  rw [List.nil_append] at e0
  unfold putA
  rw [placeA_map, List.getElem?_map]
  cases hc : l[placeD l n]? with
  | none =>
    rw [put_anew (by unfold thereD; rw [hc])]
    simp [e0, List.map_take, List.map_drop]
  | some c =>
    by_cases hn : c.ino = n
    · rw [put_there (by unfold thereD; rw [hc]; simp [hn]) hc]
      show _ = if (absC st c).ino = n then _ else _
      rw [if_pos (show (absC st c).ino = n from hn), List.map_set, absC_put hv]
      rfl
    · rw [put_anew (by unfold thereD; rw [hc]; simp [hn])]
      show _ = if (absC st c).ino = n then _ else _
      rw [if_neg (show ¬ (absC st c).ino = n from hn)]
      simp [e0, List.map_take, List.map_drop]
theorem instF_abs {st : Int} : ∀ {cs : List Chg} {l m : List Chn} {p q : Int}, st < p → st < q → l.map (absC st) = m.map (absC st) → (instF l p cs).map (absC st) = (instF m q cs).map (absC st)
  | [], l, m, p, q, _, _, h => h
  | x :: r, l, m, p, q, hp, hq, h => by
    refine instF_abs (cs := r) (l := putD l p x.ino (versionD x p)) (m := putD m q x.ino (versionD x q)) hp hq ?_
    rw [put_abs (by rw [versionD_stamp]; exact hp), put_abs (by rw [versionD_stamp]; exact hq), h]
    have e : ((versionD x p).gone, (versionD x p).n) = ((versionD x q).gone, (versionD x q).n) := by unfold versionD; split <;> rfl
    rw [e]
theorem viewC_abs {st b : Int} {c : Chn} (h : ∀ v ∈ c.l, v.stamp ≤ b) : viewC b c = viewA (absC st c) := by
  have e := cut_full (f := Ver.stamp) h (Int.le_refl b)
  unfold viewC atD viewA absC
  rw [e]
  by_cases h0 : c.l.length = 0
  · rw [if_pos h0, List.eq_nil_of_length_eq_zero h0]; rfl
  · rw [if_neg h0, List.getLast?_eq_getElem?]
    cases hv : c.l[c.l.length - 1]? with
    | none => rfl
    | some v => rfl
theorem views_abs {st b : Int} {l : List Chn} (h : ∀ c ∈ l, ∀ v ∈ c.l, v.stamp ≤ b) : l.filterMap (viewC b) = (l.map (absC st)).filterMap viewA := by
  rw [List.filterMap_map]
  exact filterMap_same fun c hc => viewC_abs (h c hc)
theorem later_abs (s : Sto) (st : Int) : laterL s st s.l.length = ((s.l.map (absC st)).filter Abs.later).map Abs.ino := by
  unfold laterL
  rw [take_all (Nat.le_refl _), List.filter_map, List.map_map]
  rfl
theorem later_len {s t : Sto} {st : Int} (h : s.l.map (absC st) = t.l.map (absC st)) (hn : s.nexts = t.nexts) : sinceD s st = sinceD t st := by
  unfold sinceD moreB
  rw [later_abs s, later_abs t, h, hn]
theorem next_of {s : Sto} {b : Int} (h : ∀ c ∈ s.nexts, c.stamp ≤ b) : nextD s b = match s.nexts[s.nexts.length - 1]? with | some c => c.next | none => 1 := by
  unfold nextD atD
  rw [cut_full (f := Cnt.stamp) h (Int.le_refl b)]
  by_cases h0 : s.nexts.length = 0
  · rw [if_pos h0, List.eq_nil_of_length_eq_zero h0]; rfl
  · rw [if_neg h0]
    cases s.nexts[s.nexts.length - 1]? <;> rfl
theorem stamps_le {s : Sto} (hp : storeP s) : ∀ c ∈ s.l, ∀ v ∈ c.l, v.stamp ≤ s.stamp := fun c hc v hv => by
  obtain ⟨k, hk⟩ := List.getElem?_of_mem hc
  obtain ⟨j, hj⟩ := List.getElem?_of_mem hv
  exact ((hp.2.2.2.at hk).1.2.1.2.at hj).2.1
theorem nexts_pos {s : Sto} (hp : storeP s) : ∀ c ∈ s.nexts, 1 ≤ c.next := fun c hc => by
  obtain ⟨k, hk⟩ := List.getElem?_of_mem hc
  exact hp.2.2.1.at hk
theorem twice_nexts {s : Sto} (hp : storeP s) (a b : List Chg) : (instD (instD s a 0) b 0).nexts = s.nexts ∧ (instD s (a ++ b) 0).nexts = s.nexts := by
  have h1 : (instD s a 0).nexts = s.nexts := nextsD_none hp
  refine ⟨?_, nextsD_none hp⟩
  show nextsD (instD s a 0) 0 = _
  rw [nextsD_none' (by rw [h1]; exact hp.2.1.1) (by rw [h1]; exact nexts_pos hp), h1]
theorem twice_abs (s : Sto) (a b : List Chg) : (instD (instD s a 0) b 0).l.map (absC s.stamp) = (instD s (a ++ b) 0).l.map (absC s.stamp) := by
  show (instL (instL s.l (s.stamp + 1) a a.length) (s.stamp + 1 + 1) b b.length).map _ = (instL s.l (s.stamp + 1) (a ++ b) (a ++ b).length).map _
  rw [instL_eq, instL_eq, instL_eq]
  show _ = (List.foldl _ s.l (a ++ b)).map _
  rw [List.foldl_append]
  exact instF_abs (by omega) (by omega) rfl
theorem twice_view {s : Sto} (hp : storeP s) (a b : List Chg) : viewD (instD (instD s a 0) b 0) (instD (instD s a 0) b 0).stamp = viewD (instD s (a ++ b) 0) (instD s (a ++ b) 0).stamp := by
  obtain ⟨n1, n2⟩ := twice_nexts hp a b
  have b0 := stamps_le hp
  have b1 : ∀ c ∈ (instD s a 0).l, ∀ v ∈ c.l, v.stamp ≤ s.stamp + 1 + 1 := by
    show ∀ c ∈ instL s.l (s.stamp + 1) a a.length, _
    rw [instL_eq]
    exact instF_le (by omega) (fun c hc v hv => by have := b0 c hc v hv; omega)
  have b2 : ∀ c ∈ (instD (instD s a 0) b 0).l, ∀ v ∈ c.l, v.stamp ≤ s.stamp + 1 + 1 := by
    show ∀ c ∈ instL (instD s a 0).l (s.stamp + 1 + 1) b b.length, _
    rw [instL_eq]
    exact instF_le (by omega) b1
  have b3 : ∀ c ∈ (instD s (a ++ b) 0).l, ∀ v ∈ c.l, v.stamp ≤ s.stamp + 1 := by
    show ∀ c ∈ instL s.l (s.stamp + 1) (a ++ b) (a ++ b).length, _
    rw [instL_eq]
    exact instF_le (by omega) (fun c hc v hv => by have := b0 c hc v hv; omega)
  have e1 : (instD (instD s a 0) b 0).l.filterMap (viewC (s.stamp + 1 + 1)) = (instD s (a ++ b) 0).l.filterMap (viewC (s.stamp + 1)) := by
    rw [views_abs (st := s.stamp) b2, views_abs (st := s.stamp) b3, twice_abs]
  have hn := nexts_le hp
  have e2 : nextD (instD (instD s a 0) b 0) (s.stamp + 1 + 1) = nextD (instD s (a ++ b) 0) (s.stamp + 1) := by
    rw [next_of (by rw [n1]; exact fun c hc => by have := hn c hc; omega), next_of (by rw [n2]; exact fun c hc => by have := hn c hc; omega), n1, n2]
  show Fsy.mk _ _ = Fsy.mk _ _
  congr 1
theorem twice_since {s : Sto} (hp : storeP s) (a b : List Chg) : sinceD (instD (instD s a 0) b 0) s.stamp = sinceD (instD s (a ++ b) 0) s.stamp :=
  later_len (twice_abs s a b) (by obtain ⟨n1, n2⟩ := twice_nexts hp a b; rw [n1, n2])
end Go.Proofs.Ytibcmgmlklehdaa
