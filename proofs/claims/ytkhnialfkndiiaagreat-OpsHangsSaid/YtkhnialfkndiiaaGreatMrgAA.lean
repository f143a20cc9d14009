/- What a call hangs on, and what it turns. slices.Sort, slices.Compact of numbers, at any length. slices.Clone of numbers; ops.gather. ops.Looks, in general. What became of a file system; what is let become of it: the mathematics. ops.Changes, ref11.Changes. ops.Apply, ref11.Apply, Turns. -/
import Derived.Test.YtkhnialfkndiiaaGreatMrgW
import Derived.Test.YtkhnialfkndiiaaGreatMrgZ
import Derived.Test.YtkhnialfkndiiaaGreatMrgY
import Derived.Test.YtkhnialfkndiiaaGreatShelf
import Derived.Sort.OwnSortedInts
import Derived.Test.YtkhnialfkndiiaaGreatMrgL
import Derived.Test.YtkhnialfkndiiaaGreatMrgI
set_option maxRecDepth 100000
set_option maxHeartbeats 8000000
set_option linter.unusedVariables false
set_option linter.unusedSimpArgs false
namespace Go.Proofs.YtkhnialfkndiiaaGreat
open Go Go.RowKit Copyhold
open Copyhold.Name (Srt insE delE getE isAt)
def updF : List (Int × Option Nod) → Option Nod → Int → Option Nod
  | [], x, _ => x
  | (i, v) :: r, x, j => if j = i then v else updF r x j
def Upd (f k : Fsy) (u : List (Int × Option Nod)) : Prop := ∀ j, atF k j = updF u (atF f j) j
theorem Upd.self (f : Fsy) : Upd f f [] := fun _ => rfl
theorem Upd.out {f k : Fsy} {u : List (Int × Option Nod)} (h : Upd f k u) {j : Int} (hj : ∀ p ∈ u, ¬ p.1 = j) : atF k j = atF f j := by
  rw [h j]
  clear h
  induction u with
  | nil => rfl
  | cons p r ih =>
    obtain ⟨i, v⟩ := p
    have h1 : ¬ i = j := hj (i, v) (by simp)
    show (if j = i then v else updF r (atF f j) j) = _
    rw [if_neg (fun e => h1 e.symm)]
    exact ih fun q hq => hj q (by simp [hq])
theorem updF_in {u : List (Int × Option Nod)} {x y : Option Nod} {j : Int} (h : ∃ p ∈ u, p.1 = j) : updF u x j = updF u y j := by
  induction u with
  | nil => obtain ⟨p, hp, _⟩ := h; cases hp
  | cons q r ih =>
    obtain ⟨i, v⟩ := q
    show (if j = i then v else updF r x j) = if j = i then v else updF r y j
    split
    · rfl
    · rename_i hji
      refine ih ?_
      obtain ⟨p, hp, e⟩ := h
      rcases List.mem_cons.1 hp with rfl | hp
      · exact absurd e.symm hji
      · exact ⟨p, hp, e⟩
structure Agr (f g : Fsy) (c : Cal) (u : List (Int × Option Nod)) : Prop where
  looks : ∀ p ∈ u, p.1 ∈ looksL f c
  few : u.length ≤ 2
  updf : Upd f (doF f c).1 u
  updg : Upd g (doF g c).1 u
  same : (doF f c).2 = (doF g c).2
  nextf : (doF f c).1.next = f.next
  nextg : (doF g c).1.next = g.next
  lenf : (doF f c).1.l.length ≤ f.l.length
theorem agr_still {f g : Fsy} {c : Cal} {r : Rep} (h1 : doF f c = (f, r)) (h2 : doF g c = (g, r)) : ∃ u, Agr f g c u :=
  ⟨[], fun p hp => (by cases hp), Nat.zero_le _, by rw [h1]; exact Upd.self f, by rw [h2]; exact Upd.self g, by rw [h1, h2], by rw [h1], by rw [h2], by rw [h1]; exact Nat.le_refl _⟩
theorem ino_in (f : Fsy) (c : Cal) : c.ino ∈ looksL f c := looksL_mem.2 (.inl (.inl rfl))
theorem to_in (f : Fsy) (c : Cal) : c.to ∈ looksL f c := looksL_mem.2 (.inl (.inr rfl))
theorem B_eq {f g : Fsy} {i : Int} (h : atF f i = atF g i) : findB f i = findB g i ∧ findN f i = findN g i := by rw [at_B, at_B, at_N, at_N, h]; exact ⟨rfl, rfl⟩
theorem dir_eq {f g : Fsy} {i : Int} (h : atF f i = atF g i) : dirE f i = dirE g i ∧ dirN f i = dirN g i := by
  obtain ⟨h1, h2⟩ := B_eq h
  have e : dirE f i = dirE g i := by unfold dirE; rw [h1, h2]
  exact ⟨e, by unfold dirN; rw [e, h2]⟩
theorem of_eq {f g : Fsy} {i k : Int} (h : atF f i = atF g i) : ofE f i k = ofE g i k := by
  obtain ⟨h1, h2⟩ := B_eq h
  unfold ofE; rw [h1, h2]
theorem no_zero {f : Fsy} (hp : rowsP f) : atF f 0 = none := by
  cases h : atF f 0 with
  | none => rfl
  | some n => have := rows_at hp h; have := this.1.1; omega
theorem kid_in {f : Fsy} {c : Cal} {i j : Int} {s : Txt} (hi : i = c.ino ∨ i = c.to) (hs : s = c.name ∨ s = c.name2) (h0 : dirE f i = 0) (hg : getE (lI (dirN f i).l) s = some j) : j ∈ looksL f c :=
  looksL_mem.2 (.inr ⟨i, hi, h0, s, hs, by rw [isB_get, hg]; rfl, by rw [getI_get, hg]; rfl⟩)
theorem look_agree {f g : Fsy} {c : Cal} (hp : rowsP f) (hpg : rowsP g) (h : ∀ i ∈ looksL f c, atF f i = atF g i) : lookE f c.ino c.name = lookE g c.ino c.name ∧ lookN f c.ino c.name = lookN g c.ino c.name := by
  have hi := h _ (ino_in f c)
  obtain ⟨d1, d2⟩ := dir_eq hi
  have hI : lookI f c.ino c.name = lookI g c.ino c.name := by unfold lookI; rw [d2]
  have hat : atF f (lookI f c.ino c.name) = atF g (lookI f c.ino c.name) := by
    cases hg : getE (lI (dirN f c.ino).l) c.name with
    | none =>
      have : lookI f c.ino c.name = 0 := by unfold lookI; rw [getI_get, hg]; rfl
      rw [this, no_zero hp, no_zero hpg]
    | some j =>
      have e : lookI f c.ino c.name = j := by unfold lookI; rw [getI_get, hg]; rfl
      by_cases h0 : dirE f c.ino = 0
      · rw [e]; exact h _ (kid_in (.inl rfl) (.inl rfl) h0 hg)
      · unfold dirN at hg
        rw [if_neg h0] at hg
        cases hg
  obtain ⟨b1, b2⟩ := B_eq hat
  have hE : lookE f c.ino c.name = lookE g c.ino c.name := by
    unfold lookE; rw [d1, b1, hI]
  exact ⟨hE, by unfold lookN; rw [hE, b2, hI]⟩
theorem put_upd {f : Fsy} {i : Int} {n m : Nod} (hp : rowsP f) (hn : atF f i = some n) (hm : m.ino = i) : Upd f (putF f m) [(i, some m)] ∧ (putF f m).next = f.next ∧ (putF f m).l.length = f.l.length := by
  have hr := rows_rise hp
  obtain ⟨n1, n2, n3⟩ := rows_at hp hn
  refine ⟨fun j => ?_, put_next (by omega), put_len hr (by rw [hm]; exact (at_BN hn).1)⟩
  rw [at_put hr, hm]; rfl
theorem give_upd {f : Fsy} {dir : Int} {s : Txt} {i : Int} (okf : OkF f) (hp : rowsP f) (hs : s.length ≤ 1000000) (he : giveErr f dir s i = 0) : ∃ d n, atF f dir = some d ∧ atF f i = some n ∧
    Upd f (giveF f dir s i) [(i, some (giveN n)), (dir, some (withL d (entL d.l s i)))] ∧ (giveF f dir s i).next = f.next ∧ (giveF f dir s i).l.length = f.l.length := by
  obtain ⟨d, n, G⟩ := gives_of he
  obtain ⟨n1, n2, n3⟩ := rows_at hp G.node
  have okn := okf.2.2 n (at_mem G.node)
  have hi1 : 1 ≤ i := by have := n1.1; omega
  have hi2 : I64 i := n3 ▸ okn.1
  obtain ⟨e1, e2, e3, e4, e5⟩ := enter_all okf hp G.dir G.kind G.check hs hi1 hi2 G.away G.fewd
  have hne : ¬ i = dir := fun e => by
    have h := G.node
    rw [e, G.dir] at h
    obtain rfl := Option.some.inj h
    exact G.file G.kind
  have hni : atF (enterF f dir s i) i = some n := by rw [e5, if_neg hne]; exact G.node
  have hg : giveF f dir s i = putF (enterF f dir s i) (giveN n) := by
    unfold giveF
    rw [if_pos he, (at_BN G.node).2]
    rfl
  obtain ⟨q1, q2, q3⟩ := put_upd (m := giveN n) e2 hni n3
  rw [hg]
  refine ⟨d, n, G.dir, G.node, fun j => ?_, q2.trans e4, q3.trans e3⟩
  rw [q1 j]
  show (if j = i then _ else atF (enterF f dir s i) j) = if j = i then _ else (if j = dir then _ else atF f j)
  rw [e5]
theorem take_upd {f : Fsy} {dir : Int} {s : Txt} (okf : OkF f) (hp : rowsP f) (he : takeErr f dir s = 0) : ∃ d j n, atF f dir = some d ∧ d.kind = 2 ∧ getE (lI d.l) s = some j ∧ atF f j = some n ∧ lookN f dir s = n ∧
    Upd f (takeF f dir s) [(j, if n.links - 1 < 1 then none else some (awayN n)), (dir, some (withL d (delL d.l s)))] ∧ (takeF f dir s).next = f.next ∧ (takeF f dir s).l.length ≤ f.l.length := by
  have h := he
  unfold takeErr at h
  rw [first2] at h
  split at h
  · rename_i h1
    obtain ⟨d, j, n, a1, a2, a3, a4, a5⟩ := (look_iff hp).1 h1
    have hl := (look_at a1 a2 a3 a4 a5).2
    have hnj := at_ino a5
    obtain ⟨w1, w2, w3, w4, w5⟩ := away_all (s := s) okf hp a1 a2 (n := n) (.inl (by rw [hnj]; exact a5))
    have ht : takeF f dir s = awayF f dir s n := by unfold takeF; rw [if_pos he, hl]
    rw [ht]
    exact ⟨d, j, n, a1, a2, a4, a5, hl, fun x => by rw [w5, hnj]; rfl, w4, w3⟩
  · exact absurd h (by assumption)
def wholeC (c : Cal) : Prop := c.kind = 6 ∨ c.kind = 7 ∨ c.kind = 8 ∨ c.kind = 12 ∨ c.kind = 15
theorem agr_text {f g : Fsy} {c : Cal} {m : Nod} {r : Rep} (hp : rowsP f) (hpg : rowsP g) (h : ∀ i ∈ looksL f c, atF f i = atF g i) (h0 : ofE f c.ino 1 = 0) (hm : m.ino = (findN f c.ino).ino) (h1 : doF f c = (putF f m, r)) (h2 : doF g c = (putF g m, r)) : ∃ u, Agr f g c u := by
  obtain ⟨hn, hk⟩ := of_at h0
  have hi := at_ino hn
  obtain ⟨a1, a2, a3⟩ := put_upd (m := m) hp hn (hm.trans hi)
  obtain ⟨b1, b2, b3⟩ := put_upd (m := m) hpg ((h _ (ino_in f c)).symm.trans hn) (hm.trans hi)
  exact ⟨[(c.ino, some m)], fun p hp => by obtain rfl := List.mem_singleton.1 hp; exact ino_in f c, (by show 1 ≤ 2; omega), by rw [h1]; exact a1, by rw [h2]; exact b1, by rw [h1, h2], by rw [h1]; exact a2, by rw [h2]; exact b2, by rw [h1]; exact Nat.le_of_eq a3⟩
theorem agr_take {f g : Fsy} {c : Cal} {dir : Bool} {odd : Int} (okf : OkF f) (okg : OkF g) (hp : rowsP f) (hpg : rowsP g) (h : ∀ i ∈ looksL f c, atF f i = atF g i) (ho : ¬ odd = 0) (hd : deedF f c = takeO f c dir odd) (hdg : deedF g c = takeO g c dir odd) : ∃ u, Agr f g c u := by
  obtain ⟨l1, l2⟩ := look_agree hp hpg h
  by_cases h0 : lookE f c.ino c.name = 0
  · have h0g : lookE g c.ino c.name = 0 := l1 ▸ h0
    cases hk : ((lookN f c.ino c.name).kind == 2) != dir with
    | true => exact agr_still (tk_2 hd h0 hk ho) (tk_2 hdg h0g (l2 ▸ hk) ho)
    | false =>
      have e1 := tk_3 hd h0 hk
      have e2 := tk_3 hdg h0g (l2 ▸ hk)
      have et : takeErr g c.ino c.name = takeErr f c.ino c.name := by unfold takeErr; rw [l1, l2]
      by_cases he : takeErr f c.ino c.name = 0
      · obtain ⟨d, j, n, a1, a2, a3, a4, a5, a6, a7, a8⟩ := take_upd okf hp he
        obtain ⟨d', j', n', b1, b2, b3, b4, b5, b6, b7, b8⟩ := take_upd okg hpg (et.trans he)
        have hdd : d' = d := by
          have := h _ (ino_in f c)
          rw [a1, b1] at this
          exact (Option.some.inj this).symm
        subst hdd
        have hj : j' = j := by rw [a3] at b3; exact (Option.some.inj b3).symm
        subst hj
        have hnn : n' = n := by rw [← a5, ← b5, l2]
        subst hnn
        obtain ⟨g1, g2⟩ := dir_of a1 a2
        refine ⟨[(j', if n'.links - 1 < 1 then none else some (awayN n')), (c.ino, some (withL d' (delL d'.l c.name)))], fun p hp => ?_, by simp, by rw [e1]; exact a6, by rw [e2]; exact b6, by rw [e1, e2, et], by rw [e1]; exact a7, by rw [e2]; exact b7, by rw [e1]; exact a8⟩
        rcases List.mem_cons.1 hp with rfl | hp
        · exact kid_in (.inl rfl) (.inl rfl) g1 (by rw [g2]; exact a3)
        · obtain rfl := List.mem_singleton.1 hp; exact ino_in f c
      · rw [show takeF f c.ino c.name = f from if_neg he] at e1
        rw [show takeF g c.ino c.name = g from if_neg (by rw [et]; exact he), et] at e2
        exact agr_still e1 e2
  · have h1 := tk_1 hd h0
    have h2 := tk_1 hdg (l1 ▸ h0)
    rw [← l1] at h2
    exact agr_still h1 h2
theorem do_agree {f g : Fsy} {c : Cal} (okf : OkF f) (okg : OkF g) (hp : rowsP f) (hpg : rowsP g) (okc : OkCal c) (hw : ¬ wholeC c) (h : ∀ i ∈ looksL f c, atF f i = atF g i) : ∃ u, Agr f g c u := by
  have hi := h _ (ino_in f c)
  obtain ⟨b1, b2⟩ := B_eq hi
  obtain ⟨d1, d2⟩ := dir_eq hi
  unfold wholeC at hw
  rcases (show c.kind = 1 ∨ c.kind = 2 ∨ c.kind = 3 ∨ c.kind = 4 ∨ c.kind = 5 ∨ c.kind = 9 ∨ c.kind = 10 ∨ c.kind = 11 ∨ c.kind = 13 ∨ c.kind = 14 ∨ (c.kind < 1 ∨ c.kind > 15) from by omega) with hk | hk | hk | hk | hk | hk | hk | hk | hk | hk | hk
  · obtain ⟨l1, l2⟩ := look_agree hp hpg h
    have e2 := look_do (f := g) hk
    rw [← l1, ← l2] at e2
    exact agr_still (look_do hk) e2
  · cases hb : findB f c.ino with
    | false => exact agr_still (stat_no hk hb) (stat_no hk (b1 ▸ hb))
    | true =>
      have e2 := stat_yes (f := g) hk (b1 ▸ hb)
      rw [← b2] at e2
      exact agr_still (stat_yes hk hb) e2
  · have ho := of_eq (k := 1) hi
    by_cases h0 : ofE f c.ino 1 = 0
    · have e2 := read_yes (f := g) hk (ho ▸ h0)
      rw [← b2] at e2
      exact agr_still (read_yes hk h0) e2
    · exact agr_still (read_no hk rfl h0) (read_no hk ho.symm h0)
  · have ho := of_eq (k := 1) hi
    by_cases h0 : ofE f c.ino 1 = 0
    · have e1 := write_yes (f := f) hk h0
      have e2 := write_yes (f := g) hk (ho ▸ h0)
      rw [← b2] at e2
      by_cases he : (writeD (findN f c.ino).text c.at_ c.text).2 = 0
      · exact agr_text (m := withT (findN f c.ino) (writeD (findN f c.ino).text c.at_ c.text).1) hp hpg h h0 rfl (do_yes e1 he) (do_yes e2 he)
      · exact agr_still (r := errR (writeD (findN f c.ino).text c.at_ c.text).2) (do_no e1 he) (do_no e2 he)
    · exact agr_still (write_no hk rfl h0) (write_no hk ho.symm h0)
  · have ho := of_eq (k := 1) hi
    by_cases h0 : ofE f c.ino 1 = 0
    · have e1 := cut_yes (f := f) hk h0
      have e2 := cut_yes (f := g) hk (ho ▸ h0)
      rw [← b2] at e2
      by_cases he : (cutD (findN f c.ino).text c.many).2 = 0
      · exact agr_text (m := withT (findN f c.ino) (cutD (findN f c.ino).text c.many).1) hp hpg h h0 rfl (do_yes e1 he) (do_yes e2 he)
      · exact agr_still (r := errR (cutD (findN f c.ino).text c.many).2) (do_no e1 he) (do_no e2 he)
    · exact agr_still (cut_no hk rfl h0) (cut_no hk ho.symm h0)
  · exact agr_take okf okg hp hpg h (by decide) (deed_9 hk) (deed_9 hk)
  · exact agr_take okf okg hp hpg h (by decide) (deed_10 hk) (deed_10 hk)
  · obtain ⟨t1, t2⟩ := B_eq (h _ (to_in f c))
    have et : giveErr g c.ino c.name c.to = giveErr f c.ino c.name c.to := by unfold giveErr; rw [d1, d2, t1, t2]
    have e1 := lk_do (f := f) hk
    have e2 := lk_do (f := g) hk
    rw [et] at e2
    by_cases he : giveErr f c.ino c.name c.to = 0
    · obtain ⟨d, n, a1, a2, a3, a4, a5⟩ := give_upd okf hp okc.name he
      obtain ⟨d', n', g1, g2, g3, g4, g5⟩ := give_upd okg hpg okc.name (et.trans he)
      have hdd : d' = d := by rw [hi, g1] at a1; exact Option.some.inj a1
      have hnn : n' = n := by rw [h _ (to_in f c), g2] at a2; exact Option.some.inj a2
      subst hdd hnn
      refine ⟨[(c.to, some (giveN n')), (c.ino, some (withL d' (entL d'.l c.name c.to)))], fun p hp => ?_, by simp, by rw [e1]; exact a3, by rw [e2]; exact g3, by rw [e1, e2], by rw [e1]; exact a4, by rw [e2]; exact g4, by rw [e1]; exact Nat.le_of_eq a5⟩
      rcases List.mem_cons.1 hp with rfl | hp
      · exact to_in f c
      · obtain rfl := List.mem_singleton.1 hp; exact ino_in f c
    · rw [show giveF f c.ino c.name c.to = f from if_neg he] at e1
      rw [show giveF g c.ino c.name c.to = g from if_neg (by rw [et]; exact he)] at e2
      exact agr_still e1 e2
  · have ho := of_eq (k := 3) hi
    by_cases h0 : ofE f c.ino 3 = 0
    · have e2 := link_yes (f := g) hk (ho ▸ h0)
      rw [← b2] at e2
      exact agr_still (link_yes hk h0) e2
    · exact agr_still (link_no hk rfl h0) (link_no hk ho.symm h0)
  · have e2 := rdir_do (f := g) hk
    rw [← d1, ← d2] at e2
    exact agr_still (rdir_do hk) e2
  · exact agr_still (none_do hk) (none_do hk)
theorem looks_agree {f g : Fsy} {c : Cal} (h : ∀ i ∈ looksL f c, atF f i = atF g i) : looksU f c = looksU g c := by
  obtain ⟨d1, d2⟩ := dir_eq (h _ (ino_in f c))
  obtain ⟨t1, t2⟩ := dir_eq (h _ (to_in f c))
  unfold looksU
  split
  · rfl
  · refine asc_ext (sortU_asc _) (sortU_asc _) fun x => ?_
    rw [sortU_mem, sortU_mem, looksL_mem, looksL_mem]
    constructor
    · rintro (h | ⟨i, rfl | rfl, h0, h2⟩)
      · exact .inl h
      · exact .inr ⟨_, .inl rfl, d1 ▸ h0, d2 ▸ h2⟩
      · exact .inr ⟨_, .inr rfl, t1 ▸ h0, t2 ▸ h2⟩
    · rintro (h | ⟨i, rfl | rfl, h0, h2⟩)
      · exact .inl h
      · exact .inr ⟨_, .inl rfl, d1 ▸ h0, d2 ▸ h2⟩
      · exact .inr ⟨_, .inr rfl, t1 ▸ h0, t2 ▸ h2⟩
theorem add_upd {f : Fsy} {dir : Int} {s : Txt} {n : Nod} (hp : rowsP f) (he : addErr f dir s n = 0) : ∃ d, AddsP f dir s n d ∧ Upd f (addF f dir s (addN f n)) [(f.next, some (withL (addN f n) [])), (dir, some (withL d (entL d.l s f.next)))] ∧ (addF f dir s (addN f n)).next = f.next + 1 := by
  obtain ⟨d, A⟩ := adds_of he
  obtain ⟨d1, d2, d3⟩ := rows_at hp A.dir
  have hrow := (dir_row d1 A.kind).2
  have hn1 : 1 ≤ f.next := by have := d1.1; omega
  have he0 := entE_cases (n := f.next) A.check hn1 A.away A.fewd
  obtain ⟨s1, s2, s3, s4⟩ := setL_rows hp A.dir A.kind (ent_row hrow A.check hn1 A.away A.fewd)
  have hg : addF f dir s (addN f n) = putF (setL f d (entL d.l s f.next)) (withL (addN f n) []) := by
    unfold addF
    rw [show (addN f n).ino = f.next from rfl, enter_set A.dir]
  refine ⟨d, A, fun j => ?_, ?_⟩
  · rw [hg, at_put (rows_rise s1), s4]
    rfl
  · rw [hg, put_next2]
    · rw [s3]
    · rw [s3]; rfl
end Go.Proofs.YtkhnialfkndiiaaGreat

set_option linter.unusedVariables false
set_option linter.unusedSimpArgs false
namespace Go.Proofs.YtkhnialfkndiiaaGreat
open Go Go.RowKit Copyhold
theorem flat_int : ∀ (l : List Int), (l.map intA).flatten = l.map aI
  | [] => rfl
  | x :: r => by
    rw [List.map_cons, List.flatten_cons, flat_int r]; rfl
theorem row_box {D : Nat → Prop} {w : World} {V : Value} {e : TypeId} {l : List Int} (h : BoxR D w (.row V e 1 (l.map intA))) (h1 : 1 ≤ l.length) :
    ∃ g cap cur, V = .slice (some ⟨g, 0, none⟩) l.length cap ∧ w.heap[g]? = some (.cells cur e (0, 0)) ∧ l.length ≤ cap ∧ cap ≤ maxLen ∧ cur.size = cap * 1 ∧ cur.toList.take l.length = l.map (Value.int .i64) := by
  obtain ⟨_, us, h2, _, h4⟩ := h
  have hn : us.length = l.length := by have := h2.1; rw [List.length_map] at this; omega
  have hus : us = l.map (Value.int .i64) := by
    apply List.ext_getElem?
    intro j
    by_cases hj : j < l.length
    · have hu : us[j]? = some us[j] := List.getElem?_eq_getElem (by omega)
      have := h4 j (aI l[j]) us[j] (by rw [flat_int, List.getElem?_map, List.getElem?_eq_getElem hj]; rfl) hu
      rw [hu, List.getElem?_map, List.getElem?_eq_getElem hj]
      generalize us[j] = q at this
      cases this
      rfl
    · rw [List.getElem?_eq_none (by omega), List.getElem?_eq_none (by rw [List.length_map]; omega)]
  rw [List.length_map] at h2
  rcases h2.2 with ⟨_, h0⟩ | ⟨g, cap, cur, hv, _, hb, a1, a2, a3, a4⟩
  · omega
  · exact ⟨g, cap, cur, hv, hb, a1, a2, a3, by rw [Nat.mul_one] at a4; rw [a4, hus]⟩
theorem box_row {D : Nat → Prop} {w : World} {V : Value} {e : TypeId} {l : List Int} (h : w.ownsRow 0 e 1 V l.length (l.map (Value.int .i64))) : BoxR D w (.row V e 1 (l.map intA)) := by
  refine ⟨fun x hx => ?_, l.map (Value.int .i64), by rw [List.length_map]; exact h, fun u hu => ?_, fun j a u ha hu => ?_⟩
  · obtain ⟨y, _, rfl⟩ := List.mem_map.1 hx; rfl
  · obtain ⟨y, _, rfl⟩ := List.mem_map.1 hu; rfl
  · rw [flat_int, List.getElem?_map] at ha
    rw [List.getElem?_map] at hu
    cases hl : l[j]? with
    | none => rw [hl] at ha; cases ha
    | some x =>
      rw [hl] at ha hu
      obtain rfl := Option.some.inj ha
      obtain rfl := Option.some.inj hu
      exact .val _
theorem sortG_spec (l : List Int) (V : Value) (h1 : 1 ≤ l.length) (hl : l.length ≤ 1000000) : LSpec2 Tryz.prog 101 [.rw 30 V l.length] (.row V 3 1 (l.map intA)) (.tup []) (.row V 3 1 ((l.mergeSort fun x y => decide (x ≤ y)).map intA)) := by
  intro D w vs hD hvs hy hyD
  obtain ⟨g, cap, cur, rfl, hb, hc1, hc2, hc3, ht⟩ := row_box hy h1
  obtain ⟨u, rfl, hu⟩ := RaAll.one hvs
  have hu' : u = .slice (some ⟨g, 0, none⟩) l.length cap := by cases hu; rfl
  subst hu'
  have hg : g < w.heap.size := (Array.getElem?_eq_some_iff.1 hb).1
  refine (Tryz.slices_Sort_int g 0 cap l w (holds_of_blockI hb ht) hg (by omega)).mono ?_
  rintro e w' ⟨rfl, n, os, rfl⟩
  have hgb := Go.grownBy_sortedI (w := w) (g := g) (n := n) (os := os) (l.mergeSort fun x y => decide (x ≤ y)).toArray
  have hlen : (l.mergeSort fun x y => decide (x ≤ y)).length = l.length := List.length_mergeSort l
  have how := Go.ownsRow_sortedI (n := n) (os := os) (ts := l.mergeSort fun x y => decide (x ≤ y)) hlen (Nat.zero_le g) hb hc1 hc2 hc3
  refine ⟨_, D, rfl, ⟨hgb.os, hgb.tape, hgb.output, hgb.size, fun k hk => absurd hk (by omega)⟩, fun k hk hl => hgb.block k hl (fun e => hk e.symm), fun _ h => h, fun b hb => ⟨Nat.lt_of_lt_of_le (hD b hb) hgb.size, .inl hb⟩, fun g' hg' => ⟨.inl hg', hyD g' hg'⟩, box_row (by rw [hlen]; exact how), .tup [] #[] rfl (by simp)⟩
theorem compactG_spec (l : List Int) (V : Value) (h1 : 1 ≤ l.length) (hl : l.length ≤ 1000000) : LSpec Tryz.prog 102 [.rw 30 V l.length] (.row V 3 1 (l.map intA)) (.sl 1 false ((Lib.compact l).map intA)) := by
  intro D w vs hD hvs hy hyD
  obtain ⟨g, cap, cur, rfl, hb, hc1, hc2, hc3, ht⟩ := row_box hy h1
  obtain ⟨u, rfl, hu⟩ := RaAll.one hvs
  have hu' : u = .slice (some ⟨g, 0, none⟩) l.length cap := by cases hu; rfl
  subst hu'
  have hg : g < w.heap.size := (Array.getElem?_eq_some_iff.1 hb).1
  refine (Tryz.slices_Compact_int g 0 cap l w (holds_of_blockI hb ht) (by omega) hc1).mono ?_
  rintro e w' ⟨rfl, q, hw'⟩
  have hcl := compact_len l
  have hlen : (Lib.compact l ++ List.replicate (l.length - (Lib.compact l).length) 0).length = l.length := by rw [List.length_append, List.length_replicate]; omega
  have hgr : ∀ W : World, Go.Sort.grow W #[] = W := fun W => by simp [Go.Sort.grow]
  rw [← hgr (Go.Sort.putRow _ _ _ _ _)] at hw'
  have hgb := Go.grownBy_sortedI (w := w) (g := g) (n := q) (os := #[]) (Lib.compact l ++ List.replicate (l.length - (Lib.compact l).length) 0).toArray
  have how := Go.ownsRow_sortedI (n := q) (os := #[]) (ts := Lib.compact l ++ List.replicate (l.length - (Lib.compact l).length) 0) hlen (Nat.zero_le g) hb hc1 hc2 hc3
  rw [← hw'] at hgb how
  refine ⟨_, fun b => D b ∨ b = g, rfl, ⟨hgb.os, hgb.tape, hgb.output, hgb.size, fun k hk => absurd hk (by omega)⟩, fun k hk hl => hgb.block k hl (fun e => hk e.symm), fun _ h => .inl h, fun b hb => ?_, ?_⟩
  · rcases hb with hb | rfl
    · exact ⟨Nat.lt_of_lt_of_le (hD b hb) hgb.size, .inl hb⟩
    · exact ⟨Nat.lt_of_lt_of_le hg hgb.size, .inr (.inl rfl)⟩
  · have h := Ra.sl (D := fun b => D b ∨ b = g) (w := w') 1 false ((Lib.compact l).map intA) (some ⟨g, 0, none⟩) cap g 0 (fun i _ => .int .i64 ((Lib.compact l).getD i 0)) (by rw [List.length_map]; omega) (fun h => by cases h) (fun _ => ⟨rfl, .inr rfl, Nat.lt_of_lt_of_le hg hgb.size⟩)
      (fun i e he => by
        rw [List.getElem?_map] at he
        cases hc : (Lib.compact l)[i]? with
        | none => rw [hc] at he; cases he
        | some x => rw [hc] at he; obtain rfl := Option.some.inj he; rfl)
      (fun i e j x he hx => by
        rw [List.getElem?_map] at he
        cases hc : (Lib.compact l)[i]? with
        | none => rw [hc] at he; cases he
        | some y =>
          rw [hc] at he
          obtain rfl := Option.some.inj he
          have hj : j = 0 := by have := (List.getElem?_eq_some_iff.1 hx).1; have e : (intA y).length = 1 := rfl; omega
          subst hj
          have hi := (List.getElem?_eq_some_iff.1 hc).1
          refine ⟨?_, rfl⟩
          rw [Nat.mul_one, Nat.add_zero, Nat.zero_add, how.cellAt i (by omega), List.getElem?_map, List.getElem?_append_left hi, hc]
          simp [List.getD, hc])
      (fun i e j x he hx => by
        rw [List.getElem?_map] at he
        cases hc : (Lib.compact l)[i]? with
        | none => rw [hc] at he; cases he
        | some y =>
          rw [hc] at he
          obtain rfl := Option.some.inj he
          have hj : j = 0 := by have := (List.getElem?_eq_some_iff.1 hx).1; have e : (intA y).length = 1 := rfl; omega
          subst hj
          obtain rfl := Option.some.inj hx
          have e : (Lib.compact l).getD i 0 = y := by simp [List.getD, hc]
          show Ra _ _ (aI y) (.int .i64 ((Lib.compact l).getD i 0))
          rw [e]
          exact .val _)
    rw [List.length_map] at h
    exact h
theorem cloneG_spec (l : List Int) (h1 : 1 ≤ l.length) (hl : l.length ≤ 100000) : RowSpecD Tryz.prog 100 [.sl 1 false (l.map intA)] 3 1 (l.map intA) := by
  exact specRow_vc (F := Tryz.f100) 400 (
 .r 1 <| .r 1 <| .isNil (l.map intA) fun b1 hnb1 =>
 .br 4 (b1) (fun q1 => have p1 := booT q1; .r 1 <| .rowNil 199 2 3 1 <| .finRow (x := []) (r := l.map intA) [] trivial 199 3 1 (0) (.slice none 0 0) (by first | (simp; done) | (exfalso; have h0 : l = [] := (by simpa using hnb1 (by assumption)); rw [h0] at h1; simp at h1)))
 <| fun q1 => have p1 := booF q1; .lit0 fun V1 => .r 1 <| .app 8 V1 ([] : List (List AV)) (l.map intA) (by simp <;> omega) (by simp <;> omega) fun V2 =>
 .r 1 <| .finRow (x := ([] : List (List AV)) ++ (l.map intA)) (r := l.map intA) [] trivial 5 3 1 (([] : List (List AV)).length + (l.map intA).length) V2 (by first | (simp; done) | (exfalso; have h0 : l = [] := (by simpa using hnb1 (by assumption)); rw [h0] at h1; simp at h1))) Tryz.func100 rfl (by kernel_rfl) (by kernel_rfl)
theorem gatherG_spec (l : List Int) (h1 : 1 ≤ l.length) (hl : l.length ≤ 100000) : FSpec Tryz.prog 52 [.sl 1 false (l.map intA)] (.sl 1 false ((sortU l).map intA)) := by
  exact spec_vc (F := Tryz.f52) 400 (
 .r 1 <| .r 1 <| .op (crR Tryz.prog 30) (100, [.sl 1 false (l.map intA)], 5) (fun (V : Value) σ => (σ.put (some 5) (.rw 30 V (l.map intA).length)).setB 30 (.row V 3 1 (l.map intA))) (rule_cr (args' := [.sl 1 false (l.map intA)]) sr1 (cloneG_spec l h1 hl)) fun V1 =>
 .r 1 <| .lent 1 <| .r 1 <| .lop (lcR Tryz.prog 30) ((101, [.rw 30 V1 ((l.map intA).length)], some 7), .row V1 3 1 (l.map intA)) (fun (_ : Unit) σ => (σ.put (some 7) (.tup [])).setB 30 (.row V1 3 1 ((l.mergeSort fun x y => decide (x ≤ y)).map intA))) (rule_lent2 (args' := [.rw 30 V1 l.length]) ⟨Sub.of_eq (congrArg (AV.rw 30 V1) (by simp)), trivial⟩ (sortG_spec l V1 h1 (by omega))) fun _ =>
 .lent 1 <| .r 1 <| .lop (lcR Tryz.prog 30) ((102, [.rw 30 V1 ((l.map intA).length)], some 9), .row V1 3 1 ((l.mergeSort fun x y => decide (x ≤ y)).map intA)) (fun (_ : Unit) σ => (σ.put (some 9) (.sl 1 false ((sortU l).map intA))).setB 30 gone) (rule_lent (args' := [.rw 30 V1 ((l.mergeSort fun x y => decide (x ≤ y)).length)]) ⟨Sub.of_eq (congrArg (AV.rw 30 V1) (by simp [List.length_mergeSort])), trivial⟩ (compactG_spec (l.mergeSort fun x y => decide (x ≤ y)) V1 (by rw [List.length_mergeSort]; exact h1) (by rw [List.length_mergeSort]; omega))) fun _ =>
 .r 1 <| .fin (x := .sl 1 false ((sortU l).map intA)) (r := .sl 1 false ((sortU l).map intA)) [] trivial (by exact Sub.refl _)) Tryz.func52 rfl (by kernel_rfl) (by kernel_rfl)
theorem looksG_spec (f : Fsy) (c : Cal) (okf : OkF f) (okc : OkCal c) (hp : rowsP f) : FSpec Tryz.prog 19 [.agg [.sl 5 false (f.l.map nodA), aI f.next], .agg [aI c.kind, aI c.ino, aI c.to, aI c.at_, aI c.many, aS c.name, aS c.name2, aS c.text]] (.sl 1 false ((looksU f c).map intA)) := by
  have hl := hp.1
  have hr := rows_rise hp
  have hcn := okc.name
  have hcn2 := okc.name2
  have hct := okc.text
  exact spec_vc (F := Tryz.f19) 400 (
 .new fun b1 => .new fun b2 => .r 1 <| .run 3 [b2 = b2] rt1 <|
 .br 16 (c.kind == 15) (fun q1 => have p1 := beqT q1; .r 2 <| .fin (x := .sl 1 true ([[aI 0]])) (r := .sl 1 false ((looksU f c).map intA)) [] trivial (by
    rw [show looksU f c = _ from if_pos (by omega)]
    exact Sub.loose _ _ _))
 <| fun q1 => have p1 := beqF q1; .run 4 [b2 = b2, b2 = b2] rt2 <|
 .litN fun V1 => .r 1 <| .run 7 [b2 = b2, b2 = b2] rt2 <|
 let L1 : Lp (Nat × Value) := ⟨fun a1 => ⟨[(2, .ptr 2 b1 0), (3, .ptr 3 b2 0), (29, aI (a1.1 : Int)), (27, .sl 1 false ([c.ino, c.to].map intA)), (28, aI 2), (5, .rw 22 a1.2 ((lk0 f c ([c.ino, c.to].take a1.1)).length))], [(2, .box b1 24 [.sl 5 false (f.l.map nodA), aI f.next]), (3, .box b2 26 [aI c.kind, aI c.ino, aI c.to, aI c.at_, aI c.many, aS c.name, aS c.name2, aS c.text]), (22, .row a1.2 3 1 ((lk0 f c ([c.ino, c.to].take a1.1)).map intA))]⟩, fun a1 => 2 - a1.1, fun a1 => a1.1 ≤ 2⟩
 .loop L1 (0, V1) (show 0 ≤ 2 from (by show 0 ≤ 2; omega)) ⟨[(2, .ptr 2 b1 0), (3, .ptr 3 b2 0), (29, aI 0), (27, .sl 1 true ([[aI c.ino], [aI c.to]])), (28, aI (([[aI c.ino], [aI c.to]]).length : Int)), (5, .rw 22 V1 2)], [(2, .box b1 24 [.sl 5 false (f.l.map nodA), aI f.next]), (3, .box b2 26 [aI c.kind, aI c.ino, aI c.to, aI c.at_, aI c.many, aS c.name, aS c.name2, aS c.text]), (22, .row V1 3 1 ([[aI c.ino], [aI c.to]]))]⟩ ⟨Sub.refl _, Sub.refl _, Sub.of_eq (congrArg aI (by first | omega | rfl)), (first_lit2 _ _), Sub.refl _, Sub.refl _, trivial⟩ ⟨⟨_, rfl, SubB.refl _⟩, ⟨_, rfl, SubB.refl _⟩, ⟨_, rfl, SubB.of_eq rfl⟩, trivial⟩ fun a1 ha1 =>
 (fun (k : Nat) (V : Value) (hH1 : k ≤ 2) => have hk0 := lk0_len f c ([c.ino, c.to].take k) [c.ino, c.to]; have hk1 : (lk0 f c ([c.ino, c.to].take k)).length ≤ 6 := (by have h2 : ([c.ino, c.to].take k).length ≤ 2 := (by rw [List.length_take]; simp only [List.length_cons, List.length_nil]; omega); have h3 := hk0.2; unfold lk0; simp only [List.length_cons, List.length_nil] at h3; omega); .r 1 <| .br 30 (decide ((k : Int) < 2)) (fun q2 => have p2 := decT q2; .idxM ([c.ino, c.to]) intA k (m := (k : Int)) rfl (by simp only [List.length_cons, List.length_nil]; omega) fun x1 hx1 =>
 .r 2 <| .run 2 [b1 = b1] rt1 <|
 .call (dir_spec f x1 hp) <|
 .r 3 <| .new fun b3 => .run 2 [b3 = b3] rt1 <|
 .r 2 <| .br 40 ((dirE f x1) != 0) (fun q3 => have p3 := bneT q3; .run 2 [rng .i64 ((k : Int) + 1)] ⟨rng64 (by omega) (by omega), trivial⟩ <|
 .back L1 (k, V) ((k + 1), V) (show (k + 1) ≤ 2 from (by show _ ≤ 2; omega)) (show 2 - (k + 1) < 2 - k from (by omega)) ⟨[(2, .ptr 2 b1 0), (3, .ptr 3 b2 0), (29, aI ((k : Int) + 1)), (27, .sl 1 false ([c.ino, c.to].map intA)), (28, aI 2), (5, .rw 22 V ((lk0 f c ([c.ino, c.to].take k)).length))], [(2, .box b1 24 [.sl 5 false (f.l.map nodA), aI f.next]), (3, .box b2 26 [aI c.kind, aI c.ino, aI c.to, aI c.at_, aI c.many, aS c.name, aS c.name2, aS c.text]), (22, .row V 3 1 ((lk0 f c ([c.ino, c.to].take k)).map intA))]⟩ ⟨Sub.refl _, Sub.refl _, Sub.of_eq (congrArg aI (by first | omega | rfl)), Sub.refl _, Sub.refl _, Sub.of_eq (congrArg (AV.rw 22 V) (by rw [show lk0 f c ([c.ino, c.to].take (k + 1)) = lk0 f c ([c.ino, c.to].take k) from by rw [lk0_step hx1]; unfold lk1; rw [if_neg (bneT q3)]])), trivial⟩ ⟨⟨_, rfl, SubB.refl _⟩, ⟨_, rfl, SubB.refl _⟩, ⟨_, rfl, SubB.of_eq (by rw [show lk0 f c ([c.ino, c.to].take (k + 1)) = lk0 f c ([c.ino, c.to].take k) from by rw [lk0_step hx1]; unfold lk1; rw [if_neg (bneT q3)]])⟩, trivial⟩)
 <| fun q3 => have p3 := bneF q3; .run 7 [b2 = b2, b2 = b2] rt2 <|
 let L2 : Lp (Nat × Value) := ⟨fun a2 => ⟨[(2, .ptr 2 b1 0), (3, .ptr 3 b2 0), (29, aI (k : Int)), (27, .sl 1 false ([c.ino, c.to].map intA)), (28, aI 2), (8, .ptr 8 b3 0), (47, aI (a2.1 : Int)), (45, .sl 1 false ([c.name, c.name2].map txA)), (46, aI 2), (5, .rw 22 a2.2 ((lk2 (dirN f x1).l ([c.name, c.name2].take a2.1) (lk0 f c ([c.ino, c.to].take k))).length))], [(2, .box b1 24 [.sl 5 false (f.l.map nodA), aI f.next]), (3, .box b2 26 [aI c.kind, aI c.ino, aI c.to, aI c.at_, aI c.many, aS c.name, aS c.name2, aS c.text]), (8, .box b3 59 [aI ((dirN f x1).ino), aI ((dirN f x1).kind), aI ((dirN f x1).links), aS ((dirN f x1).text), .sl 2 false ((dirN f x1).l.map entA)]), (22, .row a2.2 3 1 ((lk2 (dirN f x1).l ([c.name, c.name2].take a2.1) (lk0 f c ([c.ino, c.to].take k))).map intA))]⟩, fun a2 => 2 - a2.1, fun a2 => a2.1 ≤ 2⟩
 .loop L2 (0, V) (show 0 ≤ 2 from (by show 0 ≤ 2; omega)) ⟨[(2, .ptr 2 b1 0), (3, .ptr 3 b2 0), (29, aI (k : Int)), (27, .sl 1 false ([c.ino, c.to].map intA)), (28, aI 2), (8, .ptr 8 b3 0), (47, aI 0), (45, .sl 1 true ([[aS c.name], [aS c.name2]])), (46, aI (([[aS c.name], [aS c.name2]]).length : Int)), (5, .rw 22 V ((lk0 f c ([c.ino, c.to].take k)).length))], [(2, .box b1 24 [.sl 5 false (f.l.map nodA), aI f.next]), (3, .box b2 26 [aI c.kind, aI c.ino, aI c.to, aI c.at_, aI c.many, aS c.name, aS c.name2, aS c.text]), (8, .box b3 59 [aI ((dirN f x1).ino), aI ((dirN f x1).kind), aI ((dirN f x1).links), aS ((dirN f x1).text), .sl 2 false ((dirN f x1).l.map entA)]), (22, .row V 3 1 ((lk0 f c ([c.ino, c.to].take k)).map intA))]⟩ ⟨Sub.refl _, Sub.refl _, Sub.refl _, Sub.refl _, Sub.refl _, Sub.refl _, Sub.of_eq (congrArg aI (by first | omega | rfl)), (first_litT _ _), Sub.refl _, Sub.refl _, trivial⟩ ⟨⟨_, rfl, SubB.refl _⟩, ⟨_, rfl, SubB.refl _⟩, ⟨_, rfl, SubB.refl _⟩, ⟨_, rfl, SubB.of_eq rfl⟩, trivial⟩ fun a2 ha2 =>
 (fun (j : Nat) (Y : Value) (hH2 : j ≤ 2) => have hj0 := (lk2_len (dirN f x1).l ([c.name, c.name2].take j) (lk0 f c ([c.ino, c.to].take k))).2; have hj1 : ([c.name, c.name2].take j).length ≤ 2 := (by rw [List.length_take]; simp only [List.length_cons, List.length_nil]; omega); .r 1 <| .br 48 (decide ((j : Int) < 2)) (fun q4 => have p4 := decT q4; .idxM ([c.name, c.name2]) txA j (m := (j : Int)) rfl (by simp only [List.length_cons, List.length_nil]; omega) fun x2 hx2 =>
 have nlx2 : x2.length ≤ 1000000 := (by have h9 := List.mem_of_getElem? hx2; simp only [List.mem_cons, List.not_mem_nil, or_false] at h9; rcases h9 with e | e <;> rw [e] <;> assumption); .r 2 <| .run 3 [b3 = b3] rt1 <|
 .call (nfind_spec ((dirN f x1).l) x2 (by have := (dir_srt hp x1).2; omega) (dir_srt hp x1).1) <|
 .r 5 <| .r 1 <| .br 58 (isB ((dirN f x1).l) x2) (fun q5 => have p5 := booT q5; .r 3 <| .app 8 Y ((lk2 (dirN f x1).l ([c.name, c.name2].take j) (lk0 f c ([c.ino, c.to].take k))).map intA) ([[aI (getI ((dirN f x1).l) x2)]]) (by simp only [List.length_map, List.length_cons, List.length_nil]; omega) (by simp only [List.length_map, List.length_cons, List.length_nil]; omega) fun V2 =>
 .r 1 <| .run 2 [rng .i64 ((j : Int) + 1)] ⟨rng64 (by omega) (by omega), trivial⟩ <|
 .back L2 (j, Y) ((j + 1), V2) (show (j + 1) ≤ 2 from (by show _ ≤ 2; omega)) (show 2 - (j + 1) < 2 - j from (by omega)) ⟨[(2, .ptr 2 b1 0), (3, .ptr 3 b2 0), (29, aI (k : Int)), (27, .sl 1 false ([c.ino, c.to].map intA)), (28, aI 2), (8, .ptr 8 b3 0), (47, aI ((j : Int) + 1)), (45, .sl 1 false ([c.name, c.name2].map txA)), (46, aI 2), (5, .rw 22 V2 (((lk2 (dirN f x1).l ([c.name, c.name2].take j) (lk0 f c ([c.ino, c.to].take k))).map intA).length + ([[aI (getI ((dirN f x1).l) x2)]] : List (List AV)).length))], [(2, .box b1 24 [.sl 5 false (f.l.map nodA), aI f.next]), (3, .box b2 26 [aI c.kind, aI c.ino, aI c.to, aI c.at_, aI c.many, aS c.name, aS c.name2, aS c.text]), (8, .box b3 59 [aI ((dirN f x1).ino), aI ((dirN f x1).kind), aI ((dirN f x1).links), aS ((dirN f x1).text), .sl 2 false ((dirN f x1).l.map entA)]), (22, .row V2 3 1 (((lk2 (dirN f x1).l ([c.name, c.name2].take j) (lk0 f c ([c.ino, c.to].take k))).map intA) ++ ([[aI (getI ((dirN f x1).l) x2)]])))]⟩ ⟨Sub.refl _, Sub.refl _, Sub.refl _, Sub.refl _, Sub.refl _, Sub.refl _, Sub.of_eq (congrArg aI (by first | omega | rfl)), Sub.refl _, Sub.refl _, Sub.of_eq (congrArg (AV.rw 22 V2) (by rw [lk2_yes hx2 q5]; simp)), trivial⟩ ⟨⟨_, rfl, SubB.refl _⟩, ⟨_, rfl, SubB.refl _⟩, ⟨_, rfl, SubB.refl _⟩, ⟨_, rfl, SubB.of_eq (by rw [lk2_yes hx2 q5]; simp [intA])⟩, trivial⟩)
 <| fun q5 => have p5 := booF q5; .run 2 [rng .i64 ((j : Int) + 1)] ⟨rng64 (by omega) (by omega), trivial⟩ <|
 .back L2 (j, Y) ((j + 1), Y) (show (j + 1) ≤ 2 from (by show _ ≤ 2; omega)) (show 2 - (j + 1) < 2 - j from (by omega)) ⟨[(2, .ptr 2 b1 0), (3, .ptr 3 b2 0), (29, aI (k : Int)), (27, .sl 1 false ([c.ino, c.to].map intA)), (28, aI 2), (8, .ptr 8 b3 0), (47, aI ((j : Int) + 1)), (45, .sl 1 false ([c.name, c.name2].map txA)), (46, aI 2), (5, .rw 22 Y ((lk2 (dirN f x1).l ([c.name, c.name2].take j) (lk0 f c ([c.ino, c.to].take k))).length))], [(2, .box b1 24 [.sl 5 false (f.l.map nodA), aI f.next]), (3, .box b2 26 [aI c.kind, aI c.ino, aI c.to, aI c.at_, aI c.many, aS c.name, aS c.name2, aS c.text]), (8, .box b3 59 [aI ((dirN f x1).ino), aI ((dirN f x1).kind), aI ((dirN f x1).links), aS ((dirN f x1).text), .sl 2 false ((dirN f x1).l.map entA)]), (22, .row Y 3 1 ((lk2 (dirN f x1).l ([c.name, c.name2].take j) (lk0 f c ([c.ino, c.to].take k))).map intA))]⟩ ⟨Sub.refl _, Sub.refl _, Sub.refl _, Sub.refl _, Sub.refl _, Sub.refl _, Sub.of_eq (congrArg aI (by first | omega | rfl)), Sub.refl _, Sub.refl _, Sub.of_eq (congrArg (AV.rw 22 Y) (by rw [lk2_no hx2 q5])), trivial⟩ ⟨⟨_, rfl, SubB.refl _⟩, ⟨_, rfl, SubB.refl _⟩, ⟨_, rfl, SubB.refl _⟩, ⟨_, rfl, SubB.of_eq (by rw [lk2_no hx2 q5])⟩, trivial⟩)
 <| fun q4 => have p4 := decF q4; .run 2 [rng .i64 ((k : Int) + 1)] ⟨rng64 (by omega) (by omega), trivial⟩ <|
 .back L1 (k, V) ((k + 1), Y) (show (k + 1) ≤ 2 from (by show _ ≤ 2; omega)) (show 2 - (k + 1) < 2 - k from (by omega)) ⟨[(2, .ptr 2 b1 0), (3, .ptr 3 b2 0), (29, aI ((k : Int) + 1)), (27, .sl 1 false ([c.ino, c.to].map intA)), (28, aI 2), (5, .rw 22 Y ((lk2 (dirN f x1).l ([c.name, c.name2].take j) (lk0 f c ([c.ino, c.to].take k))).length))], [(2, .box b1 24 [.sl 5 false (f.l.map nodA), aI f.next]), (3, .box b2 26 [aI c.kind, aI c.ino, aI c.to, aI c.at_, aI c.many, aS c.name, aS c.name2, aS c.text]), (22, .row Y 3 1 ((lk2 (dirN f x1).l ([c.name, c.name2].take j) (lk0 f c ([c.ino, c.to].take k))).map intA))]⟩ ⟨Sub.refl _, Sub.refl _, Sub.of_eq (congrArg aI (by first | omega | rfl)), Sub.refl _, Sub.refl _, Sub.of_eq (congrArg (AV.rw 22 Y) (by rw [show lk0 f c ([c.ino, c.to].take (k + 1)) = lk2 (dirN f x1).l ([c.name, c.name2].take j) (lk0 f c ([c.ino, c.to].take k)) from by rw [lk0_step hx1]; unfold lk1; rw [if_pos (bneF q3), show j = 2 from by omega]; rfl])), trivial⟩ ⟨⟨_, rfl, SubB.refl _⟩, ⟨_, rfl, SubB.refl _⟩, ⟨_, rfl, SubB.of_eq (by rw [show lk0 f c ([c.ino, c.to].take (k + 1)) = lk2 (dirN f x1).l ([c.name, c.name2].take j) (lk0 f c ([c.ino, c.to].take k)) from by rw [lk0_step hx1]; unfold lk1; rw [if_pos (bneF q3), show j = 2 from by omega]; rfl])⟩, trivial⟩) a2.1 a2.2 ha2)
 <| fun q2 => have p2 := decF q2; .frz 22 [5, 30] [] [V = V, (lk0 f c ([c.ino, c.to].take k)).length = ((lk0 f c ([c.ino, c.to].take k)).map intA).length] ⟨rfl, (by first | rfl | (simp; done) | (simp; omega)), trivial⟩ <|
 .r 1 <| .callS (args0 := [.sl 1 false ((lk0 f c ([c.ino, c.to].take k)).map intA)]) (args := [.sl 1 false ((looksL f c).map intA)]) ⟨Sub.of_eq (congrArg (AV.sl 1 false) (by rw [show k = 2 from by omega]; rfl)), trivial⟩ (gatherG_spec (looksL f c) (by have := looks_len f c; omega) (by have := looks_len f c; omega)) <|
 .r 1 <| .fin (x := .sl 1 false ((sortU (looksL f c)).map intA)) (r := .sl 1 false ((looksU f c).map intA)) [] trivial (by
    rw [show looksU f c = _ from if_neg (by omega)]
    exact Sub.refl _)) a1.1 a1.2 ha1) Tryz.func19 rfl (by kernel_rfl) (by kernel_rfl)
structure Chg where
  ino : Int
  gone : Bool
  n : Nod
  deriving DecidableEq
structure ApOk (c : Chg) : Prop where
  no : c.n.ino < 1152921504606846977
  node : OkN c.n
end Go.Proofs.YtkhnialfkndiiaaGreat
