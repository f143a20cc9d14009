/- Right file systems as trees: the mathematics. name.Leave, dirs.leave, away, Take. dirs.Take. dirs.Give. What is added, or given, is found and taken away again: the mathematics. The document's example of directories. The law DirsFinds over data. The law DirsBack over data. What is given is found and taken away again: the mathematics; the law DirsGives over data. What ref08 calls right is a tree. dirs.within, over. -/
import Derived.Test.YtkepkbgebickiaaMrgO
import Derived.Test.YtkepkbgebickiaaMrgS
set_option linter.unusedVariables false
set_option linter.unusedSimpArgs false
namespace Go.Proofs.Ytkepkbgebickiaa
open Go Go.RowKit Copyhold
def namK (z : Int) (n : Nod) : Nat := if n.kind = 2 then cntE z n else 0
def nam (f : Fsy) (z : Int) : Nat := (f.l.map (namK z)).sum
theorem cntI_ok : ∀ {L : List (Int × Nat)} (y : Int), (∀ p ∈ L, 1 ≤ p.2) → ∀ p ∈ cntI L y, 1 ≤ p.2
  | [], y, _, p, hp => by obtain rfl := List.mem_singleton.1 hp; exact Nat.le_refl _
  | q :: r, y, h, p, hp => by
    unfold cntI at hp
    split at hp
    · rcases List.mem_cons.1 hp with rfl | hp
      · show 1 ≤ q.2 + 1; omega
      · exact h p (by simp [hp])
    · rcases List.mem_cons.1 hp with rfl | hp
      · exact h p (by simp)
      · exact cntI_ok y (fun p hp => h p (by simp [hp])) p hp
theorem cntI_dst : ∀ {L : List (Int × Nat)} (y : Int), (L.map (·.1)).Nodup → ((cntI L y).map (·.1)).Nodup ∧ ∀ z, z ∈ (cntI L y).map (·.1) → z = y ∨ z ∈ L.map (·.1)
  | [], y, _ => ⟨by simp [cntI], fun z hz => .inl (by simpa [cntI] using hz)⟩
  | q :: r, y, h => by
    unfold cntI
    split
    · exact ⟨h, fun z hz => .inr hz⟩
    · rename_i hne
      obtain ⟨h1, h2⟩ := List.nodup_cons.1 h
      obtain ⟨g1, g2⟩ := cntI_dst y h2
      refine ⟨List.nodup_cons.2 ⟨fun hm => ?_, g1⟩, fun z hz => ?_⟩
      · rcases g2 _ hm with e | e
        · exact hne e
        · exact h1 e
      · rcases List.mem_cons.1 hz with e | hz
        · exact .inr (by simp [e])
        · rcases g2 z hz with e | e
          · exact .inl e
          · exact .inr (by simp only [List.map_cons]; exact List.mem_cons_of_mem _ e)
def OkCnt (L : List (Int × Nat)) : Prop := (∀ p ∈ L, 1 ≤ p.2) ∧ (L.map (·.1)).Nodup
theorem OkCnt.step {L : List (Int × Nat)} (h : OkCnt L) (y : Int) : OkCnt (cntI L y) := ⟨cntI_ok y h.1, (cntI_dst y h.2).1⟩
theorem sum_pos {α : Type} {g : α → Nat} : ∀ {l : List α} {x : α}, x ∈ l → g x ≤ (l.map g).sum
  | y :: r, x, h => by
    have hs : ((y :: r).map g).sum = g y + (r.map g).sum := by simp
    rw [hs]
    rcases List.mem_cons.1 h with e | h
    · rw [e]; omega
    · have := sum_pos (g := g) h; omega
theorem sum_two {α : Type} {g : α → Nat} : ∀ {l : List α} {x y : α}, x ∈ l → y ∈ l → x ≠ y → g x + g y ≤ (l.map g).sum
  | z :: r, x, y, hx, hy, hne => by
    have hs : ((z :: r).map g).sum = g z + (r.map g).sum := by simp
    rw [hs]
    rcases List.mem_cons.1 hx with ex | hx <;> rcases List.mem_cons.1 hy with ey | hy
    · exact absurd (ex.trans ey.symm) hne
    · have := sum_pos (g := g) hy; rw [ex]; omega
    · have := sum_pos (g := g) hx; rw [ey]; omega
    · have := sum_two (g := g) hx hy hne; omega
theorem sum_some {α : Type} {g : α → Nat} : ∀ {l : List α}, 1 ≤ (l.map g).sum → ∃ x ∈ l, 1 ≤ g x
  | z :: r, h => by
    have hs : ((z :: r).map g).sum = g z + (r.map g).sum := by simp
    rw [hs] at h
    by_cases hz : 1 ≤ g z
    · exact ⟨z, by simp, hz⟩
    · obtain ⟨x, hx, hg⟩ := sum_some (g := g) (l := r) (by omega)
      exact ⟨x, by simp [hx], hg⟩
theorem kids_at2 {f : Fsy} {i : Int} {d : Nod} (h : atF f i = some d) (hk : d.kind = 2) : kidsF f i = d.l.map Ent.ino := by
  have := (at_BN h).2
  unfold kidsF
  rw [this, if_pos hk]
theorem kids_some {f : Fsy} {i z : Int} (h : z ∈ kidsF f i) : ∃ d, atF f i = some d ∧ d.kind = 2 ∧ ∃ e ∈ d.l, e.ino = z := by
  have h0 := h
  unfold kidsF at h
  split at h
  · rename_i hk
    have hb : findB f i = true := by
      cases hb : findB f i with
      | true => rfl
      | false => exact absurd hk (find_kind hb)
    obtain ⟨e, he, hz⟩ := List.mem_map.1 h
    exact ⟨_, at_some hb, hk, e, he, hz⟩
  · cases h
theorem kids_of {f : Fsy} {i z : Int} {d : Nod} {e : Ent} (h : atF f i = some d) (hk : d.kind = 2) (he : e ∈ d.l) (hz : e.ino = z) : z ∈ kidsF f i := by
  rw [kids_at2 h hk]
  exact List.mem_map.2 ⟨e, he, hz⟩
theorem namK_pos {z : Int} {d : Nod} : 1 ≤ namK z d ↔ d.kind = 2 ∧ ∃ e ∈ d.l, e.ino = z := by
  unfold namK cntE
  split
  · rename_i hk
    rw [show (1 ≤ d.l.countP (isE z)) = (0 < d.l.countP (isE z)) from rfl, List.countP_pos_iff]
    simp [isE, hk]
  · rename_i hk
    simp [hk]
theorem nam_pos {f : Fsy} {z : Int} (hr : RiseN f.l) : 1 ≤ nam f z ↔ ∃ i, z ∈ kidsF f i := by
  constructor
  · intro h
    obtain ⟨d, hd, hg⟩ := sum_some h
    obtain ⟨hk, e, he, hz⟩ := namK_pos.1 hg
    exact ⟨d.ino, kids_of (at_of hr hd) hk he hz⟩
  · rintro ⟨i, h⟩
    obtain ⟨d, hd, hk, e, he, hz⟩ := kids_some h
    exact Nat.le_trans (namK_pos.2 ⟨hk, e, he, hz⟩) (sum_pos (at_mem hd))
theorem nam_two {f : Fsy} {z i j : Int} (hi : z ∈ kidsF f i) (hj : z ∈ kidsF f j) (h1 : nam f z = 1) : i = j := by
  obtain ⟨d, hd, hk, e, he, hz⟩ := kids_some hi
  obtain ⟨d', hd', hk', e', he', hz'⟩ := kids_some hj
  by_cases hne : d = d'
  · rw [← at_ino hd, ← at_ino hd', hne]
  · have := sum_two (g := namK z) (at_mem hd) (at_mem hd') hne
    have := namK_pos.2 ⟨hk, e, he, hz⟩
    have := namK_pos.2 ⟨hk', e', he', hz'⟩
    unfold nam at h1
    omega
structure TreeP (f : Fsy) : Prop where
  rows : rowsP f
  root : ∃ n, atF f 1 = some n ∧ n.kind = 2 ∧ n.links = 0
  cnt : ∀ i n, atF f i = some n → n.links = (nam f i : Int)
  kid : ∀ i z, z ∈ kidsF f i → (∃ n, atF f z = some n) ∧ ¬ z = 1
  pos : ∀ i n, atF f i = some n → ¬ i = 1 → 1 ≤ n.links
  dir : ∀ i n, atF f i = some n → n.kind = 2 → ¬ i = 1 → n.links = 1 ∧ Reach f 1 i
theorem reach_last {f : Fsy} {a b : Int} (h : Reach f a b) : ∃ q, (q = a ∨ Reach f a q) ∧ b ∈ kidsF f q := by
  induction h with
  | one h => exact ⟨_, .inl rfl, h⟩
  | @more i y z h _ ih =>
    obtain ⟨q, hq, hk⟩ := ih
    refine ⟨q, .inr ?_, hk⟩
    rcases hq with rfl | hq
    · exact .one h
    · exact .more h hq
theorem reach_first {f : Fsy} {a b : Int} (h : Reach f a b) : ∃ y, y ∈ kidsF f a := by
  cases h with
  | one h => exact ⟨_, h⟩
  | more h _ => exact ⟨_, h⟩
inductive RT (f : Fsy) : Int → Prop where
  | base {z : Int} : z ∈ kidsF f 1 → RT f z
  | step {p z : Int} : RT f p → z ∈ kidsF f p → RT f z
theorem rt_of {f : Fsy} {a b : Int} (h : Reach f a b) : (a = 1 ∨ RT f a) → RT f b := by
  induction h with
  | one h =>
    rintro (rfl | hr)
    · exact .base h
    · exact .step hr h
  | more h _ ih =>
    rintro (rfl | hr)
    · exact ih (.inr (.base h))
    · exact ih (.inr (.step hr h))
theorem TreeP.no1 {f : Fsy} (h : TreeP f) {i : Int} : ¬ Reach f i 1 := fun hr => by
  obtain ⟨q, _, hk⟩ := reach_last hr
  exact (h.kid q 1 hk).2 rfl
theorem TreeP.reach {f : Fsy} (h : TreeP f) {i : Int} {n : Nod} (hn : atF f i = some n) (hi : ¬ i = 1) : Reach f 1 i := by
  by_cases hk : n.kind = 2
  · exact (h.dir i n hn hk hi).2
  · have hp := h.pos i n hn hi
    rw [h.cnt i n hn] at hp
    obtain ⟨q, hq⟩ := (nam_pos (rows_rise h.rows)).1 (show 1 ≤ nam f i by omega)
    by_cases h1 : q = 1
    · subst h1; exact .one hq
    · obtain ⟨d, hd, hdk, _⟩ := kids_some hq
      exact (h.dir q d hd hdk h1).2.snoc hq
theorem TreeP.one {f : Fsy} (h : TreeP f) {i : Int} {n : Nod} (hn : atF f i = some n) (hk : n.kind = 2) (hi : ¬ i = 1) : nam f i = 1 := by
  have h1 := (h.dir i n hn hk hi).1
  rw [h.cnt i n hn] at h1
  omega
theorem TreeP.acyc {f : Fsy} (h : TreeP f) {w : Int} : ¬ Reach f w w := by
  have key : ∀ w, RT f w → ¬ Reach f w w := by
    intro w hw
    induction hw with
    | @base z hz =>
      intro hr
      obtain ⟨q, hq, hk⟩ := reach_last hr
      obtain ⟨y, hy⟩ := reach_first hr
      obtain ⟨d, hd, hdk, _⟩ := kids_some hy
      have hz1 := (h.kid 1 z hz).2
      have e := nam_two hk hz (h.one hd hdk hz1)
      subst e
      rcases hq with e | hq
      · exact hz1 e.symm
      · exact h.no1 hq
    | @step p z hp hz ih =>
      intro hr
      obtain ⟨q, hq, hk⟩ := reach_last hr
      obtain ⟨y, hy⟩ := reach_first hr
      obtain ⟨d, hd, hdk, _⟩ := kids_some hy
      have hz1 := (h.kid p z hz).2
      have e := nam_two hk hz (h.one hd hdk hz1)
      subst e
      rcases hq with e | hq
      · rw [← e] at hr; exact ih hr
      · exact ih (.more hz hq)
  intro hr
  obtain ⟨q, _, hk⟩ := reach_last hr
  obtain ⟨⟨n, hn⟩, h1⟩ := h.kid q w hk
  exact key w (rt_of (h.reach hn h1) (.inl rfl)) hr
theorem first_at1 {f : Fsy} {n : Nod} (h : f.l[0]? = some n) (hn : n.ino = 1) (hr : RiseN f.l) : atF f 1 = some n := by
  have := at_of hr (List.mem_of_getElem? h)
  rwa [hn] at this
end Go.Proofs.Ytkepkbgebickiaa

set_option linter.unusedVariables false
set_option linter.unusedSimpArgs false
namespace Go.Proofs.Ytkepkbgebickiaa
open Go Go.RowKit Copyhold
open Copyhold.Name (Srt insE delE getE isAt)
theorem posI_lt {l : List Ent} {s : Txt} (h : Srt (lI l)) (hi : isB l s = true) : posI l s < l.length := by
  obtain ⟨x, hx, _⟩ := Name.get_pos h hi
  have := lt_of_some hx
  rw [lI_len] at this
  exact this
theorem get_at {l : List Ent} {s : Txt} {x : Ent} (h : Srt (lI l)) (hi : isB l s = true) (hx : l[posI l s]? = some x) : getI l s = x.ino := by
  obtain ⟨y, hy, _, hg⟩ := Name.get_pos h hi
  rw [getI_get, hg]
  have : (lI l)[Name.pos (lI l) s]? = some ((x.name, x.ino) : NEnt) := by
    unfold lI at hy ⊢
    rw [List.getElem?_map]
    have hx' : l[Name.pos (lI l) s]? = some x := hx
    unfold lI at hx'
    rw [hx']
    rfl
  rw [this] at hy
  obtain rfl := Option.some.inj hy
  rfl
set_option maxRecDepth 100000 in
set_option maxHeartbeats 4000000 in
theorem leave_spec (l : List Ent) (s : Txt) (hl : l.length ≤ 256) (hr : Name.Srt (lI l)) : FSpec Try.prog 63 [.sl 2 false (l.map entA), aS s] (.tup [.sl 2 false ((delL l s).map entA), aI (getI l s), aI (leaveE l s)]) := by
  exact spec_vc (F := Try.f63) 400 (
 .r 3 <| .r 2 <| .call (nplace_spec l s (by omega) hr) <|
 .r 5 <| .r 2 <| .br 17 (!(isB l s)) (fun q1 => have q1 := notT q1; have p1 := booF q1; .r 4 <| .fin (x := .tup [.sl 2 false (l.map entA), aI 0, aI 6]) (r := .tup [.sl 2 false ((delL l s).map entA), aI (getI l s), aI (leaveE l s)]) [] trivial (by
    have e : delL l s = l := if_neg (by rw [q1]; decide)
    have e2 : leaveE l s = 6 := if_neg (by rw [q1]; decide)
    rw [e, e2, get_away q1]
    exact Sub.tups ⟨by first | exact Sub.refl _ | exact Sub.loose _ _ _, Sub.refl _, Sub.refl _, trivial⟩))
 <| fun q1 => have q1 := notF q1; have p1 := booT q1; have hlt := posI_lt hr q1; .r 2 <| .val 20 (show (aI ((l.map entA).length : Int) : AV) = aI (l.length : Int) from by rw [List.length_map]) <| .mk0 24 l.length (show (l.length : Int) = ((l.length : Nat) : Int) from by omega) (by have hq := posI_le l s; simp <;> omega) (by have hq := posI_le l s; simp <;> omega) fun V1 =>
 .r 1 <| .r 3 <| .slc 2 false (l.map entA) none (some (posI l s : Int)) none 0 (posI l s) false (.inl ⟨rfl, rfl⟩) (.inr rfl) (.inl ⟨rfl, fun h => by cases h⟩) (by have hq := posI_le l s; first | omega | (rw [List.length_map]; omega) | (simp <;> omega)) (by have hq := posI_le l s; first | omega | (rw [List.length_map]; omega) | (simp <;> omega)) <|
 .app 24 V1 ([] : List (List AV)) (((l.map entA).take (posI l s)).drop 0) (by have hq := posI_le l s; simp <;> omega) (by have hq := posI_le l s; simp <;> omega) fun V2 =>
 .r 1 <| .pick [0, 1, 2, 3, 4, 6, 7, 8, 9] <| .run 4 [rng .i64 ((posI l s : Int) + 1)] ⟨rng64 (by omega) (by omega), trivial⟩ <|
 .slc 2 false (l.map entA) (some ((posI l s : Int) + 1)) none none (posI l s + 1) ((l.map entA).length) false (.inr (congrArg some (by omega))) (.inl ⟨rfl, rfl⟩) (.inl ⟨rfl, fun h => by cases h⟩) (by have hq := posI_le l s; first | omega | (rw [List.length_map]; omega) | (simp <;> omega)) (by have hq := posI_le l s; first | omega | (rw [List.length_map]; omega) | (simp <;> omega)) <|
 .r 2 <| .idxM l entA (posI l s) (m := (posI l s : Int)) rfl (posI_lt hr (by assumption)) fun x1 hx1 =>
 .r 1 <| .fork <| .alt (.app 24 V2 (([] : List (List AV)) ++ (((l.map entA).take (posI l s)).drop 0)) (((l.map entA).take ((l.map entA).length)).drop (posI l s + 1)) (by have hq := posI_le l s; simp <;> omega) (by have hq := posI_le l s; simp <;> omega) fun V3 =>
 .pick [10, 11, 12, 13] <| .r 4 <| .frz 21 [4, 5, 6] [] [V3 = V3, (([] : List (List AV)) ++ (((l.map entA).take (posI l s)).drop 0)).length + (((l.map entA).take ((l.map entA).length)).drop (posI l s + 1)).length = ((([] : List (List AV)) ++ (((l.map entA).take (posI l s)).drop 0)) ++ (((l.map entA).take ((l.map entA).length)).drop (posI l s + 1))).length] ⟨rfl, (by first | rfl | (simp; done) | (simp; omega)), trivial⟩ <|
 .fin (x := .tup [.sl 2 false ((([] : List (List AV)) ++ (((l.map entA).take (posI l s)).drop 0)) ++ (((l.map entA).take ((l.map entA).length)).drop (posI l s + 1))), aI x1.ino, aI 0]) (r := .tup [.sl 2 false ((delL l s).map entA), aI (getI l s), aI (leaveE l s)]) [] trivial (by
    have e : delL l s = l.take (posI l s) ++ l.drop (posI l s + 1) := if_pos q1
    have e2 : leaveE l s = 0 := if_pos q1
    rw [e, e2, get_at hr q1 hx1]
    exact Sub.tups ⟨Sub.of_eq (congrArg (AV.sl 2 false) (by simp [entA, List.map_take, List.map_drop, take_all])), Sub.refl _, Sub.refl _, trivial⟩))
 <| .r 1 <| .pick [5, 11, 12, 13] <| .app 24 V2 (([] : List (List AV)) ++ (((l.map entA).take (posI l s)).drop 0)) (((l.map entA).take ((l.map entA).length)).drop (posI l s + 1)) (by have hq := posI_le l s; simp <;> omega) (by have hq := posI_le l s; simp <;> omega) fun V4 =>
 .r 3 <| .frz 21 [4, 5, 6] [] [V4 = V4, (([] : List (List AV)) ++ (((l.map entA).take (posI l s)).drop 0)).length + (((l.map entA).take ((l.map entA).length)).drop (posI l s + 1)).length = ((([] : List (List AV)) ++ (((l.map entA).take (posI l s)).drop 0)) ++ (((l.map entA).take ((l.map entA).length)).drop (posI l s + 1))).length] ⟨rfl, (by first | rfl | (simp; done) | (simp; omega)), trivial⟩ <|
 .fin (x := .tup [.sl 2 false ((([] : List (List AV)) ++ (((l.map entA).take (posI l s)).drop 0)) ++ (((l.map entA).take ((l.map entA).length)).drop (posI l s + 1))), aI x1.ino, aI 0]) (r := .tup [.sl 2 false ((delL l s).map entA), aI (getI l s), aI (leaveE l s)]) [] trivial (by
    have e : delL l s = l.take (posI l s) ++ l.drop (posI l s + 1) := if_pos q1
    have e2 : leaveE l s = 0 := if_pos q1
    rw [e, e2, get_at hr q1 hx1]
    exact Sub.tups ⟨Sub.of_eq (congrArg (AV.sl 2 false) (by simp [entA, List.map_take, List.map_drop, take_all])), Sub.refl _, Sub.refl _, trivial⟩)) Try.func63 rfl (by kernel_rfl) (by kernel_rfl)
noncomputable def leaveF (f : Fsy) (d : Int) (s : Txt) : Fsy := putF f (withL (findN f d) (delL (findN f d).l s))
noncomputable def awayN (n : Nod) : Nod := ⟨n.ino, n.kind, n.links - 1, n.text, n.l⟩
noncomputable def awayF (f : Fsy) (d : Int) (s : Txt) (n : Nod) : Fsy := if n.links - 1 < 1 then outF (leaveF f d s) n.ino else putF (leaveF f d s) (awayN n)
set_option maxRecDepth 100000 in
set_option maxHeartbeats 4000000 in
theorem dleave_spec (f : Fsy) (dir : Int) (s : Txt) (okf : OkF f) (hp : rowsP f) (hs : s.length ≤ 1000000) : FSpec Try.prog 47 [.agg [.sl 5 false (f.l.map nodA), aI f.next], aI dir, aS s] (.agg (fsyA (leaveF f dir s))) := by
  have hl := hp.1
  have hr := rows_rise hp
  exact spec_vc (F := Try.f47) 400 (
 .new fun b1 => .new fun b2 => .run 2 [b1 = b1] ⟨rfl, trivial⟩ <|
 .call (tfind_spec f dir (by omega) hr) <|
 .r 3 <| .new fun b3 => .run 2 [b3 = b3] ⟨rfl, trivial⟩ <|
 .run 3 [b3 = b3] ⟨rfl, trivial⟩ <|
 .call (leave_spec ((findN f dir).l) s (find_srt hp dir).2 (find_srt hp dir).1) <|
 .run 6 [b3 = b3] ⟨rfl, trivial⟩ <|
 .run 2 [b1 = b1, b3 = b3] ⟨rfl, rfl, trivial⟩ <|
 .callS (args0 := [.agg [.sl 5 false (f.l.map nodA), aI f.next], .agg [aI ((findN f dir).ino), aI ((findN f dir).kind), aI ((findN f dir).links), aS ((findN f dir).text), .sl 2 false ((delL ((findN f dir).l) s).map entA)]]) (args := [.agg [.sl 5 false (f.l.map nodA), aI f.next], .agg [aI ((withL (findN f dir) (delL (findN f dir).l s)).ino), aI ((withL (findN f dir) (delL (findN f dir).l s)).kind), aI ((withL (findN f dir) (delL (findN f dir).l s)).links), aS ((withL (findN f dir) (delL (findN f dir).l s)).text), .sl 2 false ((withL (findN f dir) (delL (findN f dir).l s)).l.map entA)]]) ⟨Sub.refl _, Sub.refl _, trivial⟩ (put_spec f (withL (findN f dir) (delL (findN f dir).l s)) (find_I64 okf hp dir) (by omega) hr) <|
 .run 1 [b2 = b2] ⟨rfl, trivial⟩ <|
 .fin (x := .agg [.sl 5 false ((putF f (withL (findN f dir) (delL (findN f dir).l s))).l.map nodA), aI ((putF f (withL (findN f dir) (delL (findN f dir).l s))).next)]) (r := .agg (fsyA (leaveF f dir s))) [b2 = b2] ⟨rfl, trivial⟩ (by exact Sub.refl _)) Try.func47 rfl (by kernel_rfl) (by kernel_rfl)
theorem leave_le (f : Fsy) (d : Int) (s : Txt) : (leaveF f d s).l.length ≤ f.l.length + 1 := putN_le _ _
theorem leave_rise {f : Fsy} (h : rowsP f) (d : Int) (s : Txt) : RiseN (leaveF f d s).l := put_rise (rows_rise h)
set_option maxRecDepth 100000 in
set_option maxHeartbeats 4000000 in
theorem away_spec (f : Fsy) (dir : Int) (s : Txt) (n : Nod) (okf : OkF f) (hp : rowsP f) (hs : s.length ≤ 1000000) (hn : I64 n.ino ∧ n.ino < 9223372036854775807) (hk : 0 ≤ n.links ∧ n.links ≤ 1000) : FSpec Try.prog 43 [.agg [.sl 5 false (f.l.map nodA), aI f.next], aI dir, aS s, .agg [aI n.ino, aI n.kind, aI n.links, aS n.text, .sl 2 false (n.l.map entA)]] (.agg (fsyA (awayF f dir s n))) := by
  have hl := hp.1
  have hr := rows_rise hp
  exact spec_vc (F := Try.f43) 400 (
 .new fun b1 => .new fun b2 => .new fun b3 => .run 3 [b1 = b1] ⟨rfl, trivial⟩ <|
 .call (dleave_spec f dir s okf hp (by omega)) <|
 .run 1 [b1 = b1] ⟨rfl, trivial⟩ <|
 .run 5 [b2 = b2, rng .i64 (n.links - 1), b2 = b2] ⟨rfl, rng64 (by omega) (by omega), rfl, trivial⟩ <|
 .run 3 [b2 = b2] ⟨rfl, trivial⟩ <|
 .br 19 (decide ((n.links - 1) < 1)) (fun q1 => have p1 := decT q1; .run 3 [b1 = b1, b2 = b2] ⟨rfl, rfl, trivial⟩ <|
 .call (out_spec (leaveF f dir s) n.ino (by have := leave_le f dir s; omega) (leave_rise hp dir s)) <|
 .run 1 [b3 = b3] ⟨rfl, trivial⟩ <|
 .fin (x := .agg [.sl 5 false ((outF (leaveF f dir s) n.ino).l.map nodA), aI ((outF (leaveF f dir s) n.ino).next)]) (r := .agg (fsyA (awayF f dir s n))) [b3 = b3] ⟨rfl, trivial⟩ (by
    have e : awayF f dir s n = _ := if_pos (by omega)
    rw [e]
    exact Sub.refl _))
 <| fun q1 => have p1 := decF q1; .run 2 [b1 = b1, b2 = b2] ⟨rfl, rfl, trivial⟩ <|
 .callS (args0 := [.agg [.sl 5 false ((leaveF f dir s).l.map nodA), aI ((leaveF f dir s).next)], .agg [aI n.ino, aI n.kind, aI (n.links - 1), aS n.text, .sl 2 false (n.l.map entA)]]) (args := [.agg [.sl 5 false ((leaveF f dir s).l.map nodA), aI ((leaveF f dir s).next)], .agg [aI ((awayN n).ino), aI ((awayN n).kind), aI ((awayN n).links), aS ((awayN n).text), .sl 2 false ((awayN n).l.map entA)]]) ⟨Sub.refl _, Sub.refl _, trivial⟩ (put_spec (leaveF f dir s) (awayN n) hn (by have := leave_le f dir s; omega) (leave_rise hp dir s)) <|
 .run 1 [b3 = b3] ⟨rfl, trivial⟩ <|
 .fin (x := .agg [.sl 5 false ((putF (leaveF f dir s) (awayN n)).l.map nodA), aI ((putF (leaveF f dir s) (awayN n)).next)]) (r := .agg (fsyA (awayF f dir s n))) [b3 = b3] ⟨rfl, trivial⟩ (by
    have e : awayF f dir s n = _ := if_neg (by omega)
    rw [e]
    exact Sub.refl _)) Try.func43 rfl (by kernel_rfl) (by kernel_rfl)
end Go.Proofs.Ytkepkbgebickiaa

set_option linter.unusedVariables false
set_option linter.unusedSimpArgs false
namespace Go.Proofs.Ytkepkbgebickiaa
open Go Go.RowKit Copyhold
theorem look_node {f : Fsy} {d : Int} {s : Txt} (okf : OkF f) (hp : rowsP f) : OkN (lookN f d s) ∧ (lookN f d s).ino < 9223372036854775807 ∧ 0 ≤ (lookN f d s).links ∧ (lookN f d s).links ≤ 1000 ∧ (lookN f d s).l.length ≤ 8796093022207 := by
  unfold lookN
  split
  · have hb := find_I64 okf hp (lookI f d s)
    have hk := findN_ok okf (lookI f d s)
    refine ⟨hk, hb.2, ?_, ?_, hk.2.2.2.2.1⟩
    · by_cases h : findB f (lookI f d s) = true
      · exact ((rowsP_iff.1 hp).2.2.1 _ (find_mem h)).1.2.1
      · rw [(at_no (at_none (by simpa using h))).2]; decide
    · by_cases h : findB f (lookI f d s) = true
      · have := ((rowsP_iff.1 hp).2.2.1 _ (find_mem h)).1.2.2.1; omega
      · rw [(at_no (at_none (by simpa using h))).2]; decide
  · exact ⟨nod0_ok, by decide, by decide, by decide, by decide⟩
end Go.Proofs.Ytkepkbgebickiaa

set_option linter.unusedVariables false
set_option linter.unusedSimpArgs false
namespace Go.Proofs.Ytkepkbgebickiaa
open Go Go.RowKit Copyhold
theorem first_lit4 {t : Bool} (a b c d : Int) : Sub (.sl 1 t [[aI a], [aI b], [aI c], [aI d]]) (.sl 1 false ([a, b, c, d].map intA)) := Sub.loose _ _ _
theorem find_links {f : Fsy} (hp : rowsP f) (i : Int) : 0 ≤ (findN f i).links ∧ (findN f i).links ≤ 64 := by
  by_cases h : findB f i = true
  · have := ((rowsP_iff.1 hp).2.2.1 _ (find_mem h)).1
    exact ⟨this.2.1, this.2.2.1⟩
  · rw [(at_no (at_none (by simpa using h))).2]; decide
end Go.Proofs.Ytkepkbgebickiaa

set_option linter.unusedVariables false
set_option linter.unusedSimpArgs false
namespace Go.Proofs.Ytkepkbgebickiaa
open Go Go.RowKit Copyhold
open Copyhold.Name (Srt insE delE getE isAt)
theorem when0 {b : Bool} {e : Int} (he : ¬ e = 0) : whenE b e = 0 ↔ b = false := by
  unfold whenE
  cases b <;> simp [he]
theorem find_dir {f : Fsy} {i : Int} {d : Nod} (h : atF f i = some d) : findN f i = d := (at_BN h).2
theorem withL_nod {d : Nod} {l : List Ent} (h : nodP d) (hk : d.kind = 2) (hl : rowP l) : nodP (withL d l) := ⟨h.1, h.2.1, h.2.2.1, .inl ⟨hk, (dir_row h hk).1, hl⟩⟩
def setL (f : Fsy) (d : Nod) (l : List Ent) : Fsy := putF f (withL d l)
theorem setL_rows {f : Fsy} {i : Int} {d : Nod} {l : List Ent} (h : rowsP f) (hd : atF f i = some d) (hk : d.kind = 2) (hl : rowP l) : rowsP (setL f d l) ∧ (setL f d l).l.length = f.l.length ∧ (setL f d l).next = f.next ∧ ∀ j, atF (setL f d l) j = if j = i then some (withL d l) else atF f j := by
  obtain ⟨g1, g2, g3⟩ := rows_at h hd
  have hb : findB f (withL d l).ino = true := by show findB f d.ino = true; rw [g3]; exact (at_BN hd).1
  refine ⟨put_rows2 h (withL_nod g1 hk hl) hb, put_len (rows_rise h) hb, put_next g2, fun j => ?_⟩
  have := at_put (n := withL d l) (j := j) (rows_rise h)
  rw [show (withL d l).ino = i from g3] at this
  exact this
theorem put_there {f : Fsy} {n m : Nod} {i : Int} (h : rowsP f) (hd : atF f i = some m) (hi : n.ino = i) (hn : nodP n) : rowsP (putF f n) ∧ (putF f n).l.length = f.l.length ∧ (putF f n).next = f.next ∧ ∀ j, atF (putF f n) j = if j = i then some n else atF f j := by
  obtain ⟨g1, g2, g3⟩ := rows_at h hd
  have hb : findB f n.ino = true := by rw [hi]; exact (at_BN hd).1
  exact ⟨put_rows2 h hn hb, put_len (rows_rise h) hb, put_next (by omega), fun j => by rw [at_put (rows_rise h), hi]⟩
structure AddsP (f : Fsy) (dir : Int) (s : Txt) (n : Nod) (d : Nod) : Prop where
  dir : atF f dir = some d
  kind : d.kind = 2
  check : checkE s = 0
  away : isB d.l s = false
  few : f.l.length < 256
  fewd : d.l.length < 256
  node : nodP (addN f n)
  nol : n.l = []
theorem enter_set {f : Fsy} {dir : Int} {s : Txt} {i : Int} {d : Nod} (h : atF f dir = some d) : enterF f dir s i = setL f d (entL d.l s i) := by unfold enterF setL; rw [find_dir h]
theorem leave_set {f : Fsy} {dir : Int} {s : Txt} {d : Nod} (h : atF f dir = some d) : leaveF f dir s = setL f d (delL d.l s) := by unfold leaveF setL; rw [find_dir h]
end Go.Proofs.Ytkepkbgebickiaa

set_option linter.unusedVariables false
set_option linter.unusedSimpArgs false
namespace Go.Proofs.Ytkepkbgebickiaa
open Go Go.RowKit Copyhold
theorem chk_a : checkE [97] = 0 := checkE0 ⟨by decide, by decide, by decide, by decide, by decide, by decide⟩
theorem dir_new : dirE newF 1 = 0 := rfl
theorem look_new : lookE newF 1 [97] = 6 := by
  unfold lookE
  rw [first3, chk_a, dir_new]
  rfl
theorem lookN_new : lookN newF 1 [97] = nod0 := look_no (by rw [look_new]; decide)
theorem walk_new : walkF newF [47] = (rootN, 0) := rfl
def fileN : Nod := ⟨0, 1, 0, [], []⟩
theorem fileN_ok : OkN fileN := ⟨⟨by decide, by decide⟩, ⟨by decide, by decide⟩, ⟨by decide, by decide⟩, by show (0 : Nat) ≤ _; omega, by show (0 : Nat) ≤ _; omega, fun e h => by cases h⟩
theorem file_right : nodP (addN newF fileN) := ⟨by decide, by decide, by decide, .inr ⟨.inl rfl, by decide, rfl⟩⟩
theorem add_new : addErr newF 1 [97] fileN = 0 := by
  unfold addErr
  rw [chk_a, dir_new, dP_true.2 file_right]
  rfl
theorem add_len : ((if addErr newF 1 [97] fileN = 0 then addF newF 1 [97] (addN newF fileN) else newF).l.length : Int) = 2 := by
  rw [if_pos add_new]
  rfl
set_option maxRecDepth 100000 in
set_option maxHeartbeats 4000000 in
theorem shown_spec  : FSpec Try.prog 8 [] (aB true) := by
  exact spec_vc (F := Try.f8) 400 (
 .r 1 <| .call (rnew_spec) <|
 .new fun b1 => .run 1 [b1 = b1] ⟨rfl, trivial⟩ <|
 .run 1 [b1 = b1] ⟨rfl, trivial⟩ <|
 .call (take_no newF 1 [97] newF_rows (by decide) (by rw [look_new]; decide) (by rw [lookN_new]; show (0 : Nat) ≤ _; omega)) <|
 .r 3 <| .new fun b2 => .run 2 [b2 = b2] ⟨rfl, trivial⟩ <|
 .run 1 [b1 = b1] ⟨rfl, trivial⟩ <|
 .call (walk_spec newF [47] newF_rows (by decide)) <|
 .r 3 <| .new fun b3 => .run 2 [b3 = b3] ⟨rfl, trivial⟩ <|
 .run 2 [b1 = b1] ⟨rfl, trivial⟩ <|
 .callS (args0 := [.agg [.sl 5 false (newF.l.map nodA), aI newF.next], aI 1, aS ([97]), .agg [aI 0, aI 1, aI 0, aS ([]), aN]]) (args := [.agg [.sl 5 false (newF.l.map nodA), aI newF.next], aI 1, aS ([97]), .agg [aI fileN.ino, aI fileN.kind, aI fileN.links, aS fileN.text, .sl 2 false (fileN.l.map entA)]]) ⟨Sub.refl _, Sub.refl _, Sub.refl _, Sub.aggs ⟨Sub.refl _, Sub.refl _, Sub.refl _, Sub.refl _, Sub.nil _ _, trivial⟩, trivial⟩ (add_spec newF 1 [97] fileN newF_ok newF_rows (by decide) fileN_ok (by decide)) <|
 .r 3 <| .new fun b4 => .run 2 [b4 = b4] ⟨rfl, trivial⟩ <|
 .r 3 <| .is 27 (show ((lookE newF 1 [97]) == 6) = true from (by rw [look_new]; rfl)) <| .r 4 <| .is 31 (show (((walkF newF [47]).2) == 0) = true from (by rw [walk_new]; rfl)) <| .run 5 [b3 = b3] ⟨rfl, trivial⟩ <|
 .is 36 (show (((walkF newF [47]).1.ino) == 1) = true from (by rw [walk_new]; rfl)) <| .r 4 <| .is 40 (show ((addErr newF 1 [97] fileN) == 0) = true from (by rw [add_new]; rfl)) <| .run 3 [b4 = b4] ⟨rfl, trivial⟩ <|
 .val 43 (show (aI (((if addErr newF 1 [97] fileN = 0 then addF newF 1 [97] (addN newF fileN) else newF).l.map nodA).length : Int) : AV) = aI (((if addErr newF 1 [97] fileN = 0 then addF newF 1 [97] (addN newF fileN) else newF).l).length : Int) from by rw [List.length_map]) <| .r 3 <| .fin (x := aB ((((if addErr newF 1 [97] fileN = 0 then addF newF 1 [97] (addN newF fileN) else newF).l).length : Int) == 2)) (r := aB true) [] trivial (by exact Sub.of_eq (congrArg aB (by first | rfl | (rw [add_len]; rfl) | simp [add_len])))) Try.func8 rfl (by kernel_rfl) (by kernel_rfl)
set_option maxRecDepth 100000 in
set_option maxHeartbeats 4000000 in
theorem fewr_spec (f : Fsy) (okf : OkF f) : FSpec Try.prog 9 [.agg [.sl 5 false (f.l.map nodA), aI f.next]] (aB (dP (fewF f ∧ rightP f))) := by
  exact spec_vc (F := Try.f9) 400 (
 .new fun b1 => .r 1 <| .run 1 [b1 = b1] ⟨rfl, trivial⟩ <|
 .call (few_spec f okf) <|
 .r 1 <| .br 5 (dP (fewF f)) (fun q1 => have p1 := booT q1; .run 1 [b1 = b1] ⟨rfl, trivial⟩ <|
 .call (right_spec f okf (dP_true.1 q1)) <|
 .r 2 <| .fin (x := aB (dP (rightP f))) (r := aB (dP (fewF f ∧ rightP f))) [] trivial (by exact sE (dP_true.trans ⟨fun h => ⟨dP_true.1 q1, h⟩, fun h => h.2⟩)))
 <| fun q1 => have p1 := booF q1; .r 4 <| .fin (x := aB false) (r := aB (dP (fewF f ∧ rightP f))) [] trivial (by exact sF (fun h => dP_false.1 q1 h.1))) Try.func9 rfl (by kernel_rfl) (by kernel_rfl)
end Go.Proofs.Ytkepkbgebickiaa

set_option linter.unusedVariables false
set_option linter.unusedSimpArgs false
namespace Go.Proofs.Ytkepkbgebickiaa
open Go Go.RowKit Copyhold
structure Dfi where
  f : Fsy
  i : Int
  s : Txt
  p : Txt
end Go.Proofs.Ytkepkbgebickiaa

set_option linter.unusedVariables false
set_option linter.unusedSimpArgs false
namespace Go.Proofs.Ytkepkbgebickiaa
open Go Go.RowKit Copyhold
structure Dbk where
  f : Fsy
  i : Int
  s : Txt
  n : Nod
end Go.Proofs.Ytkepkbgebickiaa

set_option linter.unusedVariables false
set_option linter.unusedSimpArgs false
namespace Go.Proofs.Ytkepkbgebickiaa
open Go Go.RowKit Copyhold
open Copyhold.Name (Srt insE delE getE isAt)
structure GivesP (f : Fsy) (dir : Int) (s : Txt) (i : Int) (d n : Nod) : Prop where
  dir : atF f dir = some d
  kind : d.kind = 2
  node : atF f i = some n
  file : ¬ n.kind = 2
  check : checkE s = 0
  away : isB d.l s = false
  fewd : d.l.length < 256
  links : n.links < 64
structure Dgv where
  f : Fsy
  i : Int
  s : Txt
  n : Int
end Go.Proofs.Ytkepkbgebickiaa

set_option linter.unusedVariables false
set_option linter.unusedSimpArgs false
namespace Go.Proofs.Ytkepkbgebickiaa
open Go Go.RowKit Copyhold
theorem names_nam {f : Fsy} (hp : rowsP f) (z : Int) : namesF f z = nam f z := by
  unfold namesF nam
  congr 1
  refine List.map_congr_left fun n hn => ?_
  unfold namK
  split
  · rfl
  · rename_i hk
    rw [show cntE z n = 0 from ?_]
    unfold cntE
    rw [file_none ((rowsP_iff.1 hp).2.2.1 n hn).1 hk]; rfl
theorem find_kids {f : Fsy} (hp : rowsP f) (i : Int) : (findN f i).l.map Ent.ino = kidsF f i := by
  unfold kidsF
  split
  · rfl
  · rename_i hk
    by_cases hb : findB f i = true
    · rw [file_none ((rowsP_iff.1 hp).2.2.1 _ (find_mem hb)).1 hk]; rfl
    · rw [(at_no (at_none (by simpa using hb))).2]; rfl
theorem addE_B {l : List Ent} : ∀ {U : List Int} {z : Int}, hasB (addE U l) z = true ↔ hasB U z = true ∨ z ∈ l.map Ent.ino := by
  induction l with
  | nil => intro U z; simp [addE]
  | cons e r ih =>
    intro U z
    show hasB (addE (if hasB U e.ino then U else U ++ [e.ino]) r) z = true ↔ _
    rw [ih]
    simp only [List.map_cons, List.mem_cons]
    split
    · rename_i h
      constructor
      · rintro (g | g)
        · exact .inl g
        · exact .inr (.inr g)
      · rintro (g | g | g)
        · exact .inl g
        · rw [g]; exact .inl h
        · exact .inr g
    · rw [hasB_app]
      constructor
      · rintro (g | g)
        · rcases Bool.or_eq_true _ _ ▸ g with g | g
          · exact .inl g
          · exact .inr (.inl (by simpa using (beq_iff_eq.1 g).symm))
        · exact .inr (.inr g)
      · rintro (g | g | g)
        · exact .inl (by rw [g]; rfl)
        · exact .inl (by rw [g]; simp)
        · exact .inr g
theorem goU_sound {f : Fsy} {i : Int} (hp : rowsP f) : ∀ (n : Nat) {U : List Int} (p : Nat), (∀ z, hasB U z = true → Reach f i z) → ∀ z, hasB (goU f n U p) z = true → Reach f i z
  | 0, U, p, h => h
  | n + 1, U, p, h => by
    simp only [goU]
    split
    · rename_i y hy
      refine goU_sound hp n (p + 1) fun z hz => ?_
      rcases addE_B.1 hz with hz | hz
      · exact h z hz
      · rw [find_kids hp] at hz
        exact (h y (hasB_mem.2 (List.mem_of_getElem? hy))).snoc hz
    · exact h
theorem addE_pre {l : List Ent} : ∀ {U : List Int} {k : Nat} {z : Int}, U[k]? = some z → (addE U l)[k]? = some z := by
  induction l with
  | nil => intro U k z h; exact h
  | cons e r ih =>
    intro U k z h
    show (addE (if hasB U e.ino then U else U ++ [e.ino]) r)[k]? = some z
    refine ih ?_
    split
    · exact h
    · rw [List.getElem?_append_left (lt_of_some h)]; exact h
theorem goU_full {f : Fsy} {i : Int} (hp : rowsP f) (hf : fewF f) : ∀ (n : Nat) {U : List Int} (p : Nat), Dst f U → 200 ≤ n + p → (∀ y ∈ kidsF f i, hasB U y = true) → (∀ k z, k < p → U[k]? = some z → ∀ y ∈ kidsF f z, hasB U y = true) →
    (∀ y ∈ kidsF f i, hasB (goU f n U p) y = true) ∧ ∀ z, hasB (goU f n U p) z = true → ∀ y ∈ kidsF f z, hasB (goU f n U p) y = true
  | 0, U, p, hd, hn, hi, h => by
    have hl := hd.le hf
    refine ⟨hi, fun z hz => ?_⟩
    obtain ⟨k, hk⟩ := List.getElem?_of_mem (hasB_mem.1 hz)
    have hk' : U[k]? = some z := hk
    exact h k z (by have := lt_of_some hk'; omega) hk'
  | n + 1, U, p, hd, hn, hi, h => by
    simp only [goU]
    split
    · rename_i y hy
      have mono : ∀ z, hasB U z = true → hasB (addE U (findN f y).l) z = true := fun z hz => addE_B.2 (.inl hz)
      refine goU_full hp hf n (p + 1) (addE_dst hd fun e he => find_ent he) (by omega) (fun z hz => mono z (hi z hz)) fun k z hk hz w hw => ?_
      by_cases hkp : k < p
      · have hk2 : k < U.length := by have := lt_of_some hy; omega
        have e : U[k]? = some z := by
          have := addE_pre (l := (findN f y).l) (List.getElem?_eq_getElem hk2)
          rw [this] at hz
          rw [List.getElem?_eq_getElem hk2]; exact hz
        exact mono w (h k z hkp e w hw)
      · have e : k = p := by omega
        subst e
        rw [addE_pre hy] at hz
        obtain rfl := Option.some.inj hz
        exact addE_B.2 (.inr (by rw [find_kids hp]; exact hw))
    · rename_i hnone
      refine ⟨hi, fun z hz => ?_⟩
      obtain ⟨k, hk⟩ := List.getElem?_of_mem (hasB_mem.1 hz)
      have : U.length ≤ p := by
        cases Nat.lt_or_ge p U.length with
        | inl hlt => rw [List.getElem?_eq_getElem hlt] at hnone; cases hnone
        | inr hge => exact hge
      exact h k z (by have := lt_of_some hk; omega) hk
theorem under_iff {f : Fsy} {i z : Int} (hp : rowsP f) (hf : fewF f) : hasB (underF f i) z = true ↔ Reach f i z := by
  have h0 : ∀ y, hasB (addE [] (findN f i).l) y = true ↔ y ∈ kidsF f i := fun y => by
    rw [addE_B, find_kids hp]
    simp [hasB]
  refine ⟨goU_sound hp 300 0 (fun y hy => .one ((h0 y).1 hy)) z, fun h => ?_⟩
  obtain ⟨g1, g2⟩ := goU_full (i := i) hp hf 300 0 (addE_dst (Dst.nil f) fun e he => find_ent he) (by omega) (fun y hy => (h0 y).2 hy) (fun k z hk => absurd hk (Nat.not_lt_zero k))
  have main : ∀ a b, Reach f a b → (∀ y ∈ kidsF f a, hasB (underF f i) y = true) → hasB (underF f i) b = true := by
    intro a b hab
    induction hab with
    | one h => exact fun hk => hk _ h
    | more h _ ih => exact fun hk => ih (g2 _ (hk _ h))
  exact main i z h g1
theorem rightP_tree {f : Fsy} (hf : fewF f) (h : rightP f) : TreeP f := by
  obtain ⟨h1, ⟨n0, h2, h3, h4, h5⟩, h6⟩ := h
  have hr := rows_rise h1
  have key : ∀ i n, atF f i = some n → n.links = (nam f i : Int) ∧ (∀ e ∈ n.l, findB f e.ino = true) ∧ (¬ i = 1 → 1 ≤ n.links ∧ (n.kind = 2 → n.links ≤ 1 ∧ Reach f 1 i)) := fun i n hn => by
    obtain ⟨j, hj⟩ := List.getElem?_of_mem (at_mem hn)
    obtain ⟨a, b, c⟩ := h6 j n hj
    rw [at_ino hn, names_nam h1] at a
    refine ⟨a, fun e he => by obtain ⟨k, hk⟩ := List.getElem?_of_mem he; exact c k e hk, fun hi => ?_⟩
    unfold lateR at b
    have hj0 : ¬ j = 0 := fun e => by
      rw [e, h2] at hj
      obtain rfl := Option.some.inj hj
      exact hi ((at_ino hn).symm.trans h3)
    rw [decide_eq_true (show (j : Int) > 0 from by omega)] at b
    simp only [Bool.true_and, Bool.not_eq_true', Bool.or_eq_false_iff, decide_eq_false_iff_not, Bool.and_eq_false_iff] at b
    refine ⟨by omega, fun hk => ?_⟩
    rcases b.2 with b2 | b2
    · simp [hk] at b2
    · have b3 := b2.2
      rw [at_ino hn] at b3
      simp only [Bool.not_eq_false'] at b3
      exact ⟨by omega, (under_iff h1 hf).1 b3⟩
  refine ⟨h1, ⟨n0, first_at1 h2 h3 hr, h4, h5⟩, fun i n hn => (key i n hn).1, fun i z hz => ?_, fun i n hn hi => ((key i n hn).2.2 hi).1, fun i n hn hk hi => ?_⟩
  · obtain ⟨d, hd, hk, e, he, hez⟩ := kids_some hz
    have hb := (key i d hd).2.1 e he
    rw [hez] at hb
    refine ⟨⟨_, at_some hb⟩, fun h1z => ?_⟩
    have g := (key 1 n0 (first_at1 h2 h3 hr)).1
    have := (nam_pos hr).2 ⟨i, hz⟩
    rw [h1z] at this
    omega
  · have := (key i n hn).2.2 hi
    have h2 := this.2 hk
    exact ⟨by omega, h2.2⟩
end Go.Proofs.Ytkepkbgebickiaa

set_option linter.unusedVariables false
set_option linter.unusedSimpArgs false
namespace Go.Proofs.Ytkepkbgebickiaa
open Go Go.RowKit Copyhold
def withinB (f : Fsy) (i : Int) (n : Nod) : Bool := n.kind == 2 && (i == n.ino || hasB (reachF f n.ino) i)
def overE (n m : Nod) : Int := firstE [whenE (((n.kind == 2) != (m.kind == 2)) && (n.kind == 2)) 8, whenE (((n.kind == 2) != (m.kind == 2)) && !(n.kind == 2)) 9, whenE (fullB m) 11]
set_option maxRecDepth 100000 in
set_option maxHeartbeats 4000000 in
theorem within_spec (f : Fsy) (i : Int) (n : Nod) (okf : OkF f) (hl : f.l.length ≤ 100000) (hr : RiseN f.l) : FSpec Try.prog 44 [.agg [.sl 5 false (f.l.map nodA), aI f.next], aI i, .agg [aI n.ino, aI n.kind, aI n.links, aS n.text, .sl 2 false (n.l.map entA)]] (aB (withinB f i n)) := by
  exact spec_vc (F := Try.f44) 400 (
 .new fun b1 => .new fun b2 => .r 1 <| .run 4 [b2 = b2] ⟨rfl, trivial⟩ <|
 .br 10 (n.kind == 2) (fun q1 => have p1 := beqT q1; .run 5 [b2 = b2] ⟨rfl, trivial⟩ <|
 .br 15 (i == n.ino) (fun q2 => have p2 := beqT q2; .r 8 <| .fin (x := aB true) (r := aB (withinB f i n)) [] trivial (by exact Sub.of_eq (congrArg aB (by unfold withinB; simp [*]))))
 <| fun q2 => have p2 := beqF q2; .run 4 [b1 = b1, b2 = b2] ⟨rfl, rfl, trivial⟩ <|
 .call (below_spec f i n.ino okf hl hr) <|
 .r 3 <| .fin (x := aB (hasB (reachF f n.ino) i)) (r := aB (withinB f i n)) [] trivial (by exact Sub.of_eq (congrArg aB (by unfold withinB; simp [*]))))
 <| fun q1 => have p1 := beqF q1; .r 13 <| .fin (x := aB false) (r := aB (withinB f i n)) [] trivial (by exact Sub.of_eq (congrArg aB (by unfold withinB; simp [*])))) Try.func44 rfl (by kernel_rfl) (by kernel_rfl)
set_option maxRecDepth 100000 in
set_option maxHeartbeats 4000000 in
theorem over_spec (n m : Nod) (hm : m.l.length ≤ 8796093022207) : FSpec Try.prog 45 [.agg [aI n.ino, aI n.kind, aI n.links, aS n.text, .sl 2 false (n.l.map entA)], .agg [aI m.ino, aI m.kind, aI m.links, aS m.text, .sl 2 false (m.l.map entA)]] (aI (overE n m)) := by
  exact spec_vc (F := Try.f45) 400 (
 .new fun b1 => .new fun b2 => .r 1 <| .ord [0, 1, 2, 3, 4, 5, 6, 7, 8, 9, 10, 11] <| .run 12 [b1 = b1, b1 = b1, b2 = b2] ⟨rfl, rfl, rfl, trivial⟩ <|
 .ord [0, 1, 2, 3, 5, 11, 4, 6, 7, 8, 9, 10, 12, 13, 14, 15, 16] <| .r 2 <| .br 18 (!((n.kind == 2) == (m.kind == 2))) (fun q1 => have q1 := notT q1; have p1 := beqF q1; .run 4 [b2 = b2] ⟨rfl, trivial⟩ <|
 .call (when_spec (n.kind == 2) 8) <|
 .r 1 <| .is 23 (show (!((n.kind == 2) == (m.kind == 2))) = true from by rw [q1]; rfl) <| .r 3 <| .call (when_spec (!(n.kind == 2)) 9) <|
 .call (full_spec m hm) <|
 .call (when_spec (fullB m) 11) <|
 .r 1 <| .callS (args0 := [.sl 1 true ([[aI (whenE (n.kind == 2) 8)], [aI (whenE (!(n.kind == 2)) 9)], [aI (whenE (fullB m) 11)]])]) (args := [.sl 1 false ([(whenE (n.kind == 2) 8), (whenE (!(n.kind == 2)) 9), (whenE (fullB m) 11)].map intA)]) ⟨first_lit (whenE (n.kind == 2) 8) (whenE (!(n.kind == 2)) 9) (whenE (fullB m) 11), trivial⟩ (first_spec [(whenE (n.kind == 2) 8), (whenE (!(n.kind == 2)) 9), (whenE (fullB m) 11)] (by simp)) <|
 .r 1 <| .fin (x := aI (firstE [(whenE (n.kind == 2) 8), (whenE (!(n.kind == 2)) 9), (whenE (fullB m) 11)])) (r := aI (overE n m)) [] trivial (by exact Sub.of_eq (congrArg aI (by unfold overE; simp only [bne, q1]; rfl))))
 <| fun q1 => have q1 := notF q1; have p1 := beqT q1; .run 4 [b2 = b2] ⟨rfl, trivial⟩ <|
 .call (when_spec false 8) <|
 .r 1 <| .is 23 (show (!((n.kind == 2) == (m.kind == 2))) = false from by rw [q1]; rfl) <| .r 3 <| .call (when_spec false 9) <|
 .call (full_spec m hm) <|
 .call (when_spec (fullB m) 11) <|
 .r 1 <| .callS (args0 := [.sl 1 true ([[aI (whenE false 8)], [aI (whenE false 9)], [aI (whenE (fullB m) 11)]])]) (args := [.sl 1 false ([(whenE false 8), (whenE false 9), (whenE (fullB m) 11)].map intA)]) ⟨first_lit (whenE false 8) (whenE false 9) (whenE (fullB m) 11), trivial⟩ (first_spec [(whenE false 8), (whenE false 9), (whenE (fullB m) 11)] (by simp)) <|
 .r 1 <| .fin (x := aI (firstE [(whenE false 8), (whenE false 9), (whenE (fullB m) 11)])) (r := aI (overE n m)) [] trivial (by exact Sub.of_eq (congrArg aI (by unfold overE; simp only [bne, q1]; rfl)))) Try.func45 rfl (by kernel_rfl) (by kernel_rfl)
end Go.Proofs.Ytkepkbgebickiaa
