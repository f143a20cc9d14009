import Derived.Test.YtkhnialfkndiiaaGreatMrgN
import Derived.Test.YtkhnialfkndiiaaGreatMrgP
set_option maxRecDepth 100000
set_option maxHeartbeats 8000000
set_option linter.unusedVariables false
set_option linter.unusedSimpArgs false
namespace Go.Proofs.YtkhnialfkndiiaaGreat
open Go Go.RowKit Copyhold
def namK (z : Int) (n : Nod) : Nat := if n.kind = 2 then cntE z n else 0
def nam (f : Fsy) (z : Int) : Nat := (f.l.map (namK z)).sum
theorem cntI_ok : ∀ {L : List (Int × Nat)} (y : Int), (∀ p ∈ L, 1 ≤ p.2) → ∀ p ∈ cntI L y, 1 ≤ p.2
 | [], y, _, p, hp => by obtain rfl := List.mem_singleton.1 hp; exact Nat.le_refl _
 | q :: r, y, h, p, hp => by
  unfold cntI at hp
  split at hp
  ·rcases List.mem_cons.1 hp with rfl | hp
   ·show 1 ≤ q.2 + 1; omega
   ·exact h p (by simp [hp])
  ·rcases List.mem_cons.1 hp with rfl | hp
   ·exact h p (by simp)
   ·exact cntI_ok y (fun p hp => h p (by simp [hp])) p hp
theorem cntI_dst : ∀ {L : List (Int × Nat)} (y : Int), (L.map (·.1)).Nodup → ((cntI L y).map (·.1)).Nodup ∧ ∀ z, z ∈ (cntI L y).map (·.1) → z = y ∨ z ∈ L.map (·.1)
 | [], y, _ => ⟨by simp [cntI], fun z hz => .inl (by simpa [cntI] using hz)⟩
 | q :: r, y, h => by
  unfold cntI
  split
  ·exact ⟨h, fun z hz => .inr hz⟩
  ·rename_i hne
   obtain ⟨h1, h2⟩ := List.nodup_cons.1 h
   obtain ⟨g1, g2⟩ := cntI_dst y h2
   refine ⟨List.nodup_cons.2 ⟨fun hm => ?_, g1⟩, fun z hz => ?_⟩
   ·rcases g2 _ hm with e | e
    ·exact hne e
    ·exact h1 e
   ·rcases List.mem_cons.1 hz with e | hz
    ·exact .inr (by simp [e])
    ·rcases g2 z hz with e | e
     ·exact .inl e
     ·exact .inr (by simp only [List.map_cons]; exact List.mem_cons_of_mem _ e)
def OkCnt (L : List (Int × Nat)) : Prop := (∀ p ∈ L, 1 ≤ p.2) ∧ (L.map (·.1)).Nodup
theorem OkCnt.step {L : List (Int × Nat)} (h : OkCnt L) (y : Int) : OkCnt (cntI L y) := ⟨cntI_ok y h.1, (cntI_dst y h.2).1⟩
theorem sum_pos {α : Type} {g : α → Nat} : ∀ {l : List α} {x : α}, x ∈ l → g x ≤ (l.map g).sum
 | y :: r, x, h => by
  have hs : ((y :: r).map g).sum = g y + (r.map g).sum := by simp
  rw [hs]
  rcases List.mem_cons.1 h with e | h
  ·rw [e]; omega
  ·have := sum_pos (g := g) h; omega
theorem sum_two {α : Type} {g : α → Nat} : ∀ {l : List α} {x y : α}, x ∈ l → y ∈ l → x ≠ y → g x + g y ≤ (l.map g).sum
 | z :: r, x, y, hx, hy, hne => by
  have hs : ((z :: r).map g).sum = g z + (r.map g).sum := by simp
  rw [hs]
  rcases List.mem_cons.1 hx with ex | hx <;> rcases List.mem_cons.1 hy with ey | hy
  ·exact absurd (ex.trans ey.symm) hne
  ·have := sum_pos (g := g) hy; rw [ex]; omega
  ·have := sum_pos (g := g) hx; rw [ey]; omega
  ·have := sum_two (g := g) hx hy hne; omega
theorem sum_some {α : Type} {g : α → Nat} : ∀ {l : List α}, 1 ≤ (l.map g).sum → ∃ x ∈ l, 1 ≤ g x
 | z :: r, h => by
  have hs : ((z :: r).map g).sum = g z + (r.map g).sum := by simp
  rw [hs] at h
  by_cases hz : 1 ≤ g z
  ·exact ⟨z, by simp, hz⟩
  ·obtain ⟨x, hx, hg⟩ := sum_some (g := g) (l := r) (by omega)
   exact ⟨x, by simp [hx], hg⟩
theorem kids_at2 {f : Fsy} {i : Int} {d : Nod} (h : atF f i = some d) (hk : d.kind = 2) : kidsF f i = d.l.map Ent.ino := by
 have := (at_BN h).2
 unfold kidsF
 rw [this, if_pos hk]
theorem kids_some {f : Fsy} {i z : Int} (h : z ∈ kidsF f i) : ∃ d, atF f i = some d ∧ d.kind = 2 ∧ ∃ e ∈ d.l, e.ino = z := by
 have h0 := h
 unfold kidsF at h
 split at h
 ·rename_i hk
  have hb : findB f i = true := by
   cases hb : findB f i with
   | true => rfl
   | false => exact absurd hk (find_kind hb)
  obtain ⟨e, he, hz⟩ := List.mem_map.1 h
  exact ⟨_, at_some hb, hk, e, he, hz⟩
 ·cases h
theorem kids_of {f : Fsy} {i z : Int} {d : Nod} {e : Ent} (h : atF f i = some d) (hk : d.kind = 2) (he : e ∈ d.l) (hz : e.ino = z) : z ∈ kidsF f i := by
 rw [kids_at2 h hk]
 exact List.mem_map.2 ⟨e, he, hz⟩
theorem namK_pos {z : Int} {d : Nod} : 1 ≤ namK z d ↔ d.kind = 2 ∧ ∃ e ∈ d.l, e.ino = z := by
 unfold namK cntE
 split
 ·rename_i hk
  rw [show (1 ≤ d.l.countP (isE z)) = (0 < d.l.countP (isE z)) from rfl, List.countP_pos_iff]
  simp [isE, hk]
 ·rename_i hk
  simp [hk]
theorem nam_pos {f : Fsy} {z : Int} (hr : RiseN f.l) : 1 ≤ nam f z ↔ ∃ i, z ∈ kidsF f i := by
 constructor
 ·intro h
  obtain ⟨d, hd, hg⟩ := sum_some h
  obtain ⟨hk, e, he, hz⟩ := namK_pos.1 hg
  exact ⟨d.ino, kids_of (at_of hr hd) hk he hz⟩
 ·rintro ⟨i, h⟩
  obtain ⟨d, hd, hk, e, he, hz⟩ := kids_some h
  exact Nat.le_trans (namK_pos.2 ⟨hk, e, he, hz⟩) (sum_pos (at_mem hd))
theorem nam_two {f : Fsy} {z i j : Int} (hi : z ∈ kidsF f i) (hj : z ∈ kidsF f j) (h1 : nam f z = 1) : i = j := by
 obtain ⟨d, hd, hk, e, he, hz⟩ := kids_some hi
 obtain ⟨d', hd', hk', e', he', hz'⟩ := kids_some hj
 by_cases hne : d = d'
 ·rw [← at_ino hd, ← at_ino hd', hne]
 ·have := sum_two (g := namK z) (at_mem hd) (at_mem hd') hne
  have := namK_pos.2 ⟨hk, e, he, hz⟩
  have := namK_pos.2 ⟨hk', e', he', hz'⟩
  unfold nam at h1
  omega
structure TreeP (f : Fsy) : Prop where
 rows : rowsP f
 root : ∃ n, atF f 1 = some n ∧ n.kind = 2 ∧ n.links = 0
 cnt : ∀ i n, atF f i = some n → n.links = (nam f i : Int)
 kid : ∀ i z, z ∈ kidsF f i → (∃ n, atF f z = some n) ∧ ¬ z = 1
 pos : ∀ i n, atF f i = some n → ¬ i = 1 → 1 ≤ n.links
 dir : ∀ i n, atF f i = some n → n.kind = 2 → ¬ i = 1 → n.links = 1 ∧ Reach f 1 i
theorem reach_last {f : Fsy} {a b : Int} (h : Reach f a b) : ∃ q, (q = a ∨ Reach f a q) ∧ b ∈ kidsF f q := by
 induction h with
 | one h => exact ⟨_, .inl rfl, h⟩
 | @more i y z h _ ih =>
  obtain ⟨q, hq, hk⟩ := ih
  refine ⟨q, .inr ?_, hk⟩
  rcases hq with rfl | hq
  ·exact .one h
  ·exact .more h hq
theorem reach_first {f : Fsy} {a b : Int} (h : Reach f a b) : ∃ y, y ∈ kidsF f a := by
 cases h with
 | one h => exact ⟨_, h⟩
 | more h _ => exact ⟨_, h⟩
inductive RT (f : Fsy) : Int → Prop where
 | base {z : Int} : z ∈ kidsF f 1 → RT f z
 | step {p z : Int} : RT f p → z ∈ kidsF f p → RT f z
theorem rt_of {f : Fsy} {a b : Int} (h : Reach f a b) : (a = 1 ∨ RT f a) → RT f b := by
 induction h with
 | one h =>
  rintro (rfl | hr)
  ·exact .base h
  ·exact .step hr h
 | more h _ ih =>
  rintro (rfl | hr)
  ·exact ih (.inr (.base h))
  ·exact ih (.inr (.step hr h))
theorem TreeP.no1 {f : Fsy} (h : TreeP f) {i : Int} : ¬ Reach f i 1 := fun hr => by
 obtain ⟨q, _, hk⟩ := reach_last hr
 exact (h.kid q 1 hk).2 rfl
theorem TreeP.reach {f : Fsy} (h : TreeP f) {i : Int} {n : Nod} (hn : atF f i = some n) (hi : ¬ i = 1) : Reach f 1 i := by
 by_cases hk : n.kind = 2
 ·exact (h.dir i n hn hk hi).2
 ·have hp := h.pos i n hn hi
  rw [h.cnt i n hn] at hp
  obtain ⟨q, hq⟩ := (nam_pos (rows_rise h.rows)).1 (show 1 ≤ nam f i by omega)
  by_cases h1 : q = 1
  ·subst h1; exact .one hq
  ·obtain ⟨d, hd, hdk, _⟩ := kids_some hq
   exact (h.dir q d hd hdk h1).2.snoc hq
theorem TreeP.one {f : Fsy} (h : TreeP f) {i : Int} {n : Nod} (hn : atF f i = some n) (hk : n.kind = 2) (hi : ¬ i = 1) : nam f i = 1 := by
 have h1 := (h.dir i n hn hk hi).1
 rw [h.cnt i n hn] at h1
 omega
theorem TreeP.acyc {f : Fsy} (h : TreeP f) {w : Int} : ¬ Reach f w w := by
 have key : ∀ w, RT f w → ¬ Reach f w w := by
  intro w hw
  induction hw with
  | @base z hz =>
   intro hr
   obtain ⟨q, hq, hk⟩ := reach_last hr
   obtain ⟨y, hy⟩ := reach_first hr
   obtain ⟨d, hd, hdk, _⟩ := kids_some hy
   have hz1 := (h.kid 1 z hz).2
   have e := nam_two hk hz (h.one hd hdk hz1)
   subst e
   rcases hq with e | hq
   ·exact hz1 e.symm
   ·exact h.no1 hq
  | @step p z hp hz ih =>
   intro hr
   obtain ⟨q, hq, hk⟩ := reach_last hr
   obtain ⟨y, hy⟩ := reach_first hr
   obtain ⟨d, hd, hdk, _⟩ := kids_some hy
   have hz1 := (h.kid p z hz).2
   have e := nam_two hk hz (h.one hd hdk hz1)
   subst e
   rcases hq with e | hq
   ·rw [← e] at hr; exact ih hr
   ·exact ih (.more hz hq)
 intro hr
 obtain ⟨q, _, hk⟩ := reach_last hr
 obtain ⟨⟨n, hn⟩, h1⟩ := h.kid q w hk
 exact key w (rt_of (h.reach hn h1) (.inl rfl)) hr
theorem first_at1 {f : Fsy} {n : Nod} (h : f.l[0]? = some n) (hn : n.ino = 1) (hr : RiseN f.l) : atF f 1 = some n := by
 have := at_of hr (List.mem_of_getElem? h)
 rwa [hn] at this
end Go.Proofs.YtkhnialfkndiiaaGreat

namespace Go.Proofs.YtkhnialfkndiiaaGreat
open Go Go.RowKit Copyhold
open Copyhold.Name (Srt insE delE getE isAt)
theorem posI_lt {l : List Ent} {s : Txt} (h : Srt (lI l)) (hi : isB l s = true) : posI l s < l.length := by
 obtain ⟨x, hx, _⟩ := Name.get_pos h hi
 have := lt_of_some hx
 rw [lI_len] at this
 exact this
theorem get_at {l : List Ent} {s : Txt} {x : Ent} (h : Srt (lI l)) (hi : isB l s = true) (hx : l[posI l s]? = some x) : getI l s = x.ino := by
 obtain ⟨y, hy, _, hg⟩ := Name.get_pos h hi
 rw [getI_get, hg]
 have : (lI l)[Name.pos (lI l) s]? = some ((x.name, x.ino) : NEnt) := by
  unfold lI at hy ⊢
  rw [List.getElem?_map]
  have hx' : l[Name.pos (lI l) s]? = some x := hx
  unfold lI at hx'
  rw [hx']
  rfl
 rw [this] at hy
 obtain rfl := Option.some.inj hy
 rfl
theorem leave_spec (l : List Ent) (s : Txt) (hl : l.length ≤ 256) (hr : Name.Srt (lI l)) : FSpec Tryz.prog 144 [.sl 2 false (l.map entA), aS s] (.tup [.sl 2 false ((delL l s).map entA), aI (getI l s), aI (leaveE l s)]) := by
 exact spec_vc (F := Tryz.f144) 400 (
 .r 3 <| .r 2 <| .call (nplace_spec l s (by omega) hr) <|
 .r 5 <| .r 2 <| .br 17 (!(isB l s)) (fun q1 => have q1 := notT q1; have p1 := booF q1; .r 4 <| .fin (x := .tup [.sl 2 false (l.map entA), aI 0, aI 6]) (r := .tup [.sl 2 false ((delL l s).map entA), aI (getI l s), aI (leaveE l s)]) [] trivial (by
  have e : delL l s = l := if_neg (by rw [q1]; decide)
  have e2 : leaveE l s = 6 := if_neg (by rw [q1]; decide)
  rw [e, e2, get_away q1]
  exact Sub.tups ⟨by first | exact sR | exact Sub.loose _ _ _, sR, sR, trivial⟩))
 <| fun q1 => have q1 := notF q1; have p1 := booT q1; have hlt := posI_lt hr q1; .r 2 <| .val 20 (show (aI ((l.map entA).length : Int) : AV) = aI (l.length : Int) from by rw [List.length_map]) <| .mk0 24 l.length (show (l.length : Int) = ((l.length : Nat) : Int) from by omega) (by have hq := posI_le l s; simp <;> omega) (by have hq := posI_le l s; simp <;> omega) fun V1 =>
 .r 1 <| .r 3 <| .slc 2 false (l.map entA) none (some (posI l s : Int)) none 0 (posI l s) false (.inl ⟨rfl, rfl⟩) (.inr rfl) (.inl ⟨rfl, fun h => by cases h⟩) (by have hq := posI_le l s; first | omega | (rw [List.length_map]; omega) | (simp <;> omega)) (by have hq := posI_le l s; first | omega | (rw [List.length_map]; omega) | (simp <;> omega)) <|
 .app 24 V1 ([] : List (List AV)) (((l.map entA).take (posI l s)).drop 0) (by have hq := posI_le l s; simp <;> omega) (by have hq := posI_le l s; simp <;> omega) fun V2 =>
 .r 1 <| .pick [0, 1, 2, 3, 4, 6, 7, 8, 9] <| .run 4 [rng .i64 ((posI l s : Int) + 1)] ⟨rng64 (by omega) (by omega), trivial⟩ <|
 .slc 2 false (l.map entA) (some ((posI l s : Int) + 1)) none none (posI l s + 1) ((l.map entA).length) false (.inr (congrArg some (by omega))) (.inl ⟨rfl, rfl⟩) (.inl ⟨rfl, fun h => by cases h⟩) (by have hq := posI_le l s; first | omega | (rw [List.length_map]; omega) | (simp <;> omega)) (by have hq := posI_le l s; first | omega | (rw [List.length_map]; omega) | (simp <;> omega)) <|
 .r 2 <| .idxM l entA (posI l s) (m := (posI l s : Int)) rfl (posI_lt hr (by assumption)) fun x1 hx1 =>
 .r 1 <| .fork <| .alt (.app 24 V2 (([] : List (List AV)) ++ (((l.map entA).take (posI l s)).drop 0)) (((l.map entA).take ((l.map entA).length)).drop (posI l s + 1)) (by have hq := posI_le l s; simp <;> omega) (by have hq := posI_le l s; simp <;> omega) fun V3 =>
 .pick [10, 11, 12, 13] <| .r 4 <| .frz 21 [4, 5, 6] [] [V3 = V3, (([] : List (List AV)) ++ (((l.map entA).take (posI l s)).drop 0)).length + (((l.map entA).take ((l.map entA).length)).drop (posI l s + 1)).length = ((([] : List (List AV)) ++ (((l.map entA).take (posI l s)).drop 0)) ++ (((l.map entA).take ((l.map entA).length)).drop (posI l s + 1))).length] ⟨rfl, (by first | rfl | (simp; done) | (simp; omega)), trivial⟩ <|
 .fin (x := .tup [.sl 2 false ((([] : List (List AV)) ++ (((l.map entA).take (posI l s)).drop 0)) ++ (((l.map entA).take ((l.map entA).length)).drop (posI l s + 1))), aI x1.ino, aI 0]) (r := .tup [.sl 2 false ((delL l s).map entA), aI (getI l s), aI (leaveE l s)]) [] trivial (by
  have e : delL l s = l.take (posI l s) ++ l.drop (posI l s + 1) := if_pos q1
  have e2 : leaveE l s = 0 := if_pos q1
  rw [e, e2, get_at hr q1 hx1]
  exact Sub.tups ⟨Sub.of_eq (congrArg (AV.sl 2 false) (by simp [entA, List.map_take, List.map_drop, take_all])), sR, sR, trivial⟩))
 <| .r 1 <| .pick [5, 11, 12, 13] <| .app 24 V2 (([] : List (List AV)) ++ (((l.map entA).take (posI l s)).drop 0)) (((l.map entA).take ((l.map entA).length)).drop (posI l s + 1)) (by have hq := posI_le l s; simp <;> omega) (by have hq := posI_le l s; simp <;> omega) fun V4 =>
 .r 3 <| .frz 21 [4, 5, 6] [] [V4 = V4, (([] : List (List AV)) ++ (((l.map entA).take (posI l s)).drop 0)).length + (((l.map entA).take ((l.map entA).length)).drop (posI l s + 1)).length = ((([] : List (List AV)) ++ (((l.map entA).take (posI l s)).drop 0)) ++ (((l.map entA).take ((l.map entA).length)).drop (posI l s + 1))).length] ⟨rfl, (by first | rfl | (simp; done) | (simp; omega)), trivial⟩ <|
 .fin (x := .tup [.sl 2 false ((([] : List (List AV)) ++ (((l.map entA).take (posI l s)).drop 0)) ++ (((l.map entA).take ((l.map entA).length)).drop (posI l s + 1))), aI x1.ino, aI 0]) (r := .tup [.sl 2 false ((delL l s).map entA), aI (getI l s), aI (leaveE l s)]) [] trivial (by
  have e : delL l s = l.take (posI l s) ++ l.drop (posI l s + 1) := if_pos q1
  have e2 : leaveE l s = 0 := if_pos q1
  rw [e, e2, get_at hr q1 hx1]
  exact Sub.tups ⟨Sub.of_eq (congrArg (AV.sl 2 false) (by simp [entA, List.map_take, List.map_drop, take_all])), sR, sR, trivial⟩)) Tryz.func144 rfl (by kernel_rfl) (by kernel_rfl)
noncomputable def leaveF (f : Fsy) (d : Int) (s : Txt) : Fsy := putF f (withL (findN f d) (delL (findN f d).l s))
noncomputable def awayN (n : Nod) : Nod := ⟨n.ino, n.kind, n.links - 1, n.text, n.l⟩
noncomputable def awayF (f : Fsy) (d : Int) (s : Txt) (n : Nod) : Fsy := if n.links - 1 < 1 then outF (leaveF f d s) n.ino else putF (leaveF f d s) (awayN n)
theorem dleave_spec (f : Fsy) (dir : Int) (s : Txt) (okf : OkF f) (hp : rowsP f) (hs : s.length ≤ 1000000) : FSpec Tryz.prog 125 [.agg (fsyA f), aI dir, aS s] (.agg (fsyA (leaveF f dir s))) := by
 have hl := hp.1
 have hr := rows_rise hp
 exact spec_vc (F := Tryz.f125) 400 (
 .new fun b1 => .new fun b2 => .run 2 [b1 = b1] rt1 <|
 .call (tfind_spec f dir (by omega) hr) <|
 .r 3 <| .new fun b3 => .run 2 [b3 = b3] rt1 <|
 .run 3 [b3 = b3] rt1 <|
 .call (leave_spec ((findN f dir).l) s (find_srt hp dir).2 (find_srt hp dir).1) <|
 .run 6 [b3 = b3] rt1 <|
 .run 2 [b1 = b1, b3 = b3] rt2 <|
 .callS (args0 := [.agg (fsyA f), .agg [aI ((findN f dir).ino), aI ((findN f dir).kind), aI ((findN f dir).links), aS ((findN f dir).text), .sl 2 false ((delL ((findN f dir).l) s).map entA)]]) (args := [.agg (fsyA f), .agg [aI ((withL (findN f dir) (delL (findN f dir).l s)).ino), aI ((withL (findN f dir) (delL (findN f dir).l s)).kind), aI ((withL (findN f dir) (delL (findN f dir).l s)).links), aS ((withL (findN f dir) (delL (findN f dir).l s)).text), .sl 2 false ((withL (findN f dir) (delL (findN f dir).l s)).l.map entA)]]) sr2 (put_spec f (withL (findN f dir) (delL (findN f dir).l s)) (find_I64 okf hp dir) (by omega) hr) <|
 .run 1 [b2 = b2] rt1 <|
 .fin (x := .agg [.sl 5 false ((putF f (withL (findN f dir) (delL (findN f dir).l s))).l.map nodA), aI ((putF f (withL (findN f dir) (delL (findN f dir).l s))).next)]) (r := .agg (fsyA (leaveF f dir s))) [b2 = b2] rt1 (by exact sR)) Tryz.func125 rfl (by kernel_rfl) (by kernel_rfl)
theorem leave_le (f : Fsy) (d : Int) (s : Txt) : (leaveF f d s).l.length ≤ f.l.length + 1 := putN_le _ _
theorem leave_rise {f : Fsy} (h : rowsP f) (d : Int) (s : Txt) : RiseN (leaveF f d s).l := put_rise (rows_rise h)
theorem away_spec (f : Fsy) (dir : Int) (s : Txt) (n : Nod) (okf : OkF f) (hp : rowsP f) (hs : s.length ≤ 1000000) (hn : I64 n.ino ∧ n.ino < 9223372036854775807) (hk : 0 ≤ n.links ∧ n.links ≤ 1000) : FSpec Tryz.prog 124 [.agg (fsyA f), aI dir, aS s, .agg (nodA n)] (.agg (fsyA (awayF f dir s n))) := by
 have hl := hp.1
 have hr := rows_rise hp
 exact spec_vc (F := Tryz.f124) 400 (
 .new fun b1 => .new fun b2 => .new fun b3 => .run 3 [b1 = b1] rt1 <|
 .call (dleave_spec f dir s okf hp (by omega)) <|
 .run 1 [b1 = b1] rt1 <|
 .run 5 [b2 = b2, rng .i64 (n.links - 1), b2 = b2] ⟨rfl, rng64 (by omega) (by omega), rfl, trivial⟩ <|
 .run 3 [b2 = b2] rt1 <|
 .br 19 (decide ((n.links - 1) < 1)) (fun q1 => have p1 := decT q1; .run 3 [b1 = b1, b2 = b2] rt2 <|
 .call (out_spec (leaveF f dir s) n.ino (by have := leave_le f dir s; omega) (leave_rise hp dir s)) <|
 .run 1 [b3 = b3] rt1 <|
 .fin (x := .agg [.sl 5 false ((outF (leaveF f dir s) n.ino).l.map nodA), aI ((outF (leaveF f dir s) n.ino).next)]) (r := .agg (fsyA (awayF f dir s n))) [b3 = b3] rt1 (by
  have e : awayF f dir s n = _ := if_pos (by omega)
  rw [e]
  exact sR))
 <| fun q1 => have p1 := decF q1; .run 2 [b1 = b1, b2 = b2] rt2 <|
 .callS (args0 := [.agg [.sl 5 false ((leaveF f dir s).l.map nodA), aI ((leaveF f dir s).next)], .agg [aI n.ino, aI n.kind, aI (n.links - 1), aS n.text, .sl 2 false (n.l.map entA)]]) (args := [.agg [.sl 5 false ((leaveF f dir s).l.map nodA), aI ((leaveF f dir s).next)], .agg [aI ((awayN n).ino), aI ((awayN n).kind), aI ((awayN n).links), aS ((awayN n).text), .sl 2 false ((awayN n).l.map entA)]]) sr2 (put_spec (leaveF f dir s) (awayN n) hn (by have := leave_le f dir s; omega) (leave_rise hp dir s)) <|
 .run 1 [b3 = b3] rt1 <|
 .fin (x := .agg [.sl 5 false ((putF (leaveF f dir s) (awayN n)).l.map nodA), aI ((putF (leaveF f dir s) (awayN n)).next)]) (r := .agg (fsyA (awayF f dir s n))) [b3 = b3] rt1 (by
  have e : awayF f dir s n = _ := if_neg (by omega)
  rw [e]
  exact sR)) Tryz.func124 rfl (by kernel_rfl) (by kernel_rfl)
end Go.Proofs.YtkhnialfkndiiaaGreat

namespace Go.Proofs.YtkhnialfkndiiaaGreat
open Go Go.RowKit Copyhold
noncomputable def takeErr (f : Fsy) (d : Int) (s : Txt) : Int := firstE [lookE f d s, whenE (fullB (lookN f d s)) 11]
noncomputable def takeF (f : Fsy) (d : Int) (s : Txt) : Fsy := if takeErr f d s = 0 then awayF f d s (lookN f d s) else f
theorem look_node {f : Fsy} {d : Int} {s : Txt} (okf : OkF f) (hp : rowsP f) : OkN (lookN f d s) ∧ (lookN f d s).ino < 9223372036854775807 ∧ 0 ≤ (lookN f d s).links ∧ (lookN f d s).links ≤ 1000 ∧ (lookN f d s).l.length ≤ 8796093022207 := by
 unfold lookN
 split
 ·have hb := find_I64 okf hp (lookI f d s)
  have hk := findN_ok okf (lookI f d s)
  refine ⟨hk, hb.2, ?_, ?_, hk.2.2.2.2.1⟩
  ·by_cases h : findB f (lookI f d s) = true
   ·exact ((rowsP_iff.1 hp).2.2.1 _ (find_mem h)).1.2.1
   ·rw [(at_no (at_none (by simpa using h))).2]; decide
  ·by_cases h : findB f (lookI f d s) = true
   ·have := ((rowsP_iff.1 hp).2.2.1 _ (find_mem h)).1.2.2.1; omega
   ·rw [(at_no (at_none (by simpa using h))).2]; decide
 ·exact ⟨nod0_ok, by decide, by decide, by decide, by decide⟩
theorem take1_spec (f : Fsy) (dir : Int) (s : Txt) (n : Nod) (okf : OkF f) (hp : rowsP f) (hs : s.length ≤ 1000000) (hn : I64 n.ino ∧ n.ino < 9223372036854775807) (hk : 0 ≤ n.links ∧ n.links ≤ 1000) : FSpec Tryz.prog 140 [.dptr (fsyA f), .dptr [aI dir], .dptr [aS s], .dptr (nodA n)] (.agg (fsyA (awayF f dir s n))) := by
 exact spec_vc (F := Tryz.f140) 400 (
 .new fun b1 => .r 4 <| .call (away_spec f dir s n okf hp hs hn hk) <|
 .run 1 [b1 = b1] rt1 <|
 .fin (x := .agg [.sl 5 false ((awayF f dir s n).l.map nodA), aI ((awayF f dir s n).next)]) (r := .agg (fsyA (awayF f dir s n))) [b1 = b1] rt1 (by exact sR)) Tryz.func140 rfl (by kernel_rfl) (by kernel_rfl)
theorem unless2_spec (e : Int) (f : Fsy) (dir : Int) (s : Txt) (n : Nod) (okf : OkF f) (hp : rowsP f) (hs : s.length ≤ 1000000) (hn : I64 n.ino ∧ n.ino < 9223372036854775807) (hk : 0 ≤ n.links ∧ n.links ≤ 1000) : FSpec Tryz.prog 118 [.agg (fsyA f), aI e, .clo 140 [.dptr (fsyA f), .dptr [aI dir], .dptr [aS s], .dptr (nodA n)]] (.tup [.agg (fsyA (if e = 0 then awayF f dir s n else f)), aI e]) := by
 exact spec_vc (F := Tryz.f118) 400 (
 .new fun b1 => .new fun b2 => .r 1 <| .r 2 <| .br 9 (e != 0) (fun q1 => have p1 := bneT q1; .run 4 [b1 = b1, b2 = b2] rt2 <|
 .fin (x := .tup [.agg (fsyA f), aI e]) (r := .tup [.agg (fsyA (if e = 0 then awayF f dir s n else f)), aI e]) [b2 = b2] rt1 (by
  rw [if_neg (show ¬ e = 0 from by omega)]
  exact sR))
 <| fun q1 => have p1 := bneF q1; .r 1 <| .call (take1_spec f dir s n okf hp hs hn hk) <|
 .run 2 [b2 = b2] rt1 <|
 .fin (x := .tup [.agg [.sl 5 false ((awayF f dir s n).l.map nodA), aI ((awayF f dir s n).next)], aI 0]) (r := .tup [.agg (fsyA (if e = 0 then awayF f dir s n else f)), aI e]) [b2 = b2] rt1 (by
  rw [if_pos (show e = 0 from by omega), show e = 0 from by omega]
  exact sR)) Tryz.func118 rfl (by kernel_rfl) (by kernel_rfl)
theorem take_spec (f : Fsy) (dir : Int) (s : Txt) (okf : OkF f) (hp : rowsP f) (hs : s.length ≤ 1000000) : FSpec Tryz.prog 114 [.agg (fsyA f), aI dir, aS s] (.tup [.agg (fsyA (takeF f dir s)), aI (takeErr f dir s)]) := by
 have hl := hp.1
 have hr := rows_rise hp
 exact spec_vc (F := Tryz.f114) 400 (
 .new fun b1 => .new fun b2 => .new fun b3 => .new fun b4 => .r 1 <| .run 3 [b1 = b1, b2 = b2, b3 = b3] rt3 <|
 .call (look_spec f dir s hp hs) <|
 .r 3 <| .new fun b5 => .run 2 [b5 = b5] rt1 <|
 .run 2 [b5 = b5] rt1 <|
 .call (full_spec (lookN f dir s) (look_node okf hp).2.2.2.2) <|
 .call (when_spec (fullB (lookN f dir s)) 11) <|
 .r 1 <| .callS (args0 := [.sl 1 true ([[aI (lookE f dir s)], [aI (whenE (fullB (lookN f dir s)) 11)]])]) (args := [.sl 1 false ([(lookE f dir s), (whenE (fullB (lookN f dir s)) 11)].map intA)]) ⟨first_lit2 (lookE f dir s) (whenE (fullB (lookN f dir s)) 11), trivial⟩ (first_spec [(lookE f dir s), (whenE (fullB (lookN f dir s)) 11)] (by simp)) <|
 .r 1 <| .frz 3 [3, 4, 5, 6, 7, 8, 9] [4, 5, 6, 8] [b1 = b1] rt1 <|
 .frz 4 [3, 4, 5, 6, 7, 8, 9] [5, 6, 8] [b2 = b2] rt1 <|
 .frz 5 [3, 4, 5, 6, 7, 8, 9] [6, 8] [b3 = b3] rt1 <|
 .frz 8 [3, 4, 5, 6, 7, 8, 9] [6] [b5 = b5] rt1 <|
 .r 3 <| .callS (args0 := [.agg (fsyA f), aI (firstE [(lookE f dir s), (whenE (fullB (lookN f dir s)) 11)]), .clo 140 [.dptr (fsyA f), .dptr [aI dir], .dptr [aS s], .dptr [aI ((lookN f dir s).ino), aI ((lookN f dir s).kind), aI ((lookN f dir s).links), aS ((lookN f dir s).text), .sl 2 false ((lookN f dir s).l.map entA)]]]) (args := [.agg (fsyA f), aI (firstE [(lookE f dir s), (whenE (fullB (lookN f dir s)) 11)]), .clo 140 [.dptr (fsyA f), .dptr [aI dir], .dptr [aS s], .dptr [aI ((lookN f dir s).ino), aI ((lookN f dir s).kind), aI ((lookN f dir s).links), aS ((lookN f dir s).text), .sl 2 false ((lookN f dir s).l.map entA)]]]) sr3 (unless2_spec (firstE [(lookE f dir s), (whenE (fullB (lookN f dir s)) 11)]) f dir s (lookN f dir s) okf hp hs ⟨(look_node okf hp).1.1, (look_node okf hp).2.1⟩ ⟨(look_node okf hp).2.2.1, (look_node okf hp).2.2.2.1⟩) <|
 .run 4 [b4 = b4] rt1 <|
 .fin (x := .tup [.agg [.sl 5 false ((if firstE [(lookE f dir s), (whenE (fullB (lookN f dir s)) 11)] = 0 then awayF f dir s (lookN f dir s) else f).l.map nodA), aI ((if firstE [(lookE f dir s), (whenE (fullB (lookN f dir s)) 11)] = 0 then awayF f dir s (lookN f dir s) else f).next)], aI (firstE [(lookE f dir s), (whenE (fullB (lookN f dir s)) 11)])]) (r := .tup [.agg (fsyA (takeF f dir s)), aI (takeErr f dir s)]) [b4 = b4] rt1 (by exact sR)) Tryz.func114 rfl (by kernel_rfl) (by kernel_rfl)
theorem first_lit6 {t : Bool} (a b c d e g : Int) : Sub (.sl 1 t [[aI a], [aI b], [aI c], [aI d], [aI e], [aI g]]) (.sl 1 false ([a, b, c, d, e, g].map intA)) := Sub.loose _ _ _
theorem first_lit4 {t : Bool} (a b c d : Int) : Sub (.sl 1 t [[aI a], [aI b], [aI c], [aI d]]) (.sl 1 false ([a, b, c, d].map intA)) := Sub.loose _ _ _
noncomputable def giveN (n : Nod) : Nod := ⟨n.ino, n.kind, n.links + 1, n.text, n.l⟩
noncomputable def giveF0 (f : Fsy) (d : Int) (s : Txt) (i : Int) (n : Nod) : Fsy := putF (enterF f d s i) (giveN n)
noncomputable def giveErr (f : Fsy) (d : Int) (s : Txt) (i : Int) : Int := firstE [dirE f d, whenE (!(findB f i)) 6, whenE ((findN f i).kind == 2) 9, checkE s, whenE (isB (dirN f d).l s) 7, whenE (decide (((dirN f d).l.length : Int) ≥ 256) || decide ((findN f i).links ≥ 64)) 12]
noncomputable def giveF (f : Fsy) (d : Int) (s : Txt) (i : Int) : Fsy := if giveErr f d s i = 0 then giveF0 f d s i (findN f i) else f
theorem find_links {f : Fsy} (hp : rowsP f) (i : Int) : 0 ≤ (findN f i).links ∧ (findN f i).links ≤ 64 := by
 by_cases h : findB f i = true
 ·have := ((rowsP_iff.1 hp).2.2.1 _ (find_mem h)).1
  exact ⟨this.2.1, this.2.2.1⟩
 ·rw [(at_no (at_none (by simpa using h))).2]; decide
theorem give1_spec (f : Fsy) (dir : Int) (s : Txt) (i : Int) (n : Nod) (b : Nat) (okf : OkF f) (hp : rowsP f) (hs : s.length ≤ 1000000) (hi : I64 i) (hn : I64 n.ino ∧ n.ino < 9223372036854775807) (hk : 0 ≤ n.links ∧ n.links ≤ 1000) : LSpec Tryz.prog 119 [.ptr 12 b 0, .dptr (fsyA f), .dptr [aI dir], .dptr [aS s], .dptr [aI i]] (.box b 59 (nodA n)) (.agg (fsyA (giveF0 f dir s i n))) := by
 have hl := hp.1
 have hr := rows_rise hp
 exact lspec_vc (q := 12) (F := Tryz.f119) 400 (
 .new fun b1 => .run 5 [b = b, rng .i64 (n.links + 1), b = b] ⟨rfl, rng64 (by omega) (by omega), rfl, trivial⟩ <|
 .ord [0, 1, 2, 3, 5, 4, 6, 7] <| .run 5 [b = b] rt1 <|
 .call (denter_spec f dir s i okf hp (by omega) hi) <|
 .callS (args0 := [.agg [.sl 5 false ((enterF f dir s i).l.map nodA), aI ((enterF f dir s i).next)], .agg [aI n.ino, aI n.kind, aI (n.links + 1), aS n.text, .sl 2 false (n.l.map entA)]]) (args := [.agg [.sl 5 false ((enterF f dir s i).l.map nodA), aI ((enterF f dir s i).next)], .agg [aI ((giveN n).ino), aI ((giveN n).kind), aI ((giveN n).links), aS ((giveN n).text), .sl 2 false ((giveN n).l.map entA)]]) sr2 (put_spec (enterF f dir s i) (giveN n) hn (by have := enter_le f dir s i; omega) (enter_rise hp dir s i)) <|
 .run 1 [b1 = b1] rt1 <|
 .fin (x := .agg [.sl 5 false ((putF (enterF f dir s i) (giveN n)).l.map nodA), aI ((putF (enterF f dir s i) (giveN n)).next)]) (r := .agg (fsyA (giveF0 f dir s i n))) [b1 = b1] rt1 (by exact sR)) Tryz.func119 rfl (by kernel_rfl) (by kernel_rfl)
theorem unless3_spec (e : Int) (f : Fsy) (dir : Int) (s : Txt) (i : Int) (n : Nod) (b : Nat) (okf : OkF f) (hp : rowsP f) (hs : s.length ≤ 1000000) (hi : I64 i) (hn : I64 n.ino ∧ n.ino < 9223372036854775807) (hk : 0 ≤ n.links ∧ n.links ≤ 1000) : LSpec Tryz.prog 118 [.agg (fsyA f), aI e, .clo 119 [.ptr 12 b 0, .dptr (fsyA f), .dptr [aI dir], .dptr [aS s], .dptr [aI i]]] (.box b 59 (nodA n)) (.tup [.agg (fsyA (if e = 0 then giveF0 f dir s i n else f)), aI e]) := by
 exact lspec_vc (q := 12) (F := Tryz.f118) 400 (
 .new fun b1 => .new fun b2 => .r 1 <| .r 2 <| .br 9 (e != 0) (fun q1 => have p1 := bneT q1; .run 4 [b1 = b1, b2 = b2] rt2 <|
 .fin (x := .tup [.agg (fsyA f), aI e]) (r := .tup [.agg (fsyA (if e = 0 then giveF0 f dir s i n else f)), aI e]) [b2 = b2] rt1 (by
  rw [if_neg (show ¬ e = 0 from by omega)]
  exact sR))
 <| fun q1 => have p1 := bneF q1; .lent 1 <| .r 1 <| .lop (lcR Tryz.prog 12) ((119, [.ptr 12 b 0, .dptr (fsyA f), .dptr [aI dir], .dptr [aS s], .dptr [aI i]], some 13), .box b 59 (nodA n)) (fun (_ : Unit) σ => (σ.put (some 13) (.agg [.sl 5 false ((giveF0 f dir s i n).l.map nodA), aI ((giveF0 f dir s i n).next)])).setB 12 gone) (rule_lent (args' := [.ptr 12 b 0, .dptr (fsyA f), .dptr [aI dir], .dptr [aS s], .dptr [aI i]]) sr5 (give1_spec f dir s i n b okf hp hs hi hn hk)) fun _ =>
 .run 2 [b2 = b2] rt1 <|
 .fin (x := .tup [.agg [.sl 5 false ((giveF0 f dir s i n).l.map nodA), aI ((giveF0 f dir s i n).next)], aI 0]) (r := .tup [.agg (fsyA (if e = 0 then giveF0 f dir s i n else f)), aI e]) [b2 = b2] rt1 (by
  rw [if_pos (show e = 0 from by omega), show e = 0 from by omega]
  exact sR)) Tryz.func118 rfl (by kernel_rfl) (by kernel_rfl)
theorem give_spec (f : Fsy) (dir : Int) (s : Txt) (i : Int) (okf : OkF f) (hp : rowsP f) (hs : s.length ≤ 1000000) (hi : I64 i) : FSpec Tryz.prog 83 [.agg (fsyA f), aI dir, aS s, aI i] (.tup [.agg (fsyA (giveF f dir s i)), aI (giveErr f dir s i)]) := by
 have hl := hp.1
 have hr := rows_rise hp
 exact spec_vc (F := Tryz.f83) 400 (
 .new fun b1 => .new fun b2 => .new fun b3 => .new fun b4 => .new fun b5 => .r 1 <| .run 2 [b1 = b1, b2 = b2] rt2 <|
 .call (dir_spec f dir hp) <|
 .r 3 <| .new fun b6 => .run 2 [b6 = b6] rt1 <|
 .run 2 [b1 = b1, b4 = b4] rt2 <|
 .call (tfind_spec f i (by omega) hr) <|
 .r 3 <| .new fun b7 => .run 2 [b7 = b7] rt1 <|
 .run 3 [b6 = b6, b3 = b3] rt2 <|
 .call (nfind_spec ((dirN f dir).l) s (by have := (dir_srt hp dir).2; omega) (dir_srt hp dir).1) <|
 .r 5 <| .ord [0, 1, 2, 4, 5, 6, 8, 10, 12, 13, 14, 15, 3, 7, 9, 11, 16, 17, 18, 19, 20, 21, 22, 23, 24] <| .run 11 [b7 = b7, b3 = b3, b6 = b6] rt3 <|
 .val 49 (show (aI (((dirN f dir).l.map entA).length : Int) : AV) = aI (((dirN f dir).l).length : Int) from by rw [List.length_map]) <| .r 1 <| .call (when_spec (!(findB f i)) 6) <|
 .call (when_spec (((findN f i).kind) == 2) 9) <|
 .call (check_spec s (by omega)) <|
 .call (when_spec (isB ((dirN f dir).l) s) 7) <|
 .r 1 <| .br 51 (decide ((((dirN f dir).l).length : Int) ≥ 256)) (fun q1 => have p1 := decT q1; .r 4 <| .call (when_spec true 12) <|
 .r 1 <| .callS (args0 := [.sl 1 true ([[aI (dirE f dir)], [aI (whenE (!(findB f i)) 6)], [aI (whenE (((findN f i).kind) == 2) 9)], [aI (checkE s)], [aI (whenE (isB ((dirN f dir).l) s) 7)], [aI (whenE true 12)]])]) (args := [.sl 1 false ([(dirE f dir), (whenE (!(findB f i)) 6), (whenE (((findN f i).kind) == 2) 9), (checkE s), (whenE (isB ((dirN f dir).l) s) 7), (whenE true 12)].map intA)]) ⟨first_lit6 (dirE f dir) (whenE (!(findB f i)) 6) (whenE (((findN f i).kind) == 2) 9) (checkE s) (whenE (isB ((dirN f dir).l) s) 7) (whenE true 12), trivial⟩ (first_spec [(dirE f dir), (whenE (!(findB f i)) 6), (whenE (((findN f i).kind) == 2) 9), (checkE s), (whenE (isB ((dirN f dir).l) s) 7), (whenE true 12)] (by simp)) <|
 .r 1 <| .frz 4 [4, 5, 6, 7, 8, 9, 11, 12, 51, 55] [5, 6, 7, 8, 12] [b1 = b1] rt1 <|
 .frz 5 [4, 5, 6, 7, 8, 9, 11, 12, 51, 55] [6, 7, 8, 12] [b2 = b2] rt1 <|
 .frz 6 [4, 5, 6, 7, 8, 9, 11, 12, 51, 55] [7, 8, 12] [b3 = b3] rt1 <|
 .frz 7 [4, 5, 6, 7, 8, 9, 11, 12, 51, 55] [8, 12] [b4 = b4] rt1 <|
 .lent 3 <| .r 3 <| .lop (lcR Tryz.prog 12) ((118, [.agg (fsyA f), aI (firstE [(dirE f dir), (whenE (!(findB f i)) 6), (whenE (((findN f i).kind) == 2) 9), (checkE s), (whenE (isB ((dirN f dir).l) s) 7), (whenE true 12)]), .clo 119 [.ptr 12 b7 0, .dptr (fsyA f), .dptr [aI dir], .dptr [aS s], .dptr [aI i]]], some 62), .box b7 59 [aI ((findN f i).ino), aI ((findN f i).kind), aI ((findN f i).links), aS ((findN f i).text), .sl 2 false ((findN f i).l.map entA)]) (fun (_ : Unit) σ => (σ.put (some 62) (.tup [.agg [.sl 5 false ((if firstE [(dirE f dir), (whenE (!(findB f i)) 6), (whenE (((findN f i).kind) == 2) 9), (checkE s), (whenE (isB ((dirN f dir).l) s) 7), (whenE true 12)] = 0 then giveF0 f dir s i (findN f i) else f).l.map nodA), aI ((if firstE [(dirE f dir), (whenE (!(findB f i)) 6), (whenE (((findN f i).kind) == 2) 9), (checkE s), (whenE (isB ((dirN f dir).l) s) 7), (whenE true 12)] = 0 then giveF0 f dir s i (findN f i) else f).next)], aI (firstE [(dirE f dir), (whenE (!(findB f i)) 6), (whenE (((findN f i).kind) == 2) 9), (checkE s), (whenE (isB ((dirN f dir).l) s) 7), (whenE true 12)])])).setB 12 gone) (rule_lent (args' := [.agg (fsyA f), aI (firstE [(dirE f dir), (whenE (!(findB f i)) 6), (whenE (((findN f i).kind) == 2) 9), (checkE s), (whenE (isB ((dirN f dir).l) s) 7), (whenE true 12)]), .clo 119 [.ptr 12 b7 0, .dptr (fsyA f), .dptr [aI dir], .dptr [aS s], .dptr [aI i]]]) sr3 (unless3_spec (firstE [(dirE f dir), (whenE (!(findB f i)) 6), (whenE (((findN f i).kind) == 2) 9), (checkE s), (whenE (isB ((dirN f dir).l) s) 7), (whenE true 12)]) f dir s i (findN f i) b7 okf hp hs hi (find_I64 okf hp i) (by have := find_links hp i; omega))) fun _ =>
 .run 4 [b5 = b5] rt1 <|
 .fin (x := .tup [.agg [.sl 5 false ((if firstE [(dirE f dir), (whenE (!(findB f i)) 6), (whenE (((findN f i).kind) == 2) 9), (checkE s), (whenE (isB ((dirN f dir).l) s) 7), (whenE true 12)] = 0 then giveF0 f dir s i (findN f i) else f).l.map nodA), aI ((if firstE [(dirE f dir), (whenE (!(findB f i)) 6), (whenE (((findN f i).kind) == 2) 9), (checkE s), (whenE (isB ((dirN f dir).l) s) 7), (whenE true 12)] = 0 then giveF0 f dir s i (findN f i) else f).next)], aI (firstE [(dirE f dir), (whenE (!(findB f i)) 6), (whenE (((findN f i).kind) == 2) 9), (checkE s), (whenE (isB ((dirN f dir).l) s) 7), (whenE true 12)])]) (r := .tup [.agg (fsyA (giveF f dir s i)), aI (giveErr f dir s i)]) [b5 = b5] rt1 (by
  have e : giveErr f dir s i = firstE [(dirE f dir), (whenE (!(findB f i)) 6), (whenE (((findN f i).kind) == 2) 9), (checkE s), (whenE (isB ((dirN f dir).l) s) 7), (whenE true 12)] := by
   unfold giveErr
   simp only [q1, Bool.true_or, Bool.false_or, Bool.not_true, Bool.not_false]
  unfold giveF
  rw [e]
  exact sR))
 <| fun q1 => have p1 := decF q1; .run 4 [b7 = b7] rt1 <|
 .call (when_spec (decide (((findN f i).links) ≥ 64)) 12) <|
 .r 1 <| .callS (args0 := [.sl 1 true ([[aI (dirE f dir)], [aI (whenE (!(findB f i)) 6)], [aI (whenE (((findN f i).kind) == 2) 9)], [aI (checkE s)], [aI (whenE (isB ((dirN f dir).l) s) 7)], [aI (whenE (decide (((findN f i).links) ≥ 64)) 12)]])]) (args := [.sl 1 false ([(dirE f dir), (whenE (!(findB f i)) 6), (whenE (((findN f i).kind) == 2) 9), (checkE s), (whenE (isB ((dirN f dir).l) s) 7), (whenE (decide (((findN f i).links) ≥ 64)) 12)].map intA)]) ⟨first_lit6 (dirE f dir) (whenE (!(findB f i)) 6) (whenE (((findN f i).kind) == 2) 9) (checkE s) (whenE (isB ((dirN f dir).l) s) 7) (whenE (decide (((findN f i).links) ≥ 64)) 12), trivial⟩ (first_spec [(dirE f dir), (whenE (!(findB f i)) 6), (whenE (((findN f i).kind) == 2) 9), (checkE s), (whenE (isB ((dirN f dir).l) s) 7), (whenE (decide (((findN f i).links) ≥ 64)) 12)] (by simp)) <|
 .r 1 <| .frz 4 [4, 5, 6, 7, 8, 9, 11, 12, 51] [5, 6, 7, 8, 12] [b1 = b1] rt1 <|
 .frz 5 [4, 5, 6, 7, 8, 9, 11, 12, 51] [6, 7, 8, 12] [b2 = b2] rt1 <|
 .frz 6 [4, 5, 6, 7, 8, 9, 11, 12, 51] [7, 8, 12] [b3 = b3] rt1 <|
 .frz 7 [4, 5, 6, 7, 8, 9, 11, 12, 51] [8, 12] [b4 = b4] rt1 <|
 .lent 3 <| .r 3 <| .lop (lcR Tryz.prog 12) ((118, [.agg (fsyA f), aI (firstE [(dirE f dir), (whenE (!(findB f i)) 6), (whenE (((findN f i).kind) == 2) 9), (checkE s), (whenE (isB ((dirN f dir).l) s) 7), (whenE (decide (((findN f i).links) ≥ 64)) 12)]), .clo 119 [.ptr 12 b7 0, .dptr (fsyA f), .dptr [aI dir], .dptr [aS s], .dptr [aI i]]], some 62), .box b7 59 [aI ((findN f i).ino), aI ((findN f i).kind), aI ((findN f i).links), aS ((findN f i).text), .sl 2 false ((findN f i).l.map entA)]) (fun (_ : Unit) σ => (σ.put (some 62) (.tup [.agg [.sl 5 false ((if firstE [(dirE f dir), (whenE (!(findB f i)) 6), (whenE (((findN f i).kind) == 2) 9), (checkE s), (whenE (isB ((dirN f dir).l) s) 7), (whenE (decide (((findN f i).links) ≥ 64)) 12)] = 0 then giveF0 f dir s i (findN f i) else f).l.map nodA), aI ((if firstE [(dirE f dir), (whenE (!(findB f i)) 6), (whenE (((findN f i).kind) == 2) 9), (checkE s), (whenE (isB ((dirN f dir).l) s) 7), (whenE (decide (((findN f i).links) ≥ 64)) 12)] = 0 then giveF0 f dir s i (findN f i) else f).next)], aI (firstE [(dirE f dir), (whenE (!(findB f i)) 6), (whenE (((findN f i).kind) == 2) 9), (checkE s), (whenE (isB ((dirN f dir).l) s) 7), (whenE (decide (((findN f i).links) ≥ 64)) 12)])])).setB 12 gone) (rule_lent (args' := [.agg (fsyA f), aI (firstE [(dirE f dir), (whenE (!(findB f i)) 6), (whenE (((findN f i).kind) == 2) 9), (checkE s), (whenE (isB ((dirN f dir).l) s) 7), (whenE (decide (((findN f i).links) ≥ 64)) 12)]), .clo 119 [.ptr 12 b7 0, .dptr (fsyA f), .dptr [aI dir], .dptr [aS s], .dptr [aI i]]]) sr3 (unless3_spec (firstE [(dirE f dir), (whenE (!(findB f i)) 6), (whenE (((findN f i).kind) == 2) 9), (checkE s), (whenE (isB ((dirN f dir).l) s) 7), (whenE (decide (((findN f i).links) ≥ 64)) 12)]) f dir s i (findN f i) b7 okf hp hs hi (find_I64 okf hp i) (by have := find_links hp i; omega))) fun _ =>
 .run 4 [b5 = b5] rt1 <|
 .fin (x := .tup [.agg [.sl 5 false ((if firstE [(dirE f dir), (whenE (!(findB f i)) 6), (whenE (((findN f i).kind) == 2) 9), (checkE s), (whenE (isB ((dirN f dir).l) s) 7), (whenE (decide (((findN f i).links) ≥ 64)) 12)] = 0 then giveF0 f dir s i (findN f i) else f).l.map nodA), aI ((if firstE [(dirE f dir), (whenE (!(findB f i)) 6), (whenE (((findN f i).kind) == 2) 9), (checkE s), (whenE (isB ((dirN f dir).l) s) 7), (whenE (decide (((findN f i).links) ≥ 64)) 12)] = 0 then giveF0 f dir s i (findN f i) else f).next)], aI (firstE [(dirE f dir), (whenE (!(findB f i)) 6), (whenE (((findN f i).kind) == 2) 9), (checkE s), (whenE (isB ((dirN f dir).l) s) 7), (whenE (decide (((findN f i).links) ≥ 64)) 12)])]) (r := .tup [.agg (fsyA (giveF f dir s i)), aI (giveErr f dir s i)]) [b5 = b5] rt1 (by
  have e : giveErr f dir s i = firstE [(dirE f dir), (whenE (!(findB f i)) 6), (whenE (((findN f i).kind) == 2) 9), (checkE s), (whenE (isB ((dirN f dir).l) s) 7), (whenE (decide (((findN f i).links) ≥ 64)) 12)] := by
   unfold giveErr
   simp only [q1, Bool.true_or, Bool.false_or, Bool.not_true, Bool.not_false]
  unfold giveF
  rw [e]
  exact sR)) Tryz.func83 rfl (by kernel_rfl) (by kernel_rfl)
end Go.Proofs.YtkhnialfkndiiaaGreat
