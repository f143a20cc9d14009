/- A file system by its numbers: what is put, taken out, entered, left. Right file systems as trees: the mathematics. name.Leave, dirs.leave, away, Take. dirs.Take. -/
import Derived.Test.YtkhnialfkndiiaaGreatMrgR
import Derived.Test.YtkhnialfkndiiaaGreatMrgO
set_option linter.unusedVariables false
set_option linter.unusedSimpArgs false
namespace Go.Proofs.YtkhnialfkndiiaaGreat
open Go Go.RowKit Copyhold
open Copyhold.Name (Srt insE delE getE isAt)
def atF (f : Fsy) (i : Int) : Option Nod := f.l.find? (isNo i)
theorem at_B (f : Fsy) (i : Int) : findB f i = (atF f i).isSome := findBN f i
theorem at_N (f : Fsy) (i : Int) : findN f i = (atF f i).getD nod0 := rfl
theorem at_ino {f : Fsy} {i : Int} {n : Nod} (h : atF f i = some n) : n.ino = i := by simpa [isNo] using List.find?_some h
theorem at_mem {f : Fsy} {i : Int} {n : Nod} (h : atF f i = some n) : n ∈ f.l := List.mem_of_find?_eq_some h
theorem at_of {f : Fsy} {n : Nod} (hr : RiseN f.l) (h : n ∈ f.l) : atF f n.ino = some n := find_unique hr h rfl
theorem at_BN {f : Fsy} {i : Int} {n : Nod} (h : atF f i = some n) : findB f i = true ∧ findN f i = n := ⟨by rw [at_B, h]; rfl, by rw [at_N, h]; rfl⟩
theorem at_no {f : Fsy} {i : Int} (h : atF f i = none) : findB f i = false ∧ findN f i = nod0 := ⟨by rw [at_B, h]; rfl, by rw [at_N, h]; rfl⟩
theorem at_some {f : Fsy} {i : Int} (h : findB f i = true) : atF f i = some (findN f i) := by
  rw [at_B] at h
  cases hc : atF f i with
  | none => rw [hc] at h; cases h
  | some n => rw [at_N, hc]; rfl
theorem at_none {f : Fsy} {i : Int} (h : findB f i = false) : atF f i = none := by
  rw [at_B] at h
  cases hc : atF f i with
  | none => rfl
  | some n => rw [hc] at h; cases h
theorem opt_of {a b : Option Nod} {i : Int} (ha : ∀ n, a = some n → n.ino = i) (h1 : a.isSome = b.isSome) (h2 : a.getD nod0 = b.getD nod0) : a = b := by
  cases a <;> cases b <;> simp_all
theorem at_put {f : Fsy} {n : Nod} {j : Int} (hr : RiseN f.l) : atF (putF f n) j = if j = n.ino then some n else atF f j := by
  by_cases hj : j = n.ino
  · rw [if_pos hj, hj]
    obtain ⟨h1, h2⟩ := find_put_self (n := n) hr
    rw [at_some h1, h2]
  · rw [if_neg hj]
    obtain ⟨h1, h2⟩ := find_put_other (n := n) hr hj
    exact opt_of (i := j) (fun n => at_ino) (by rw [← at_B, ← at_B, h1]) (by rw [← at_N, ← at_N, h2])
theorem at_out {f : Fsy} {i j : Int} (hr : RiseN f.l) : atF (outF f i) j = if j = i then none else atF f j := by
  obtain ⟨h1, h2⟩ := find_out (i := i) (j := j) hr
  by_cases hj : j = i
  · rw [if_pos hj]; rw [if_pos hj] at h1; exact at_none h1
  · rw [if_neg hj]; rw [if_neg hj] at h1 h2
    exact opt_of (i := j) (fun n => at_ino) (by rw [← at_B, ← at_B, h1]) (by rw [← at_N, ← at_N, h2])
theorem rise_ext : ∀ {a b : List Nod}, RiseN a → RiseN b → (∀ x, x ∈ a ↔ x ∈ b) → a = b
  | [], [], _, _, _ => rfl
  | [], y :: s, _, _, h => absurd ((h y).2 (by simp)) (by simp)
  | x :: r, [], _, _, h => absurd ((h x).1 (by simp)) (by simp)
  | x :: r, y :: s, ha, hb, h => by
    obtain ⟨ha1, ha2⟩ := List.pairwise_cons.1 ha
    obtain ⟨hb1, hb2⟩ := List.pairwise_cons.1 hb
    have e : x = y := by
      rcases List.mem_cons.1 ((h x).1 (by simp)) with e | e
      · exact e
      · rcases List.mem_cons.1 ((h y).2 (by simp)) with e2 | e2
        · exact e2.symm
        · have g1 : y.ino < x.ino := hb1 x e
          have g2 : x.ino < y.ino := ha1 y e2
          omega
    subst e
    rw [rise_ext ha2 hb2 fun z => ⟨fun hz => ?_, fun hz => ?_⟩]
    · rcases List.mem_cons.1 ((h z).1 (by simp [hz])) with e | e
      · subst e; have g : z.ino < z.ino := ha1 z hz; omega
      · exact e
    · rcases List.mem_cons.1 ((h z).2 (by simp [hz])) with e | e
      · subst e; have g : z.ino < z.ino := hb1 z hz; omega
      · exact e
theorem fsy_ext {f g : Fsy} (hf : RiseN f.l) (hg : RiseN g.l) (h : ∀ i, atF f i = atF g i) (hn : f.next = g.next) : f = g := by
  have e : f.l = g.l := rise_ext hf hg fun x => ⟨fun hx => by
    have := at_of hf hx; rw [h] at this; exact at_mem this, fun hx => by
    have := at_of hg hx; rw [← h] at this; exact at_mem this⟩
  cases f; cases g; simp_all
theorem rows_at {f : Fsy} (h : rowsP f) {i : Int} {n : Nod} (hn : atF f i = some n) : nodP n ∧ n.ino < f.next ∧ n.ino = i := by
  have := (rowsP_iff.1 h).2.2.1 n (at_mem hn)
  exact ⟨this.1, this.2, at_ino hn⟩
theorem putN_len {l : List Nod} {n : Nod} (h : thN l n.ino = true) : (putN l n).length = l.length := by
  have := plN_lt h
  unfold putN
  rw [if_pos h]
  simp only [List.length_append, List.length_cons, List.length_take, List.length_drop]
  omega
theorem put_len {f : Fsy} {n : Nod} (hr : RiseN f.l) (h : findB f n.ino = true) : (putF f n).l.length = f.l.length := putN_len (by rw [findB_eq hr] at h; exact h)
theorem put_next {f : Fsy} {n : Nod} (h : n.ino < f.next) : (putF f n).next = f.next := by
  show (if n.ino + 1 > f.next then n.ino + 1 else f.next) = f.next
  rw [if_neg (by omega)]
theorem put_next2 {f : Fsy} {n : Nod} (h : n.ino = f.next) : (putF f n).next = f.next + 1 := by
  show (if n.ino + 1 > f.next then n.ino + 1 else f.next) = _
  rw [if_pos (by omega), h]
theorem put_rows2 {f : Fsy} {n : Nod} (h : rowsP f) (hn : nodP n) (hb : findB f n.ino = true) : rowsP (putF f n) := by
  obtain ⟨h1, h2, h3, h4⟩ := rowsP_iff.1 h
  have hnx : f.next ≤ (putF f n).next ∧ n.ino + 1 ≤ (putF f n).next := by
    show f.next ≤ (if n.ino + 1 > f.next then n.ino + 1 else f.next) ∧ n.ino + 1 ≤ (if n.ino + 1 > f.next then n.ino + 1 else f.next)
    split <;> omega
  refine rowsP_iff.2 ⟨by rw [put_len h4 hb]; exact h1, by omega, fun x hx => ?_, put_rise h4⟩
  rcases mem_put hx with rfl | hx
  · exact ⟨hn, by omega⟩
  · have := h3 x hx
    exact ⟨this.1, by omega⟩
theorem lI_inj {a b : List Ent} (h : lI a = lI b) : a = b := by rw [← lI_O a, ← lI_O b, h]
theorem lI_len (l : List Ent) : (lI l).length = l.length := by simp [lI]
noncomputable def delL (l : List Ent) (s : Txt) : List Ent := if isB l s = true then l.take (posI l s) ++ l.drop (posI l s + 1) else l
def leaveE (l : List Ent) (s : Txt) : Int := if isB l s = true then 0 else 6
theorem lI_del {l : List Ent} (h : Srt (lI l)) (s : Txt) : lI (delL l s) = delE (lI l) s := by
  unfold delL
  split
  · rename_i hi
    rw [← Name.take_del h hi]
    simp [lI, posI, List.map_take, List.map_drop]
  · rename_i hi
    exact (Name.del_none (by simpa [isB] using hi)).symm
theorem entE_cases {l : List Ent} {s : Txt} {n : Int} (h : checkE s = 0) (hn : 1 ≤ n) (hi : isB l s = false) (hl : l.length < 256) : entE l s n = 0 := by
  unfold entE
  rw [if_neg (by rw [h]; decide), if_neg (by omega), if_neg (by rw [hi]; decide), if_neg (by omega)]
theorem lI_ent {l : List Ent} {s : Txt} {n : Int} (h : Srt (lI l)) (he : entE l s n = 0) : lI (entL l s n) = insE (lI l) (s, n) := by
  unfold entL
  rw [if_pos he, ← Name.take_ins h]
  simp [lI, posI, List.map_take, List.map_drop]
theorem del_ent {l : List Ent} {s : Txt} {n : Int} (h : Srt (lI l)) (he : entE l s n = 0) (hi : isB l s = false) : delL (entL l s n) s = l := by
  have hs : Srt (lI (entL l s n)) := by rw [lI_ent h he]; exact Name.srt_ins h hi
  apply lI_inj
  rw [lI_del hs, lI_ent h he, Name.del_ins hi]
theorem get_ent {l : List Ent} {s t : Txt} {n : Int} (h : Srt (lI l)) (he : entE l s n = 0) (hi : isB l s = false) : getE (lI (entL l s n)) t = if t = s then some n else getE (lI l) t := by
  rw [lI_ent h he, Name.get_ins hi]
theorem get_del {l : List Ent} {s t : Txt} (h : Srt (lI l)) : getE (lI (delL l s)) t = if t = s then none else getE (lI l) t := by
  rw [lI_del h, Name.get_del]
theorem isB_get (l : List Ent) (s : Txt) : isB l s = (getE (lI l) s).isSome := Name.get_some
theorem getI_get (l : List Ent) (s : Txt) : getI l s = (getE (lI l) s).getD 0 := rfl
theorem right_iffE {l : List Ent} : Name.rightE (lI l) = true ↔ rowP l := by rw [rowP_iff, lI_O]
theorem ent_row {l : List Ent} {s : Txt} {n : Int} (h : rowP l) (hc : checkE s = 0) (hn : 1 ≤ n) (hi : isB l s = false) (hl : l.length < 256) : rowP (entL l s n) := by
  rw [← right_iffE, lI_ent (row_srt h) (entE_cases hc hn hi hl)]
  exact Name.right_ins (right_iffE.2 h) (checkP_iff.2 (checkE_iff.1 hc)) hn hi (by rw [lI_len]; exact hl)
theorem del_row {l : List Ent} {s : Txt} (h : rowP l) : rowP (delL l s) := by
  have h2 := right_iffE.2 h
  rw [← right_iffE, lI_del (row_srt h)]
  obtain ⟨h3, h4, h5⟩ := (Name.rightE_iff _).1 h2
  exact (Name.rightE_iff _).2 ⟨Nat.le_trans (List.length_filter_le _ _) h3, fun x hx => h4 x (List.mem_filter.1 hx).1, Name.srt_del h5 s⟩
theorem ent_len {l : List Ent} {s : Txt} {n : Int} : (entL l s n).length ≤ l.length + 1 := by
  unfold entL
  split
  · simp only [List.length_append, List.length_cons, List.length_take, List.length_drop]; omega
  · omega
theorem del_len {l : List Ent} {s : Txt} : (delL l s).length ≤ l.length := by
  unfold delL
  split
  · simp only [List.length_append, List.length_take, List.length_drop]; omega
  · omega
theorem at_dir {f : Fsy} {i : Int} (h : dirE f i = 0) : ∃ d, atF f i = some d ∧ d.kind = 2 ∧ dirN f i = d ∧ findN f i = d ∧ findB f i = true := by
  unfold dirE at h
  split at h
  · rename_i hb
    split at h
    · rename_i hk
      exact ⟨findN f i, at_some hb, hk, (dirE_0 hb hk).2, rfl, hb⟩
    · cases h
  · cases h
theorem dir_of {f : Fsy} {i : Int} {d : Nod} (h : atF f i = some d) (hk : d.kind = 2) : dirE f i = 0 ∧ dirN f i = d := by
  obtain ⟨h1, h2⟩ := at_BN h
  have := dirE_0 h1 (by rw [h2]; exact hk)
  rw [h2] at this
  exact this
theorem dir_row {n : Nod} (h : nodP n) (hk : n.kind = 2) : n.text = [] ∧ rowP n.l := by
  rcases h.2.2.2 with ⟨_, h1, h2⟩ | ⟨h1, _⟩
  · exact ⟨h1, h2⟩
  · omega
theorem file_none {n : Nod} (h : nodP n) (hk : ¬ n.kind = 2) : n.l = [] := by
  rcases h.2.2.2 with ⟨h1, _⟩ | ⟨_, _, h1⟩
  · exact absurd h1 hk
  · exact h1
theorem look_iff {f : Fsy} {i : Int} {s : Txt} (hp : rowsP f) : lookE f i s = 0 ↔ ∃ d j n, atF f i = some d ∧ d.kind = 2 ∧ checkE s = 0 ∧ getE (lI d.l) s = some j ∧ atF f j = some n := by
  constructor
  · intro h
    unfold lookE at h
    rw [first3] at h
    split at h
    · rename_i h1
      split at h
      · rename_i h2
        obtain ⟨d, g1, g2, g3, g4⟩ := at_dir h1
        cases hb : findB f (lookI f i s) with
        | false => rw [hb] at h; cases h
        | true =>
          have hl := at_some hb
          unfold lookI at hl
          rw [g3, getI_get] at hl
          cases hg : getE (lI d.l) s with
          | none => rw [hg] at hl; rw [show (none : Option Int).getD 0 = 0 from rfl, at_none (find_0 hp)] at hl; cases hl
          | some j => rw [hg] at hl; exact ⟨d, j, _, g1, g2, h2, hg, hl⟩
      · exact absurd h (by assumption)
    · exact absurd h (by assumption)
  · rintro ⟨d, j, n, h1, h2, h3, h4, h5⟩
    obtain ⟨g1, g2⟩ := dir_of h1 h2
    unfold lookE
    rw [first3, if_pos g1, if_pos h3]
    have : findB f (lookI f i s) = true := by unfold lookI; rw [g2, getI_get, h4]; exact (at_BN h5).1
    rw [this]
    rfl
theorem look_at {f : Fsy} {i : Int} {s : Txt} {d n : Nod} {j : Int} (h1 : atF f i = some d) (h2 : d.kind = 2) (h3 : checkE s = 0) (h4 : getE (lI d.l) s = some j) (h5 : atF f j = some n) : lookE f i s = 0 ∧ lookN f i s = n := by
  obtain ⟨g1, g2⟩ := dir_of h1 h2
  have hi : lookI f i s = j := by unfold lookI; rw [g2, getI_get, h4]; rfl
  have he : lookE f i s = 0 := by
    unfold lookE
    rw [first3, if_pos g1, if_pos h3, hi, (at_BN h5).1]
    rfl
  exact ⟨he, by rw [look_yes he, hi, (at_BN h5).2]⟩
theorem look_gone {f : Fsy} {i : Int} {s : Txt} {d : Nod} (hp : rowsP f) (h1 : atF f i = some d) (h2 : d.kind = 2) (h3 : checkE s = 0) (h4 : getE (lI d.l) s = none) : lookE f i s = 6 := by
  obtain ⟨g1, g2⟩ := dir_of h1 h2
  have hi : lookI f i s = 0 := by unfold lookI; rw [g2, getI_get, h4]; rfl
  unfold lookE
  rw [first3, if_pos g1, if_pos h3, hi, find_0 hp]
  rfl
end Go.Proofs.YtkhnialfkndiiaaGreat

set_option linter.unusedVariables false
set_option linter.unusedSimpArgs false
namespace Go.Proofs.YtkhnialfkndiiaaGreat
open Go Go.RowKit Copyhold
def namK (z : Int) (n : Nod) : Nat := if n.kind = 2 then cntE z n else 0
def nam (f : Fsy) (z : Int) : Nat := (f.l.map (namK z)).sum
theorem cntI_ok : ∀ {L : List (Int × Nat)} (y : Int), (∀ p ∈ L, 1 ≤ p.2) → ∀ p ∈ cntI L y, 1 ≤ p.2
  | [], y, _, p, hp => by obtain rfl := List.mem_singleton.1 hp; exact Nat.le_refl _
  | q :: r, y, h, p, hp => by
    unfold cntI at hp
    split at hp
    · rcases List.mem_cons.1 hp with rfl | hp
      · show 1 ≤ q.2 + 1; omega
      · exact h p (by simp [hp])
    · rcases List.mem_cons.1 hp with rfl | hp
      · exact h p (by simp)
      · exact cntI_ok y (fun p hp => h p (by simp [hp])) p hp
theorem cntI_dst : ∀ {L : List (Int × Nat)} (y : Int), (L.map (·.1)).Nodup → ((cntI L y).map (·.1)).Nodup ∧ ∀ z, z ∈ (cntI L y).map (·.1) → z = y ∨ z ∈ L.map (·.1)
  | [], y, _ => ⟨by simp [cntI], fun z hz => .inl (by simpa [cntI] using hz)⟩
  | q :: r, y, h => by
    unfold cntI
    split
    · exact ⟨h, fun z hz => .inr hz⟩
    · rename_i hne
      obtain ⟨h1, h2⟩ := List.nodup_cons.1 h
      obtain ⟨g1, g2⟩ := cntI_dst y h2
      refine ⟨List.nodup_cons.2 ⟨fun hm => ?_, g1⟩, fun z hz => ?_⟩
      · rcases g2 _ hm with e | e
        · exact hne e
        · exact h1 e
      · rcases List.mem_cons.1 hz with e | hz
        · exact .inr (by simp [e])
        · rcases g2 z hz with e | e
          · exact .inl e
          · exact .inr (by simp only [List.map_cons]; exact List.mem_cons_of_mem _ e)
def OkCnt (L : List (Int × Nat)) : Prop := (∀ p ∈ L, 1 ≤ p.2) ∧ (L.map (·.1)).Nodup
theorem OkCnt.step {L : List (Int × Nat)} (h : OkCnt L) (y : Int) : OkCnt (cntI L y) := ⟨cntI_ok y h.1, (cntI_dst y h.2).1⟩
theorem sum_pos {α : Type} {g : α → Nat} : ∀ {l : List α} {x : α}, x ∈ l → g x ≤ (l.map g).sum
  | y :: r, x, h => by
    have hs : ((y :: r).map g).sum = g y + (r.map g).sum := by simp
    rw [hs]
    rcases List.mem_cons.1 h with e | h
    · rw [e]; omega
    · have := sum_pos (g := g) h; omega
theorem sum_two {α : Type} {g : α → Nat} : ∀ {l : List α} {x y : α}, x ∈ l → y ∈ l → x ≠ y → g x + g y ≤ (l.map g).sum
  | z :: r, x, y, hx, hy, hne => by
    have hs : ((z :: r).map g).sum = g z + (r.map g).sum := by simp
    rw [hs]
    rcases List.mem_cons.1 hx with ex | hx <;> rcases List.mem_cons.1 hy with ey | hy
    · exact absurd (ex.trans ey.symm) hne
    · have := sum_pos (g := g) hy; rw [ex]; omega
    · have := sum_pos (g := g) hx; rw [ey]; omega
    · have := sum_two (g := g) hx hy hne; omega
theorem sum_some {α : Type} {g : α → Nat} : ∀ {l : List α}, 1 ≤ (l.map g).sum → ∃ x ∈ l, 1 ≤ g x
  | z :: r, h => by
    have hs : ((z :: r).map g).sum = g z + (r.map g).sum := by simp
    rw [hs] at h
    by_cases hz : 1 ≤ g z
    · exact ⟨z, by simp, hz⟩
    · obtain ⟨x, hx, hg⟩ := sum_some (g := g) (l := r) (by omega)
      exact ⟨x, by simp [hx], hg⟩
theorem kids_at2 {f : Fsy} {i : Int} {d : Nod} (h : atF f i = some d) (hk : d.kind = 2) : kidsF f i = d.l.map Ent.ino := by
  have := (at_BN h).2
  unfold kidsF
  rw [this, if_pos hk]
theorem kids_some {f : Fsy} {i z : Int} (h : z ∈ kidsF f i) : ∃ d, atF f i = some d ∧ d.kind = 2 ∧ ∃ e ∈ d.l, e.ino = z := by
  have h0 := h
  unfold kidsF at h
  split at h
  · rename_i hk
    have hb : findB f i = true := by
      cases hb : findB f i with
      | true => rfl
      | false => exact absurd hk (find_kind hb)
    obtain ⟨e, he, hz⟩ := List.mem_map.1 h
    exact ⟨_, at_some hb, hk, e, he, hz⟩
  · cases h
theorem kids_of {f : Fsy} {i z : Int} {d : Nod} {e : Ent} (h : atF f i = some d) (hk : d.kind = 2) (he : e ∈ d.l) (hz : e.ino = z) : z ∈ kidsF f i := by
  rw [kids_at2 h hk]
  exact List.mem_map.2 ⟨e, he, hz⟩
theorem namK_pos {z : Int} {d : Nod} : 1 ≤ namK z d ↔ d.kind = 2 ∧ ∃ e ∈ d.l, e.ino = z := by
  unfold namK cntE
  split
  · rename_i hk
    rw [show (1 ≤ d.l.countP (isE z)) = (0 < d.l.countP (isE z)) from rfl, List.countP_pos_iff]
    simp [isE, hk]
  · rename_i hk
    simp [hk]
theorem nam_pos {f : Fsy} {z : Int} (hr : RiseN f.l) : 1 ≤ nam f z ↔ ∃ i, z ∈ kidsF f i := by
  constructor
  · intro h
    obtain ⟨d, hd, hg⟩ := sum_some h
    obtain ⟨hk, e, he, hz⟩ := namK_pos.1 hg
    exact ⟨d.ino, kids_of (at_of hr hd) hk he hz⟩
  · rintro ⟨i, h⟩
    obtain ⟨d, hd, hk, e, he, hz⟩ := kids_some h
    exact Nat.le_trans (namK_pos.2 ⟨hk, e, he, hz⟩) (sum_pos (at_mem hd))
theorem nam_two {f : Fsy} {z i j : Int} (hi : z ∈ kidsF f i) (hj : z ∈ kidsF f j) (h1 : nam f z = 1) : i = j := by
  obtain ⟨d, hd, hk, e, he, hz⟩ := kids_some hi
  obtain ⟨d', hd', hk', e', he', hz'⟩ := kids_some hj
  by_cases hne : d = d'
  · rw [← at_ino hd, ← at_ino hd', hne]
  · have := sum_two (g := namK z) (at_mem hd) (at_mem hd') hne
    have := namK_pos.2 ⟨hk, e, he, hz⟩
    have := namK_pos.2 ⟨hk', e', he', hz'⟩
    unfold nam at h1
    omega
structure TreeP (f : Fsy) : Prop where
  rows : rowsP f
  root : ∃ n, atF f 1 = some n ∧ n.kind = 2 ∧ n.links = 0
  cnt : ∀ i n, atF f i = some n → n.links = (nam f i : Int)
  kid : ∀ i z, z ∈ kidsF f i → (∃ n, atF f z = some n) ∧ ¬ z = 1
  pos : ∀ i n, atF f i = some n → ¬ i = 1 → 1 ≤ n.links
  dir : ∀ i n, atF f i = some n → n.kind = 2 → ¬ i = 1 → n.links = 1 ∧ Reach f 1 i
theorem reach_last {f : Fsy} {a b : Int} (h : Reach f a b) : ∃ q, (q = a ∨ Reach f a q) ∧ b ∈ kidsF f q := by
  induction h with
  | one h => exact ⟨_, .inl rfl, h⟩
  | @more i y z h _ ih =>
    obtain ⟨q, hq, hk⟩ := ih
    refine ⟨q, .inr ?_, hk⟩
    rcases hq with rfl | hq
    · exact .one h
    · exact .more h hq
theorem reach_first {f : Fsy} {a b : Int} (h : Reach f a b) : ∃ y, y ∈ kidsF f a := by
  cases h with
  | one h => exact ⟨_, h⟩
  | more h _ => exact ⟨_, h⟩
inductive RT (f : Fsy) : Int → Prop where
  | base {z : Int} : z ∈ kidsF f 1 → RT f z
  | step {p z : Int} : RT f p → z ∈ kidsF f p → RT f z
theorem rt_of {f : Fsy} {a b : Int} (h : Reach f a b) : (a = 1 ∨ RT f a) → RT f b := by
  induction h with
  | one h =>
    rintro (rfl | hr)
    · exact .base h
    · exact .step hr h
  | more h _ ih =>
    rintro (rfl | hr)
    · exact ih (.inr (.base h))
    · exact ih (.inr (.step hr h))
theorem TreeP.no1 {f : Fsy} (h : TreeP f) {i : Int} : ¬ Reach f i 1 := fun hr => by
  obtain ⟨q, _, hk⟩ := reach_last hr
  exact (h.kid q 1 hk).2 rfl
theorem TreeP.reach {f : Fsy} (h : TreeP f) {i : Int} {n : Nod} (hn : atF f i = some n) (hi : ¬ i = 1) : Reach f 1 i := by
  by_cases hk : n.kind = 2
  · exact (h.dir i n hn hk hi).2
  · have hp := h.pos i n hn hi
    rw [h.cnt i n hn] at hp
    obtain ⟨q, hq⟩ := (nam_pos (rows_rise h.rows)).1 (show 1 ≤ nam f i by omega)
    by_cases h1 : q = 1
    · subst h1; exact .one hq
    · obtain ⟨d, hd, hdk, _⟩ := kids_some hq
      exact (h.dir q d hd hdk h1).2.snoc hq
theorem TreeP.one {f : Fsy} (h : TreeP f) {i : Int} {n : Nod} (hn : atF f i = some n) (hk : n.kind = 2) (hi : ¬ i = 1) : nam f i = 1 := by
  have h1 := (h.dir i n hn hk hi).1
  rw [h.cnt i n hn] at h1
  omega
theorem TreeP.acyc {f : Fsy} (h : TreeP f) {w : Int} : ¬ Reach f w w := by
  have key : ∀ w, RT f w → ¬ Reach f w w := by
    intro w hw
    induction hw with
    | @base z hz =>
      intro hr
      obtain ⟨q, hq, hk⟩ := reach_last hr
      obtain ⟨y, hy⟩ := reach_first hr
      obtain ⟨d, hd, hdk, _⟩ := kids_some hy
      have hz1 := (h.kid 1 z hz).2
      have e := nam_two hk hz (h.one hd hdk hz1)
      subst e
      rcases hq with e | hq
      · exact hz1 e.symm
      · exact h.no1 hq
    | @step p z hp hz ih =>
      intro hr
      obtain ⟨q, hq, hk⟩ := reach_last hr
      obtain ⟨y, hy⟩ := reach_first hr
      obtain ⟨d, hd, hdk, _⟩ := kids_some hy
      have hz1 := (h.kid p z hz).2
      have e := nam_two hk hz (h.one hd hdk hz1)
      subst e
      rcases hq with e | hq
      · rw [← e] at hr; exact ih hr
      · exact ih (.more hz hq)
  intro hr
  obtain ⟨q, _, hk⟩ := reach_last hr
  obtain ⟨⟨n, hn⟩, h1⟩ := h.kid q w hk
  exact key w (rt_of (h.reach hn h1) (.inl rfl)) hr
theorem first_at1 {f : Fsy} {n : Nod} (h : f.l[0]? = some n) (hn : n.ino = 1) (hr : RiseN f.l) : atF f 1 = some n := by
  have := at_of hr (List.mem_of_getElem? h)
  rwa [hn] at this
end Go.Proofs.YtkhnialfkndiiaaGreat

set_option linter.unusedVariables false
set_option linter.unusedSimpArgs false
namespace Go.Proofs.YtkhnialfkndiiaaGreat
open Go Go.RowKit Copyhold
open Copyhold.Name (Srt insE delE getE isAt)
theorem posI_lt {l : List Ent} {s : Txt} (h : Srt (lI l)) (hi : isB l s = true) : posI l s < l.length := by
  obtain ⟨x, hx, _⟩ := Name.get_pos h hi
  have := lt_of_some hx
  rw [lI_len] at this
  exact this
theorem get_at {l : List Ent} {s : Txt} {x : Ent} (h : Srt (lI l)) (hi : isB l s = true) (hx : l[posI l s]? = some x) : getI l s = x.ino := by
  obtain ⟨y, hy, _, hg⟩ := Name.get_pos h hi
  rw [getI_get, hg]
  have : (lI l)[Name.pos (lI l) s]? = some ((x.name, x.ino) : NEnt) := by
    unfold lI at hy ⊢
    rw [List.getElem?_map]
    have hx' : l[Name.pos (lI l) s]? = some x := hx
    unfold lI at hx'
    rw [hx']
    rfl
  rw [this] at hy
  obtain rfl := Option.some.inj hy
  rfl
set_option maxRecDepth 100000 in
set_option maxHeartbeats 4000000 in
theorem leave_spec (l : List Ent) (s : Txt) (hl : l.length ≤ 256) (hr : Name.Srt (lI l)) : FSpec Tryz.prog 144 [.sl 2 false (l.map entA), aS s] (.tup [.sl 2 false ((delL l s).map entA), aI (getI l s), aI (leaveE l s)]) := by
  exact spec_vc (F := Tryz.f144) 400 (
 .r 3 <| .r 2 <| .call (nplace_spec l s (by omega) hr) <|
 .r 5 <| .r 2 <| .br 17 (!(isB l s)) (fun q1 => have q1 := notT q1; have p1 := booF q1; .r 4 <| .fin (x := .tup [.sl 2 false (l.map entA), aI 0, aI 6]) (r := .tup [.sl 2 false ((delL l s).map entA), aI (getI l s), aI (leaveE l s)]) [] trivial (by
    have e : delL l s = l := if_neg (by rw [q1]; decide)
    have e2 : leaveE l s = 6 := if_neg (by rw [q1]; decide)
    rw [e, e2, get_away q1]
    exact Sub.tups ⟨by first | exact Sub.refl _ | exact Sub.loose _ _ _, Sub.refl _, Sub.refl _, trivial⟩))
 <| fun q1 => have q1 := notF q1; have p1 := booT q1; have hlt := posI_lt hr q1; .r 2 <| .val 20 (show (aI ((l.map entA).length : Int) : AV) = aI (l.length : Int) from by rw [List.length_map]) <| .mk0 24 l.length (show (l.length : Int) = ((l.length : Nat) : Int) from by omega) (by have hq := posI_le l s; simp <;> omega) (by have hq := posI_le l s; simp <;> omega) fun V1 =>
 .r 1 <| .r 3 <| .slc 2 false (l.map entA) none (some (posI l s : Int)) none 0 (posI l s) false (.inl ⟨rfl, rfl⟩) (.inr rfl) (.inl ⟨rfl, fun h => by cases h⟩) (by have hq := posI_le l s; first | omega | (rw [List.length_map]; omega) | (simp <;> omega)) (by have hq := posI_le l s; first | omega | (rw [List.length_map]; omega) | (simp <;> omega)) <|
 .app 24 V1 ([] : List (List AV)) (((l.map entA).take (posI l s)).drop 0) (by have hq := posI_le l s; simp <;> omega) (by have hq := posI_le l s; simp <;> omega) fun V2 =>
 .r 1 <| .pick [0, 1, 2, 3, 4, 6, 7, 8, 9] <| .run 4 [rng .i64 ((posI l s : Int) + 1)] ⟨rng64 (by omega) (by omega), trivial⟩ <|
 .slc 2 false (l.map entA) (some ((posI l s : Int) + 1)) none none (posI l s + 1) ((l.map entA).length) false (.inr (congrArg some (by omega))) (.inl ⟨rfl, rfl⟩) (.inl ⟨rfl, fun h => by cases h⟩) (by have hq := posI_le l s; first | omega | (rw [List.length_map]; omega) | (simp <;> omega)) (by have hq := posI_le l s; first | omega | (rw [List.length_map]; omega) | (simp <;> omega)) <|
 .r 2 <| .idxM l entA (posI l s) (m := (posI l s : Int)) rfl (posI_lt hr (by assumption)) fun x1 hx1 =>
 .r 1 <| .fork <| .alt (.app 24 V2 (([] : List (List AV)) ++ (((l.map entA).take (posI l s)).drop 0)) (((l.map entA).take ((l.map entA).length)).drop (posI l s + 1)) (by have hq := posI_le l s; simp <;> omega) (by have hq := posI_le l s; simp <;> omega) fun V3 =>
 .pick [10, 11, 12, 13] <| .r 4 <| .frz 21 [4, 5, 6] [] [V3 = V3, (([] : List (List AV)) ++ (((l.map entA).take (posI l s)).drop 0)).length + (((l.map entA).take ((l.map entA).length)).drop (posI l s + 1)).length = ((([] : List (List AV)) ++ (((l.map entA).take (posI l s)).drop 0)) ++ (((l.map entA).take ((l.map entA).length)).drop (posI l s + 1))).length] ⟨rfl, (by first | rfl | (simp; done) | (simp; omega)), trivial⟩ <|
 .fin (x := .tup [.sl 2 false ((([] : List (List AV)) ++ (((l.map entA).take (posI l s)).drop 0)) ++ (((l.map entA).take ((l.map entA).length)).drop (posI l s + 1))), aI x1.ino, aI 0]) (r := .tup [.sl 2 false ((delL l s).map entA), aI (getI l s), aI (leaveE l s)]) [] trivial (by
    have e : delL l s = l.take (posI l s) ++ l.drop (posI l s + 1) := if_pos q1
    have e2 : leaveE l s = 0 := if_pos q1
    rw [e, e2, get_at hr q1 hx1]
    exact Sub.tups ⟨Sub.of_eq (congrArg (AV.sl 2 false) (by simp [entA, List.map_take, List.map_drop, take_all])), Sub.refl _, Sub.refl _, trivial⟩))
 <| .r 1 <| .pick [5, 11, 12, 13] <| .app 24 V2 (([] : List (List AV)) ++ (((l.map entA).take (posI l s)).drop 0)) (((l.map entA).take ((l.map entA).length)).drop (posI l s + 1)) (by have hq := posI_le l s; simp <;> omega) (by have hq := posI_le l s; simp <;> omega) fun V4 =>
 .r 3 <| .frz 21 [4, 5, 6] [] [V4 = V4, (([] : List (List AV)) ++ (((l.map entA).take (posI l s)).drop 0)).length + (((l.map entA).take ((l.map entA).length)).drop (posI l s + 1)).length = ((([] : List (List AV)) ++ (((l.map entA).take (posI l s)).drop 0)) ++ (((l.map entA).take ((l.map entA).length)).drop (posI l s + 1))).length] ⟨rfl, (by first | rfl | (simp; done) | (simp; omega)), trivial⟩ <|
 .fin (x := .tup [.sl 2 false ((([] : List (List AV)) ++ (((l.map entA).take (posI l s)).drop 0)) ++ (((l.map entA).take ((l.map entA).length)).drop (posI l s + 1))), aI x1.ino, aI 0]) (r := .tup [.sl 2 false ((delL l s).map entA), aI (getI l s), aI (leaveE l s)]) [] trivial (by
    have e : delL l s = l.take (posI l s) ++ l.drop (posI l s + 1) := if_pos q1
    have e2 : leaveE l s = 0 := if_pos q1
    rw [e, e2, get_at hr q1 hx1]
    exact Sub.tups ⟨Sub.of_eq (congrArg (AV.sl 2 false) (by simp [entA, List.map_take, List.map_drop, take_all])), Sub.refl _, Sub.refl _, trivial⟩)) Tryz.func144 rfl (by kernel_rfl) (by kernel_rfl)
noncomputable def leaveF (f : Fsy) (d : Int) (s : Txt) : Fsy := putF f (withL (findN f d) (delL (findN f d).l s))
noncomputable def awayN (n : Nod) : Nod := ⟨n.ino, n.kind, n.links - 1, n.text, n.l⟩
noncomputable def awayF (f : Fsy) (d : Int) (s : Txt) (n : Nod) : Fsy := if n.links - 1 < 1 then outF (leaveF f d s) n.ino else putF (leaveF f d s) (awayN n)
set_option maxRecDepth 100000 in
set_option maxHeartbeats 4000000 in
theorem dleave_spec (f : Fsy) (dir : Int) (s : Txt) (okf : OkF f) (hp : rowsP f) (hs : s.length ≤ 1000000) : FSpec Tryz.prog 125 [.agg [.sl 5 false (f.l.map nodA), aI f.next], aI dir, aS s] (.agg (fsyA (leaveF f dir s))) := by
  have hl := hp.1
  have hr := rows_rise hp
  exact spec_vc (F := Tryz.f125) 400 (
 .new fun b1 => .new fun b2 => .run 2 [b1 = b1] ⟨rfl, trivial⟩ <|
 .call (tfind_spec f dir (by omega) hr) <|
 .r 3 <| .new fun b3 => .run 2 [b3 = b3] ⟨rfl, trivial⟩ <|
 .run 3 [b3 = b3] ⟨rfl, trivial⟩ <|
 .call (leave_spec ((findN f dir).l) s (find_srt hp dir).2 (find_srt hp dir).1) <|
 .run 6 [b3 = b3] ⟨rfl, trivial⟩ <|
 .run 2 [b1 = b1, b3 = b3] ⟨rfl, rfl, trivial⟩ <|
 .callS (args0 := [.agg [.sl 5 false (f.l.map nodA), aI f.next], .agg [aI ((findN f dir).ino), aI ((findN f dir).kind), aI ((findN f dir).links), aS ((findN f dir).text), .sl 2 false ((delL ((findN f dir).l) s).map entA)]]) (args := [.agg [.sl 5 false (f.l.map nodA), aI f.next], .agg [aI ((withL (findN f dir) (delL (findN f dir).l s)).ino), aI ((withL (findN f dir) (delL (findN f dir).l s)).kind), aI ((withL (findN f dir) (delL (findN f dir).l s)).links), aS ((withL (findN f dir) (delL (findN f dir).l s)).text), .sl 2 false ((withL (findN f dir) (delL (findN f dir).l s)).l.map entA)]]) ⟨Sub.refl _, Sub.refl _, trivial⟩ (put_spec f (withL (findN f dir) (delL (findN f dir).l s)) (find_I64 okf hp dir) (by omega) hr) <|
 .run 1 [b2 = b2] ⟨rfl, trivial⟩ <|
 .fin (x := .agg [.sl 5 false ((putF f (withL (findN f dir) (delL (findN f dir).l s))).l.map nodA), aI ((putF f (withL (findN f dir) (delL (findN f dir).l s))).next)]) (r := .agg (fsyA (leaveF f dir s))) [b2 = b2] ⟨rfl, trivial⟩ (by exact Sub.refl _)) Tryz.func125 rfl (by kernel_rfl) (by kernel_rfl)
theorem leave_le (f : Fsy) (d : Int) (s : Txt) : (leaveF f d s).l.length ≤ f.l.length + 1 := putN_le _ _
theorem leave_rise {f : Fsy} (h : rowsP f) (d : Int) (s : Txt) : RiseN (leaveF f d s).l := put_rise (rows_rise h)
set_option maxRecDepth 100000 in
set_option maxHeartbeats 4000000 in
theorem away_spec (f : Fsy) (dir : Int) (s : Txt) (n : Nod) (okf : OkF f) (hp : rowsP f) (hs : s.length ≤ 1000000) (hn : I64 n.ino ∧ n.ino < 9223372036854775807) (hk : 0 ≤ n.links ∧ n.links ≤ 1000) : FSpec Tryz.prog 124 [.agg [.sl 5 false (f.l.map nodA), aI f.next], aI dir, aS s, .agg [aI n.ino, aI n.kind, aI n.links, aS n.text, .sl 2 false (n.l.map entA)]] (.agg (fsyA (awayF f dir s n))) := by
  have hl := hp.1
  have hr := rows_rise hp
  exact spec_vc (F := Tryz.f124) 400 (
 .new fun b1 => .new fun b2 => .new fun b3 => .run 3 [b1 = b1] ⟨rfl, trivial⟩ <|
 .call (dleave_spec f dir s okf hp (by omega)) <|
 .run 1 [b1 = b1] ⟨rfl, trivial⟩ <|
 .run 5 [b2 = b2, rng .i64 (n.links - 1), b2 = b2] ⟨rfl, rng64 (by omega) (by omega), rfl, trivial⟩ <|
 .run 3 [b2 = b2] ⟨rfl, trivial⟩ <|
 .br 19 (decide ((n.links - 1) < 1)) (fun q1 => have p1 := decT q1; .run 3 [b1 = b1, b2 = b2] ⟨rfl, rfl, trivial⟩ <|
 .call (out_spec (leaveF f dir s) n.ino (by have := leave_le f dir s; omega) (leave_rise hp dir s)) <|
 .run 1 [b3 = b3] ⟨rfl, trivial⟩ <|
 .fin (x := .agg [.sl 5 false ((outF (leaveF f dir s) n.ino).l.map nodA), aI ((outF (leaveF f dir s) n.ino).next)]) (r := .agg (fsyA (awayF f dir s n))) [b3 = b3] ⟨rfl, trivial⟩ (by
    have e : awayF f dir s n = _ := if_pos (by omega)
    rw [e]
    exact Sub.refl _))
 <| fun q1 => have p1 := decF q1; .run 2 [b1 = b1, b2 = b2] ⟨rfl, rfl, trivial⟩ <|
 .callS (args0 := [.agg [.sl 5 false ((leaveF f dir s).l.map nodA), aI ((leaveF f dir s).next)], .agg [aI n.ino, aI n.kind, aI (n.links - 1), aS n.text, .sl 2 false (n.l.map entA)]]) (args := [.agg [.sl 5 false ((leaveF f dir s).l.map nodA), aI ((leaveF f dir s).next)], .agg [aI ((awayN n).ino), aI ((awayN n).kind), aI ((awayN n).links), aS ((awayN n).text), .sl 2 false ((awayN n).l.map entA)]]) ⟨Sub.refl _, Sub.refl _, trivial⟩ (put_spec (leaveF f dir s) (awayN n) hn (by have := leave_le f dir s; omega) (leave_rise hp dir s)) <|
 .run 1 [b3 = b3] ⟨rfl, trivial⟩ <|
 .fin (x := .agg [.sl 5 false ((putF (leaveF f dir s) (awayN n)).l.map nodA), aI ((putF (leaveF f dir s) (awayN n)).next)]) (r := .agg (fsyA (awayF f dir s n))) [b3 = b3] ⟨rfl, trivial⟩ (by
    have e : awayF f dir s n = _ := if_neg (by omega)
    rw [e]
    exact Sub.refl _)) Tryz.func124 rfl (by kernel_rfl) (by kernel_rfl)
end Go.Proofs.YtkhnialfkndiiaaGreat

set_option linter.unusedVariables false
set_option linter.unusedSimpArgs false
namespace Go.Proofs.YtkhnialfkndiiaaGreat
open Go Go.RowKit Copyhold
noncomputable def takeErr (f : Fsy) (d : Int) (s : Txt) : Int := firstE [lookE f d s, whenE (fullB (lookN f d s)) 11]
noncomputable def takeF (f : Fsy) (d : Int) (s : Txt) : Fsy := if takeErr f d s = 0 then awayF f d s (lookN f d s) else f
theorem look_node {f : Fsy} {d : Int} {s : Txt} (okf : OkF f) (hp : rowsP f) : OkN (lookN f d s) ∧ (lookN f d s).ino < 9223372036854775807 ∧ 0 ≤ (lookN f d s).links ∧ (lookN f d s).links ≤ 1000 ∧ (lookN f d s).l.length ≤ 8796093022207 := by
  unfold lookN
  split
  · have hb := find_I64 okf hp (lookI f d s)
    have hk := findN_ok okf (lookI f d s)
    refine ⟨hk, hb.2, ?_, ?_, hk.2.2.2.2.1⟩
    · by_cases h : findB f (lookI f d s) = true
      · exact ((rowsP_iff.1 hp).2.2.1 _ (find_mem h)).1.2.1
      · rw [(at_no (at_none (by simpa using h))).2]; decide
    · by_cases h : findB f (lookI f d s) = true
      · have := ((rowsP_iff.1 hp).2.2.1 _ (find_mem h)).1.2.2.1; omega
      · rw [(at_no (at_none (by simpa using h))).2]; decide
  · exact ⟨nod0_ok, by decide, by decide, by decide, by decide⟩
set_option maxRecDepth 100000 in
set_option maxHeartbeats 4000000 in
theorem take1_spec (f : Fsy) (dir : Int) (s : Txt) (n : Nod) (okf : OkF f) (hp : rowsP f) (hs : s.length ≤ 1000000) (hn : I64 n.ino ∧ n.ino < 9223372036854775807) (hk : 0 ≤ n.links ∧ n.links ≤ 1000) : FSpec Tryz.prog 140 [.dptr [.sl 5 false (f.l.map nodA), aI f.next], .dptr [aI dir], .dptr [aS s], .dptr [aI n.ino, aI n.kind, aI n.links, aS n.text, .sl 2 false (n.l.map entA)]] (.agg (fsyA (awayF f dir s n))) := by
  exact spec_vc (F := Tryz.f140) 400 (
 .new fun b1 => .r 4 <| .call (away_spec f dir s n okf hp hs hn hk) <|
 .run 1 [b1 = b1] ⟨rfl, trivial⟩ <|
 .fin (x := .agg [.sl 5 false ((awayF f dir s n).l.map nodA), aI ((awayF f dir s n).next)]) (r := .agg (fsyA (awayF f dir s n))) [b1 = b1] ⟨rfl, trivial⟩ (by exact Sub.refl _)) Tryz.func140 rfl (by kernel_rfl) (by kernel_rfl)
set_option maxRecDepth 100000 in
set_option maxHeartbeats 4000000 in
theorem unless2_spec (e : Int) (f : Fsy) (dir : Int) (s : Txt) (n : Nod) (okf : OkF f) (hp : rowsP f) (hs : s.length ≤ 1000000) (hn : I64 n.ino ∧ n.ino < 9223372036854775807) (hk : 0 ≤ n.links ∧ n.links ≤ 1000) : FSpec Tryz.prog 118 [.agg [.sl 5 false (f.l.map nodA), aI f.next], aI e, .clo 140 [.dptr [.sl 5 false (f.l.map nodA), aI f.next], .dptr [aI dir], .dptr [aS s], .dptr [aI n.ino, aI n.kind, aI n.links, aS n.text, .sl 2 false (n.l.map entA)]]] (.tup [.agg (fsyA (if e = 0 then awayF f dir s n else f)), aI e]) := by
  exact spec_vc (F := Tryz.f118) 400 (
 .new fun b1 => .new fun b2 => .r 1 <| .r 2 <| .br 9 (e != 0) (fun q1 => have p1 := bneT q1; .run 4 [b1 = b1, b2 = b2] ⟨rfl, rfl, trivial⟩ <|
 .fin (x := .tup [.agg [.sl 5 false (f.l.map nodA), aI f.next], aI e]) (r := .tup [.agg (fsyA (if e = 0 then awayF f dir s n else f)), aI e]) [b2 = b2] ⟨rfl, trivial⟩ (by
    rw [if_neg (show ¬ e = 0 from by omega)]
    exact Sub.refl _))
 <| fun q1 => have p1 := bneF q1; .r 1 <| .call (take1_spec f dir s n okf hp hs hn hk) <|
 .run 2 [b2 = b2] ⟨rfl, trivial⟩ <|
 .fin (x := .tup [.agg [.sl 5 false ((awayF f dir s n).l.map nodA), aI ((awayF f dir s n).next)], aI 0]) (r := .tup [.agg (fsyA (if e = 0 then awayF f dir s n else f)), aI e]) [b2 = b2] ⟨rfl, trivial⟩ (by
    rw [if_pos (show e = 0 from by omega), show e = 0 from by omega]
    exact Sub.refl _)) Tryz.func118 rfl (by kernel_rfl) (by kernel_rfl)
set_option maxRecDepth 100000 in
set_option maxHeartbeats 4000000 in
theorem take_spec (f : Fsy) (dir : Int) (s : Txt) (okf : OkF f) (hp : rowsP f) (hs : s.length ≤ 1000000) : FSpec Tryz.prog 114 [.agg [.sl 5 false (f.l.map nodA), aI f.next], aI dir, aS s] (.tup [.agg (fsyA (takeF f dir s)), aI (takeErr f dir s)]) := by
  have hl := hp.1
  have hr := rows_rise hp
  exact spec_vc (F := Tryz.f114) 400 (
 .new fun b1 => .new fun b2 => .new fun b3 => .new fun b4 => .r 1 <| .run 3 [b1 = b1, b2 = b2, b3 = b3] ⟨rfl, rfl, rfl, trivial⟩ <|
 .call (look_spec f dir s hp hs) <|
 .r 3 <| .new fun b5 => .run 2 [b5 = b5] ⟨rfl, trivial⟩ <|
 .run 2 [b5 = b5] ⟨rfl, trivial⟩ <|
 .call (full_spec (lookN f dir s) (look_node okf hp).2.2.2.2) <|
 .call (when_spec (fullB (lookN f dir s)) 11) <|
 .r 1 <| .callS (args0 := [.sl 1 true ([[aI (lookE f dir s)], [aI (whenE (fullB (lookN f dir s)) 11)]])]) (args := [.sl 1 false ([(lookE f dir s), (whenE (fullB (lookN f dir s)) 11)].map intA)]) ⟨first_lit2 (lookE f dir s) (whenE (fullB (lookN f dir s)) 11), trivial⟩ (first_spec [(lookE f dir s), (whenE (fullB (lookN f dir s)) 11)] (by simp)) <|
 .r 1 <| .frz 3 [3, 4, 5, 6, 7, 8, 9] [4, 5, 6, 8] [b1 = b1] ⟨rfl, trivial⟩ <|
 .frz 4 [3, 4, 5, 6, 7, 8, 9] [5, 6, 8] [b2 = b2] ⟨rfl, trivial⟩ <|
 .frz 5 [3, 4, 5, 6, 7, 8, 9] [6, 8] [b3 = b3] ⟨rfl, trivial⟩ <|
 .frz 8 [3, 4, 5, 6, 7, 8, 9] [6] [b5 = b5] ⟨rfl, trivial⟩ <|
 .r 3 <| .callS (args0 := [.agg [.sl 5 false (f.l.map nodA), aI f.next], aI (firstE [(lookE f dir s), (whenE (fullB (lookN f dir s)) 11)]), .clo 140 [.dptr [.sl 5 false (f.l.map nodA), aI f.next], .dptr [aI dir], .dptr [aS s], .dptr [aI ((lookN f dir s).ino), aI ((lookN f dir s).kind), aI ((lookN f dir s).links), aS ((lookN f dir s).text), .sl 2 false ((lookN f dir s).l.map entA)]]]) (args := [.agg [.sl 5 false (f.l.map nodA), aI f.next], aI (firstE [(lookE f dir s), (whenE (fullB (lookN f dir s)) 11)]), .clo 140 [.dptr [.sl 5 false (f.l.map nodA), aI f.next], .dptr [aI dir], .dptr [aS s], .dptr [aI ((lookN f dir s).ino), aI ((lookN f dir s).kind), aI ((lookN f dir s).links), aS ((lookN f dir s).text), .sl 2 false ((lookN f dir s).l.map entA)]]]) ⟨Sub.refl _, Sub.refl _, Sub.refl _, trivial⟩ (unless2_spec (firstE [(lookE f dir s), (whenE (fullB (lookN f dir s)) 11)]) f dir s (lookN f dir s) okf hp hs ⟨(look_node okf hp).1.1, (look_node okf hp).2.1⟩ ⟨(look_node okf hp).2.2.1, (look_node okf hp).2.2.2.1⟩) <|
 .run 4 [b4 = b4] ⟨rfl, trivial⟩ <|
 .fin (x := .tup [.agg [.sl 5 false ((if firstE [(lookE f dir s), (whenE (fullB (lookN f dir s)) 11)] = 0 then awayF f dir s (lookN f dir s) else f).l.map nodA), aI ((if firstE [(lookE f dir s), (whenE (fullB (lookN f dir s)) 11)] = 0 then awayF f dir s (lookN f dir s) else f).next)], aI (firstE [(lookE f dir s), (whenE (fullB (lookN f dir s)) 11)])]) (r := .tup [.agg (fsyA (takeF f dir s)), aI (takeErr f dir s)]) [b4 = b4] ⟨rfl, trivial⟩ (by exact Sub.refl _)) Tryz.func114 rfl (by kernel_rfl) (by kernel_rfl)
end Go.Proofs.YtkhnialfkndiiaaGreat
