/- A file system by its numbers: what is put, taken out, entered, left. name.Leave, dirs.leave, away, Take. dirs.Take. dirs.Give. -/
import Derived.Test.YtkepkbgebickiaaMrgQ
set_option linter.unusedVariables false
set_option linter.unusedSimpArgs false
namespace Go.Proofs.Ytkepkbgebickiaa
open Go Go.RowKit Copyhold
open Copyhold.Name (Srt insE delE getE isAt)
def atF (f : Fsy) (i : Int) : Option Nod := f.l.find? (isNo i)
theorem at_B (f : Fsy) (i : Int) : findB f i = (atF f i).isSome := findBN f i
theorem at_N (f : Fsy) (i : Int) : findN f i = (atF f i).getD nod0 := rfl
theorem at_ino {f : Fsy} {i : Int} {n : Nod} (h : atF f i = some n) : n.ino = i := by simpa [isNo] using List.find?_some h
theorem at_mem {f : Fsy} {i : Int} {n : Nod} (h : atF f i = some n) : n ∈ f.l := List.mem_of_find?_eq_some h
theorem at_of {f : Fsy} {n : Nod} (hr : RiseN f.l) (h : n ∈ f.l) : atF f n.ino = some n := find_unique hr h rfl
theorem at_BN {f : Fsy} {i : Int} {n : Nod} (h : atF f i = some n) : findB f i = true ∧ findN f i = n := ⟨by rw [at_B, h]; rfl, by rw [at_N, h]; rfl⟩
theorem at_no {f : Fsy} {i : Int} (h : atF f i = none) : findB f i = false ∧ findN f i = nod0 := ⟨by rw [at_B, h]; rfl, by rw [at_N, h]; rfl⟩
theorem at_some {f : Fsy} {i : Int} (h : findB f i = true) : atF f i = some (findN f i) := by
  rw [at_B] at h
  cases hc : atF f i with
  | none => rw [hc] at h; cases h
  | some n => rw [at_N, hc]; rfl
theorem at_none {f : Fsy} {i : Int} (h : findB f i = false) : atF f i = none := by
  rw [at_B] at h
  cases hc : atF f i with
  | none => rfl
  | some n => rw [hc] at h; cases h
theorem opt_of {a b : Option Nod} {i : Int} (ha : ∀ n, a = some n → n.ino = i) (h1 : a.isSome = b.isSome) (h2 : a.getD nod0 = b.getD nod0) : a = b := by
  cases a <;> cases b <;> simp_all
theorem at_put {f : Fsy} {n : Nod} {j : Int} (hr : RiseN f.l) : atF (putF f n) j = if j = n.ino then some n else atF f j := by
  by_cases hj : j = n.ino
  · rw [if_pos hj, hj]
    obtain ⟨h1, h2⟩ := find_put_self (n := n) hr
    rw [at_some h1, h2]
  · rw [if_neg hj]
    obtain ⟨h1, h2⟩ := find_put_other (n := n) hr hj
    exact opt_of (i := j) (fun n => at_ino) (by rw [← at_B, ← at_B, h1]) (by rw [← at_N, ← at_N, h2])
theorem at_out {f : Fsy} {i j : Int} (hr : RiseN f.l) : atF (outF f i) j = if j = i then none else atF f j := by
  obtain ⟨h1, h2⟩ := find_out (i := i) (j := j) hr
  by_cases hj : j = i
  · rw [if_pos hj]; rw [if_pos hj] at h1; exact at_none h1
  · rw [if_neg hj]; rw [if_neg hj] at h1 h2
    exact opt_of (i := j) (fun n => at_ino) (by rw [← at_B, ← at_B, h1]) (by rw [← at_N, ← at_N, h2])
theorem rise_ext : ∀ {a b : List Nod}, RiseN a → RiseN b → (∀ x, x ∈ a ↔ x ∈ b) → a = b
  | [], [], _, _, _ => rfl
  | [], y :: s, _, _, h => absurd ((h y).2 (by simp)) (by simp)
  | x :: r, [], _, _, h => absurd ((h x).1 (by simp)) (by simp)
  | x :: r, y :: s, ha, hb, h => by
    obtain ⟨ha1, ha2⟩ := List.pairwise_cons.1 ha
    obtain ⟨hb1, hb2⟩ := List.pairwise_cons.1 hb
    have e : x = y := by
      rcases List.mem_cons.1 ((h x).1 (by simp)) with e | e
      · exact e
      · rcases List.mem_cons.1 ((h y).2 (by simp)) with e2 | e2
        · exact e2.symm
        · have g1 : y.ino < x.ino := hb1 x e
          have g2 : x.ino < y.ino := ha1 y e2
          omega
    subst e
    rw [rise_ext ha2 hb2 fun z => ⟨fun hz => ?_, fun hz => ?_⟩]
    · rcases List.mem_cons.1 ((h z).1 (by simp [hz])) with e | e
      · subst e; have g : z.ino < z.ino := ha1 z hz; omega
      · exact e
    · rcases List.mem_cons.1 ((h z).2 (by simp [hz])) with e | e
      · subst e; have g : z.ino < z.ino := hb1 z hz; omega
      · exact e
theorem fsy_ext {f g : Fsy} (hf : RiseN f.l) (hg : RiseN g.l) (h : ∀ i, atF f i = atF g i) (hn : f.next = g.next) : f = g := by
  have e : f.l = g.l := rise_ext hf hg fun x => ⟨fun hx => by
    have := at_of hf hx; rw [h] at this; exact at_mem this, fun hx => by
    have := at_of hg hx; rw [← h] at this; exact at_mem this⟩
  cases f; cases g; simp_all
theorem rows_at {f : Fsy} (h : rowsP f) {i : Int} {n : Nod} (hn : atF f i = some n) : nodP n ∧ n.ino < f.next ∧ n.ino = i := by
  have := (rowsP_iff.1 h).2.2.1 n (at_mem hn)
  exact ⟨this.1, this.2, at_ino hn⟩
theorem putN_len {l : List Nod} {n : Nod} (h : thN l n.ino = true) : (putN l n).length = l.length := by
  have := plN_lt h
  unfold putN
  rw [if_pos h]
  simp only [List.length_append, List.length_cons, List.length_take, List.length_drop]
  omega
theorem put_len {f : Fsy} {n : Nod} (hr : RiseN f.l) (h : findB f n.ino = true) : (putF f n).l.length = f.l.length := putN_len (by rw [findB_eq hr] at h; exact h)
theorem put_next {f : Fsy} {n : Nod} (h : n.ino < f.next) : (putF f n).next = f.next := by
  show (if n.ino + 1 > f.next then n.ino + 1 else f.next) = f.next
  rw [if_neg (by omega)]
theorem put_next2 {f : Fsy} {n : Nod} (h : n.ino = f.next) : (putF f n).next = f.next + 1 := by
  show (if n.ino + 1 > f.next then n.ino + 1 else f.next) = _
  rw [if_pos (by omega), h]
theorem put_rows2 {f : Fsy} {n : Nod} (h : rowsP f) (hn : nodP n) (hb : findB f n.ino = true) : rowsP (putF f n) := by
  obtain ⟨h1, h2, h3, h4⟩ := rowsP_iff.1 h
  have hnx : f.next ≤ (putF f n).next ∧ n.ino + 1 ≤ (putF f n).next := by
    show f.next ≤ (if n.ino + 1 > f.next then n.ino + 1 else f.next) ∧ n.ino + 1 ≤ (if n.ino + 1 > f.next then n.ino + 1 else f.next)
    split <;> omega
  refine rowsP_iff.2 ⟨by rw [put_len h4 hb]; exact h1, by omega, fun x hx => ?_, put_rise h4⟩
  rcases mem_put hx with rfl | hx
  · exact ⟨hn, by omega⟩
  · have := h3 x hx
    exact ⟨this.1, by omega⟩
theorem lI_inj {a b : List Ent} (h : lI a = lI b) : a = b := by rw [← lI_O a, ← lI_O b, h]
theorem lI_len (l : List Ent) : (lI l).length = l.length := by simp [lI]
noncomputable def delL (l : List Ent) (s : Txt) : List Ent := if isB l s = true then l.take (posI l s) ++ l.drop (posI l s + 1) else l
def leaveE (l : List Ent) (s : Txt) : Int := if isB l s = true then 0 else 6
theorem lI_del {l : List Ent} (h : Srt (lI l)) (s : Txt) : lI (delL l s) = delE (lI l) s := by
  unfold delL
  split
  · rename_i hi
    rw [← Name.take_del h hi]
    simp [lI, posI, List.map_take, List.map_drop]
  · rename_i hi
    exact (Name.del_none (by simpa [isB] using hi)).symm
theorem entE_cases {l : List Ent} {s : Txt} {n : Int} (h : checkE s = 0) (hn : 1 ≤ n) (hi : isB l s = false) (hl : l.length < 256) : entE l s n = 0 := by
  unfold entE
  rw [if_neg (by rw [h]; decide), if_neg (by omega), if_neg (by rw [hi]; decide), if_neg (by omega)]
theorem lI_ent {l : List Ent} {s : Txt} {n : Int} (h : Srt (lI l)) (he : entE l s n = 0) : lI (entL l s n) = insE (lI l) (s, n) := by
  unfold entL
  rw [if_pos he, ← Name.take_ins h]
  simp [lI, posI, List.map_take, List.map_drop]
theorem del_ent {l : List Ent} {s : Txt} {n : Int} (h : Srt (lI l)) (he : entE l s n = 0) (hi : isB l s = false) : delL (entL l s n) s = l := by
  have hs : Srt (lI (entL l s n)) := by rw [lI_ent h he]; exact Name.srt_ins h hi
  apply lI_inj
  rw [lI_del hs, lI_ent h he, Name.del_ins hi]
theorem get_ent {l : List Ent} {s t : Txt} {n : Int} (h : Srt (lI l)) (he : entE l s n = 0) (hi : isB l s = false) : getE (lI (entL l s n)) t = if t = s then some n else getE (lI l) t := by
  rw [lI_ent h he, Name.get_ins hi]
theorem isB_get (l : List Ent) (s : Txt) : isB l s = (getE (lI l) s).isSome := Name.get_some
theorem getI_get (l : List Ent) (s : Txt) : getI l s = (getE (lI l) s).getD 0 := rfl
theorem right_iffE {l : List Ent} : Name.rightE (lI l) = true ↔ rowP l := by rw [rowP_iff, lI_O]
theorem ent_row {l : List Ent} {s : Txt} {n : Int} (h : rowP l) (hc : checkE s = 0) (hn : 1 ≤ n) (hi : isB l s = false) (hl : l.length < 256) : rowP (entL l s n) := by
  rw [← right_iffE, lI_ent (row_srt h) (entE_cases hc hn hi hl)]
  exact Name.right_ins (right_iffE.2 h) (checkP_iff.2 (checkE_iff.1 hc)) hn hi (by rw [lI_len]; exact hl)
theorem ent_len {l : List Ent} {s : Txt} {n : Int} : (entL l s n).length ≤ l.length + 1 := by
  unfold entL
  split
  · simp only [List.length_append, List.length_cons, List.length_take, List.length_drop]; omega
  · omega
theorem at_dir {f : Fsy} {i : Int} (h : dirE f i = 0) : ∃ d, atF f i = some d ∧ d.kind = 2 ∧ dirN f i = d ∧ findN f i = d ∧ findB f i = true := by
  unfold dirE at h
  split at h
  · rename_i hb
    split at h
    · rename_i hk
      exact ⟨findN f i, at_some hb, hk, (dirE_0 hb hk).2, rfl, hb⟩
    · cases h
  · cases h
theorem dir_of {f : Fsy} {i : Int} {d : Nod} (h : atF f i = some d) (hk : d.kind = 2) : dirE f i = 0 ∧ dirN f i = d := by
  obtain ⟨h1, h2⟩ := at_BN h
  have := dirE_0 h1 (by rw [h2]; exact hk)
  rw [h2] at this
  exact this
theorem dir_row {n : Nod} (h : nodP n) (hk : n.kind = 2) : n.text = [] ∧ rowP n.l := by
  rcases h.2.2.2 with ⟨_, h1, h2⟩ | ⟨h1, _⟩
  · exact ⟨h1, h2⟩
  · omega
theorem look_at {f : Fsy} {i : Int} {s : Txt} {d n : Nod} {j : Int} (h1 : atF f i = some d) (h2 : d.kind = 2) (h3 : checkE s = 0) (h4 : getE (lI d.l) s = some j) (h5 : atF f j = some n) : lookE f i s = 0 ∧ lookN f i s = n := by
  obtain ⟨g1, g2⟩ := dir_of h1 h2
  have hi : lookI f i s = j := by unfold lookI; rw [g2, getI_get, h4]; rfl
  have he : lookE f i s = 0 := by
    unfold lookE
    rw [first3, if_pos g1, if_pos h3, hi, (at_BN h5).1]
    rfl
  exact ⟨he, by rw [look_yes he, hi, (at_BN h5).2]⟩
theorem look_gone {f : Fsy} {i : Int} {s : Txt} {d : Nod} (hp : rowsP f) (h1 : atF f i = some d) (h2 : d.kind = 2) (h3 : checkE s = 0) (h4 : getE (lI d.l) s = none) : lookE f i s = 6 := by
  obtain ⟨g1, g2⟩ := dir_of h1 h2
  have hi : lookI f i s = 0 := by unfold lookI; rw [g2, getI_get, h4]; rfl
  unfold lookE
  rw [first3, if_pos g1, if_pos h3, hi, find_0 hp]
  rfl
end Go.Proofs.Ytkepkbgebickiaa

set_option linter.unusedVariables false
set_option linter.unusedSimpArgs false
namespace Go.Proofs.Ytkepkbgebickiaa
open Go Go.RowKit Copyhold
open Copyhold.Name (Srt insE delE getE isAt)
theorem posI_lt {l : List Ent} {s : Txt} (h : Srt (lI l)) (hi : isB l s = true) : posI l s < l.length := by
  obtain ⟨x, hx, _⟩ := Name.get_pos h hi
  have := lt_of_some hx
  rw [lI_len] at this
  exact this
theorem get_at {l : List Ent} {s : Txt} {x : Ent} (h : Srt (lI l)) (hi : isB l s = true) (hx : l[posI l s]? = some x) : getI l s = x.ino := by
  obtain ⟨y, hy, _, hg⟩ := Name.get_pos h hi
  rw [getI_get, hg]
  have : (lI l)[Name.pos (lI l) s]? = some ((x.name, x.ino) : NEnt) := by
    unfold lI at hy ⊢
    rw [List.getElem?_map]
    have hx' : l[Name.pos (lI l) s]? = some x := hx
    unfold lI at hx'
    rw [hx']
    rfl
  rw [this] at hy
  obtain rfl := Option.some.inj hy
  rfl
set_option maxRecDepth 100000 in
set_option maxHeartbeats 4000000 in
theorem leave_spec (l : List Ent) (s : Txt) (hl : l.length ≤ 256) (hr : Name.Srt (lI l)) : FSpec Try.prog 63 [.sl 2 false (l.map entA), aS s] (.tup [.sl 2 false ((delL l s).map entA), aI (getI l s), aI (leaveE l s)]) := by
  exact spec_vc (F := Try.f63) 400 (
 .r 3 <| .r 2 <| .call (nplace_spec l s (by omega) hr) <|
 .r 5 <| .r 2 <| .br 17 (!(isB l s)) (fun q1 => have q1 := notT q1; have p1 := booF q1; .r 4 <| .fin (x := .tup [.sl 2 false (l.map entA), aI 0, aI 6]) (r := .tup [.sl 2 false ((delL l s).map entA), aI (getI l s), aI (leaveE l s)]) [] trivial (by
    have e : delL l s = l := if_neg (by rw [q1]; decide)
    have e2 : leaveE l s = 6 := if_neg (by rw [q1]; decide)
    rw [e, e2, get_away q1]
    exact Sub.tups ⟨by first | exact Sub.refl _ | exact Sub.loose _ _ _, Sub.refl _, Sub.refl _, trivial⟩))
 <| fun q1 => have q1 := notF q1; have p1 := booT q1; have hlt := posI_lt hr q1; .r 2 <| .val 20 (show (aI ((l.map entA).length : Int) : AV) = aI (l.length : Int) from by rw [List.length_map]) <| .mk0 24 l.length (show (l.length : Int) = ((l.length : Nat) : Int) from by omega) (by have hq := posI_le l s; simp <;> omega) (by have hq := posI_le l s; simp <;> omega) fun V1 =>
 .r 1 <| .r 3 <| .slc 2 false (l.map entA) none (some (posI l s : Int)) none 0 (posI l s) false (.inl ⟨rfl, rfl⟩) (.inr rfl) (.inl ⟨rfl, fun h => by cases h⟩) (by have hq := posI_le l s; first | omega | (rw [List.length_map]; omega) | (simp <;> omega)) (by have hq := posI_le l s; first | omega | (rw [List.length_map]; omega) | (simp <;> omega)) <|
 .app 24 V1 ([] : List (List AV)) (((l.map entA).take (posI l s)).drop 0) (by have hq := posI_le l s; simp <;> omega) (by have hq := posI_le l s; simp <;> omega) fun V2 =>
 .r 1 <| .pick [0, 1, 2, 3, 4, 6, 7, 8, 9] <| .run 4 [rng .i64 ((posI l s : Int) + 1)] ⟨rng64 (by omega) (by omega), trivial⟩ <|
 .slc 2 false (l.map entA) (some ((posI l s : Int) + 1)) none none (posI l s + 1) ((l.map entA).length) false (.inr (congrArg some (by omega))) (.inl ⟨rfl, rfl⟩) (.inl ⟨rfl, fun h => by cases h⟩) (by have hq := posI_le l s; first | omega | (rw [List.length_map]; omega) | (simp <;> omega)) (by have hq := posI_le l s; first | omega | (rw [List.length_map]; omega) | (simp <;> omega)) <|
 .r 2 <| .idxM l entA (posI l s) (m := (posI l s : Int)) rfl (posI_lt hr (by assumption)) fun x1 hx1 =>
 .r 1 <| .fork <| .alt (.app 24 V2 (([] : List (List AV)) ++ (((l.map entA).take (posI l s)).drop 0)) (((l.map entA).take ((l.map entA).length)).drop (posI l s + 1)) (by have hq := posI_le l s; simp <;> omega) (by have hq := posI_le l s; simp <;> omega) fun V3 =>
 .pick [10, 11, 12, 13] <| .r 4 <| .frz 21 [4, 5, 6] [] [V3 = V3, (([] : List (List AV)) ++ (((l.map entA).take (posI l s)).drop 0)).length + (((l.map entA).take ((l.map entA).length)).drop (posI l s + 1)).length = ((([] : List (List AV)) ++ (((l.map entA).take (posI l s)).drop 0)) ++ (((l.map entA).take ((l.map entA).length)).drop (posI l s + 1))).length] ⟨rfl, (by first | rfl | (simp; done) | (simp; omega)), trivial⟩ <|
 .fin (x := .tup [.sl 2 false ((([] : List (List AV)) ++ (((l.map entA).take (posI l s)).drop 0)) ++ (((l.map entA).take ((l.map entA).length)).drop (posI l s + 1))), aI x1.ino, aI 0]) (r := .tup [.sl 2 false ((delL l s).map entA), aI (getI l s), aI (leaveE l s)]) [] trivial (by
    have e : delL l s = l.take (posI l s) ++ l.drop (posI l s + 1) := if_pos q1
    have e2 : leaveE l s = 0 := if_pos q1
    rw [e, e2, get_at hr q1 hx1]
    exact Sub.tups ⟨Sub.of_eq (congrArg (AV.sl 2 false) (by simp [entA, List.map_take, List.map_drop, take_all])), Sub.refl _, Sub.refl _, trivial⟩))
 <| .r 1 <| .pick [5, 11, 12, 13] <| .app 24 V2 (([] : List (List AV)) ++ (((l.map entA).take (posI l s)).drop 0)) (((l.map entA).take ((l.map entA).length)).drop (posI l s + 1)) (by have hq := posI_le l s; simp <;> omega) (by have hq := posI_le l s; simp <;> omega) fun V4 =>
 .r 3 <| .frz 21 [4, 5, 6] [] [V4 = V4, (([] : List (List AV)) ++ (((l.map entA).take (posI l s)).drop 0)).length + (((l.map entA).take ((l.map entA).length)).drop (posI l s + 1)).length = ((([] : List (List AV)) ++ (((l.map entA).take (posI l s)).drop 0)) ++ (((l.map entA).take ((l.map entA).length)).drop (posI l s + 1))).length] ⟨rfl, (by first | rfl | (simp; done) | (simp; omega)), trivial⟩ <|
 .fin (x := .tup [.sl 2 false ((([] : List (List AV)) ++ (((l.map entA).take (posI l s)).drop 0)) ++ (((l.map entA).take ((l.map entA).length)).drop (posI l s + 1))), aI x1.ino, aI 0]) (r := .tup [.sl 2 false ((delL l s).map entA), aI (getI l s), aI (leaveE l s)]) [] trivial (by
    have e : delL l s = l.take (posI l s) ++ l.drop (posI l s + 1) := if_pos q1
    have e2 : leaveE l s = 0 := if_pos q1
    rw [e, e2, get_at hr q1 hx1]
    exact Sub.tups ⟨Sub.of_eq (congrArg (AV.sl 2 false) (by simp [entA, List.map_take, List.map_drop, take_all])), Sub.refl _, Sub.refl _, trivial⟩)) Try.func63 rfl (by kernel_rfl) (by kernel_rfl)
noncomputable def leaveF (f : Fsy) (d : Int) (s : Txt) : Fsy := putF f (withL (findN f d) (delL (findN f d).l s))
noncomputable def awayN (n : Nod) : Nod := ⟨n.ino, n.kind, n.links - 1, n.text, n.l⟩
noncomputable def awayF (f : Fsy) (d : Int) (s : Txt) (n : Nod) : Fsy := if n.links - 1 < 1 then outF (leaveF f d s) n.ino else putF (leaveF f d s) (awayN n)
set_option maxRecDepth 100000 in
set_option maxHeartbeats 4000000 in
theorem dleave_spec (f : Fsy) (dir : Int) (s : Txt) (okf : OkF f) (hp : rowsP f) (hs : s.length ≤ 1000000) : FSpec Try.prog 47 [.agg [.sl 5 false (f.l.map nodA), aI f.next], aI dir, aS s] (.agg (fsyA (leaveF f dir s))) := by
  have hl := hp.1
  have hr := rows_rise hp
  exact spec_vc (F := Try.f47) 400 (
 .new fun b1 => .new fun b2 => .run 2 [b1 = b1] ⟨rfl, trivial⟩ <|
 .call (tfind_spec f dir (by omega) hr) <|
 .r 3 <| .new fun b3 => .run 2 [b3 = b3] ⟨rfl, trivial⟩ <|
 .run 3 [b3 = b3] ⟨rfl, trivial⟩ <|
 .call (leave_spec ((findN f dir).l) s (find_srt hp dir).2 (find_srt hp dir).1) <|
 .run 6 [b3 = b3] ⟨rfl, trivial⟩ <|
 .run 2 [b1 = b1, b3 = b3] ⟨rfl, rfl, trivial⟩ <|
 .callS (args0 := [.agg [.sl 5 false (f.l.map nodA), aI f.next], .agg [aI ((findN f dir).ino), aI ((findN f dir).kind), aI ((findN f dir).links), aS ((findN f dir).text), .sl 2 false ((delL ((findN f dir).l) s).map entA)]]) (args := [.agg [.sl 5 false (f.l.map nodA), aI f.next], .agg [aI ((withL (findN f dir) (delL (findN f dir).l s)).ino), aI ((withL (findN f dir) (delL (findN f dir).l s)).kind), aI ((withL (findN f dir) (delL (findN f dir).l s)).links), aS ((withL (findN f dir) (delL (findN f dir).l s)).text), .sl 2 false ((withL (findN f dir) (delL (findN f dir).l s)).l.map entA)]]) ⟨Sub.refl _, Sub.refl _, trivial⟩ (put_spec f (withL (findN f dir) (delL (findN f dir).l s)) (find_I64 okf hp dir) (by omega) hr) <|
 .run 1 [b2 = b2] ⟨rfl, trivial⟩ <|
 .fin (x := .agg [.sl 5 false ((putF f (withL (findN f dir) (delL (findN f dir).l s))).l.map nodA), aI ((putF f (withL (findN f dir) (delL (findN f dir).l s))).next)]) (r := .agg (fsyA (leaveF f dir s))) [b2 = b2] ⟨rfl, trivial⟩ (by exact Sub.refl _)) Try.func47 rfl (by kernel_rfl) (by kernel_rfl)
theorem leave_le (f : Fsy) (d : Int) (s : Txt) : (leaveF f d s).l.length ≤ f.l.length + 1 := putN_le _ _
theorem leave_rise {f : Fsy} (h : rowsP f) (d : Int) (s : Txt) : RiseN (leaveF f d s).l := put_rise (rows_rise h)
set_option maxRecDepth 100000 in
set_option maxHeartbeats 4000000 in
theorem away_spec (f : Fsy) (dir : Int) (s : Txt) (n : Nod) (okf : OkF f) (hp : rowsP f) (hs : s.length ≤ 1000000) (hn : I64 n.ino ∧ n.ino < 9223372036854775807) (hk : 0 ≤ n.links ∧ n.links ≤ 1000) : FSpec Try.prog 43 [.agg [.sl 5 false (f.l.map nodA), aI f.next], aI dir, aS s, .agg [aI n.ino, aI n.kind, aI n.links, aS n.text, .sl 2 false (n.l.map entA)]] (.agg (fsyA (awayF f dir s n))) := by
  have hl := hp.1
  have hr := rows_rise hp
  exact spec_vc (F := Try.f43) 400 (
 .new fun b1 => .new fun b2 => .new fun b3 => .run 3 [b1 = b1] ⟨rfl, trivial⟩ <|
 .call (dleave_spec f dir s okf hp (by omega)) <|
 .run 1 [b1 = b1] ⟨rfl, trivial⟩ <|
 .run 5 [b2 = b2, rng .i64 (n.links - 1), b2 = b2] ⟨rfl, rng64 (by omega) (by omega), rfl, trivial⟩ <|
 .run 3 [b2 = b2] ⟨rfl, trivial⟩ <|
 .br 19 (decide ((n.links - 1) < 1)) (fun q1 => have p1 := decT q1; .run 3 [b1 = b1, b2 = b2] ⟨rfl, rfl, trivial⟩ <|
 .call (out_spec (leaveF f dir s) n.ino (by have := leave_le f dir s; omega) (leave_rise hp dir s)) <|
 .run 1 [b3 = b3] ⟨rfl, trivial⟩ <|
 .fin (x := .agg [.sl 5 false ((outF (leaveF f dir s) n.ino).l.map nodA), aI ((outF (leaveF f dir s) n.ino).next)]) (r := .agg (fsyA (awayF f dir s n))) [b3 = b3] ⟨rfl, trivial⟩ (by
    have e : awayF f dir s n = _ := if_pos (by omega)
    rw [e]
    exact Sub.refl _))
 <| fun q1 => have p1 := decF q1; .run 2 [b1 = b1, b2 = b2] ⟨rfl, rfl, trivial⟩ <|
 .callS (args0 := [.agg [.sl 5 false ((leaveF f dir s).l.map nodA), aI ((leaveF f dir s).next)], .agg [aI n.ino, aI n.kind, aI (n.links - 1), aS n.text, .sl 2 false (n.l.map entA)]]) (args := [.agg [.sl 5 false ((leaveF f dir s).l.map nodA), aI ((leaveF f dir s).next)], .agg [aI ((awayN n).ino), aI ((awayN n).kind), aI ((awayN n).links), aS ((awayN n).text), .sl 2 false ((awayN n).l.map entA)]]) ⟨Sub.refl _, Sub.refl _, trivial⟩ (put_spec (leaveF f dir s) (awayN n) hn (by have := leave_le f dir s; omega) (leave_rise hp dir s)) <|
 .run 1 [b3 = b3] ⟨rfl, trivial⟩ <|
 .fin (x := .agg [.sl 5 false ((putF (leaveF f dir s) (awayN n)).l.map nodA), aI ((putF (leaveF f dir s) (awayN n)).next)]) (r := .agg (fsyA (awayF f dir s n))) [b3 = b3] ⟨rfl, trivial⟩ (by
    have e : awayF f dir s n = _ := if_neg (by omega)
    rw [e]
    exact Sub.refl _)) Try.func43 rfl (by kernel_rfl) (by kernel_rfl)
end Go.Proofs.Ytkepkbgebickiaa

set_option linter.unusedVariables false
set_option linter.unusedSimpArgs false
namespace Go.Proofs.Ytkepkbgebickiaa
open Go Go.RowKit Copyhold
noncomputable def takeErr (f : Fsy) (d : Int) (s : Txt) : Int := firstE [lookE f d s, whenE (fullB (lookN f d s)) 11]
noncomputable def takeF (f : Fsy) (d : Int) (s : Txt) : Fsy := if takeErr f d s = 0 then awayF f d s (lookN f d s) else f
theorem look_node {f : Fsy} {d : Int} {s : Txt} (okf : OkF f) (hp : rowsP f) : OkN (lookN f d s) ∧ (lookN f d s).ino < 9223372036854775807 ∧ 0 ≤ (lookN f d s).links ∧ (lookN f d s).links ≤ 1000 ∧ (lookN f d s).l.length ≤ 8796093022207 := by
  unfold lookN
  split
  · have hb := find_I64 okf hp (lookI f d s)
    have hk := findN_ok okf (lookI f d s)
    refine ⟨hk, hb.2, ?_, ?_, hk.2.2.2.2.1⟩
    · by_cases h : findB f (lookI f d s) = true
      · exact ((rowsP_iff.1 hp).2.2.1 _ (find_mem h)).1.2.1
      · rw [(at_no (at_none (by simpa using h))).2]; decide
    · by_cases h : findB f (lookI f d s) = true
      · have := ((rowsP_iff.1 hp).2.2.1 _ (find_mem h)).1.2.2.1; omega
      · rw [(at_no (at_none (by simpa using h))).2]; decide
  · exact ⟨nod0_ok, by decide, by decide, by decide, by decide⟩
set_option maxRecDepth 100000 in
set_option maxHeartbeats 4000000 in
theorem take1_spec (f : Fsy) (dir : Int) (s : Txt) (n : Nod) (okf : OkF f) (hp : rowsP f) (hs : s.length ≤ 1000000) (hn : I64 n.ino ∧ n.ino < 9223372036854775807) (hk : 0 ≤ n.links ∧ n.links ≤ 1000) : FSpec Try.prog 42 [.dptr [.sl 5 false (f.l.map nodA), aI f.next], .dptr [aI dir], .dptr [aS s], .dptr [aI n.ino, aI n.kind, aI n.links, aS n.text, .sl 2 false (n.l.map entA)]] (.agg (fsyA (awayF f dir s n))) := by
  exact spec_vc (F := Try.f42) 400 (
 .new fun b1 => .r 4 <| .call (away_spec f dir s n okf hp hs hn hk) <|
 .run 1 [b1 = b1] ⟨rfl, trivial⟩ <|
 .fin (x := .agg [.sl 5 false ((awayF f dir s n).l.map nodA), aI ((awayF f dir s n).next)]) (r := .agg (fsyA (awayF f dir s n))) [b1 = b1] ⟨rfl, trivial⟩ (by exact Sub.refl _)) Try.func42 rfl (by kernel_rfl) (by kernel_rfl)
set_option maxRecDepth 100000 in
set_option maxHeartbeats 4000000 in
theorem unless2_spec (e : Int) (f : Fsy) (dir : Int) (s : Txt) (n : Nod) (okf : OkF f) (hp : rowsP f) (hs : s.length ≤ 1000000) (hn : I64 n.ino ∧ n.ino < 9223372036854775807) (hk : 0 ≤ n.links ∧ n.links ≤ 1000) : FSpec Try.prog 37 [.agg [.sl 5 false (f.l.map nodA), aI f.next], aI e, .clo 42 [.dptr [.sl 5 false (f.l.map nodA), aI f.next], .dptr [aI dir], .dptr [aS s], .dptr [aI n.ino, aI n.kind, aI n.links, aS n.text, .sl 2 false (n.l.map entA)]]] (.tup [.agg (fsyA (if e = 0 then awayF f dir s n else f)), aI e]) := by
  exact spec_vc (F := Try.f37) 400 (
 .new fun b1 => .new fun b2 => .r 1 <| .r 2 <| .br 9 (e != 0) (fun q1 => have p1 := bneT q1; .run 4 [b1 = b1, b2 = b2] ⟨rfl, rfl, trivial⟩ <|
 .fin (x := .tup [.agg [.sl 5 false (f.l.map nodA), aI f.next], aI e]) (r := .tup [.agg (fsyA (if e = 0 then awayF f dir s n else f)), aI e]) [b2 = b2] ⟨rfl, trivial⟩ (by
    rw [if_neg (show ¬ e = 0 from by omega)]
    exact Sub.refl _))
 <| fun q1 => have p1 := bneF q1; .r 1 <| .call (take1_spec f dir s n okf hp hs hn hk) <|
 .run 2 [b2 = b2] ⟨rfl, trivial⟩ <|
 .fin (x := .tup [.agg [.sl 5 false ((awayF f dir s n).l.map nodA), aI ((awayF f dir s n).next)], aI 0]) (r := .tup [.agg (fsyA (if e = 0 then awayF f dir s n else f)), aI e]) [b2 = b2] ⟨rfl, trivial⟩ (by
    rw [if_pos (show e = 0 from by omega), show e = 0 from by omega]
    exact Sub.refl _)) Try.func37 rfl (by kernel_rfl) (by kernel_rfl)
set_option maxRecDepth 100000 in
set_option maxHeartbeats 4000000 in
theorem take_spec (f : Fsy) (dir : Int) (s : Txt) (okf : OkF f) (hp : rowsP f) (hs : s.length ≤ 1000000) : FSpec Try.prog 18 [.agg [.sl 5 false (f.l.map nodA), aI f.next], aI dir, aS s] (.tup [.agg (fsyA (takeF f dir s)), aI (takeErr f dir s)]) := by
  have hl := hp.1
  have hr := rows_rise hp
  exact spec_vc (F := Try.f18) 400 (
 .new fun b1 => .new fun b2 => .new fun b3 => .new fun b4 => .r 1 <| .run 3 [b1 = b1, b2 = b2, b3 = b3] ⟨rfl, rfl, rfl, trivial⟩ <|
 .call (look_spec f dir s hp hs) <|
 .r 3 <| .new fun b5 => .run 2 [b5 = b5] ⟨rfl, trivial⟩ <|
 .run 2 [b5 = b5] ⟨rfl, trivial⟩ <|
 .call (full_spec (lookN f dir s) (look_node okf hp).2.2.2.2) <|
 .call (when_spec (fullB (lookN f dir s)) 11) <|
 .r 1 <| .callS (args0 := [.sl 1 true ([[aI (lookE f dir s)], [aI (whenE (fullB (lookN f dir s)) 11)]])]) (args := [.sl 1 false ([(lookE f dir s), (whenE (fullB (lookN f dir s)) 11)].map intA)]) ⟨first_lit2 (lookE f dir s) (whenE (fullB (lookN f dir s)) 11), trivial⟩ (first_spec [(lookE f dir s), (whenE (fullB (lookN f dir s)) 11)] (by simp)) <|
 .r 1 <| .frz 3 [3, 4, 5, 6, 7, 8, 9] [4, 5, 6, 8] [b1 = b1] ⟨rfl, trivial⟩ <|
 .frz 4 [3, 4, 5, 6, 7, 8, 9] [5, 6, 8] [b2 = b2] ⟨rfl, trivial⟩ <|
 .frz 5 [3, 4, 5, 6, 7, 8, 9] [6, 8] [b3 = b3] ⟨rfl, trivial⟩ <|
 .frz 8 [3, 4, 5, 6, 7, 8, 9] [6] [b5 = b5] ⟨rfl, trivial⟩ <|
 .r 3 <| .callS (args0 := [.agg [.sl 5 false (f.l.map nodA), aI f.next], aI (firstE [(lookE f dir s), (whenE (fullB (lookN f dir s)) 11)]), .clo 42 [.dptr [.sl 5 false (f.l.map nodA), aI f.next], .dptr [aI dir], .dptr [aS s], .dptr [aI ((lookN f dir s).ino), aI ((lookN f dir s).kind), aI ((lookN f dir s).links), aS ((lookN f dir s).text), .sl 2 false ((lookN f dir s).l.map entA)]]]) (args := [.agg [.sl 5 false (f.l.map nodA), aI f.next], aI (firstE [(lookE f dir s), (whenE (fullB (lookN f dir s)) 11)]), .clo 42 [.dptr [.sl 5 false (f.l.map nodA), aI f.next], .dptr [aI dir], .dptr [aS s], .dptr [aI ((lookN f dir s).ino), aI ((lookN f dir s).kind), aI ((lookN f dir s).links), aS ((lookN f dir s).text), .sl 2 false ((lookN f dir s).l.map entA)]]]) ⟨Sub.refl _, Sub.refl _, Sub.refl _, trivial⟩ (unless2_spec (firstE [(lookE f dir s), (whenE (fullB (lookN f dir s)) 11)]) f dir s (lookN f dir s) okf hp hs ⟨(look_node okf hp).1.1, (look_node okf hp).2.1⟩ ⟨(look_node okf hp).2.2.1, (look_node okf hp).2.2.2.1⟩) <|
 .run 4 [b4 = b4] ⟨rfl, trivial⟩ <|
 .fin (x := .tup [.agg [.sl 5 false ((if firstE [(lookE f dir s), (whenE (fullB (lookN f dir s)) 11)] = 0 then awayF f dir s (lookN f dir s) else f).l.map nodA), aI ((if firstE [(lookE f dir s), (whenE (fullB (lookN f dir s)) 11)] = 0 then awayF f dir s (lookN f dir s) else f).next)], aI (firstE [(lookE f dir s), (whenE (fullB (lookN f dir s)) 11)])]) (r := .tup [.agg (fsyA (takeF f dir s)), aI (takeErr f dir s)]) [b4 = b4] ⟨rfl, trivial⟩ (by exact Sub.refl _)) Try.func18 rfl (by kernel_rfl) (by kernel_rfl)
end Go.Proofs.Ytkepkbgebickiaa

set_option linter.unusedVariables false
set_option linter.unusedSimpArgs false
namespace Go.Proofs.Ytkepkbgebickiaa
open Go Go.RowKit Copyhold
theorem first_lit6 {t : Bool} (a b c d e g : Int) : Sub (.sl 1 t [[aI a], [aI b], [aI c], [aI d], [aI e], [aI g]]) (.sl 1 false ([a, b, c, d, e, g].map intA)) := Sub.loose _ _ _
noncomputable def giveN (n : Nod) : Nod := ⟨n.ino, n.kind, n.links + 1, n.text, n.l⟩
noncomputable def giveF0 (f : Fsy) (d : Int) (s : Txt) (i : Int) (n : Nod) : Fsy := putF (enterF f d s i) (giveN n)
noncomputable def giveErr (f : Fsy) (d : Int) (s : Txt) (i : Int) : Int := firstE [dirE f d, whenE (!(findB f i)) 6, whenE ((findN f i).kind == 2) 9, checkE s, whenE (isB (dirN f d).l s) 7, whenE (decide (((dirN f d).l.length : Int) ≥ 256) || decide ((findN f i).links ≥ 64)) 12]
noncomputable def giveF (f : Fsy) (d : Int) (s : Txt) (i : Int) : Fsy := if giveErr f d s i = 0 then giveF0 f d s i (findN f i) else f
theorem find_links {f : Fsy} (hp : rowsP f) (i : Int) : 0 ≤ (findN f i).links ∧ (findN f i).links ≤ 64 := by
  by_cases h : findB f i = true
  · have := ((rowsP_iff.1 hp).2.2.1 _ (find_mem h)).1
    exact ⟨this.2.1, this.2.2.1⟩
  · rw [(at_no (at_none (by simpa using h))).2]; decide
set_option maxRecDepth 100000 in
set_option maxHeartbeats 4000000 in
theorem give1_spec (f : Fsy) (dir : Int) (s : Txt) (i : Int) (n : Nod) (b : Nat) (okf : OkF f) (hp : rowsP f) (hs : s.length ≤ 1000000) (hi : I64 i) (hn : I64 n.ino ∧ n.ino < 9223372036854775807) (hk : 0 ≤ n.links ∧ n.links ≤ 1000) : LSpec Try.prog 48 [.ptr 12 b 0, .dptr [.sl 5 false (f.l.map nodA), aI f.next], .dptr [aI dir], .dptr [aS s], .dptr [aI i]] (.box b 31 [aI n.ino, aI n.kind, aI n.links, aS n.text, .sl 2 false (n.l.map entA)]) (.agg (fsyA (giveF0 f dir s i n))) := by
  have hl := hp.1
  have hr := rows_rise hp
  exact lspec_vc (q := 12) (F := Try.f48) 400 (
 .new fun b1 => .run 5 [b = b, rng .i64 (n.links + 1), b = b] ⟨rfl, rng64 (by omega) (by omega), rfl, trivial⟩ <|
 .ord [0, 1, 2, 3, 5, 4, 6, 7] <| .run 5 [b = b] ⟨rfl, trivial⟩ <|
 .call (denter_spec f dir s i okf hp (by omega) hi) <|
 .callS (args0 := [.agg [.sl 5 false ((enterF f dir s i).l.map nodA), aI ((enterF f dir s i).next)], .agg [aI n.ino, aI n.kind, aI (n.links + 1), aS n.text, .sl 2 false (n.l.map entA)]]) (args := [.agg [.sl 5 false ((enterF f dir s i).l.map nodA), aI ((enterF f dir s i).next)], .agg [aI ((giveN n).ino), aI ((giveN n).kind), aI ((giveN n).links), aS ((giveN n).text), .sl 2 false ((giveN n).l.map entA)]]) ⟨Sub.refl _, Sub.refl _, trivial⟩ (put_spec (enterF f dir s i) (giveN n) hn (by have := enter_le f dir s i; omega) (enter_rise hp dir s i)) <|
 .run 1 [b1 = b1] ⟨rfl, trivial⟩ <|
 .fin (x := .agg [.sl 5 false ((putF (enterF f dir s i) (giveN n)).l.map nodA), aI ((putF (enterF f dir s i) (giveN n)).next)]) (r := .agg (fsyA (giveF0 f dir s i n))) [b1 = b1] ⟨rfl, trivial⟩ (by exact Sub.refl _)) Try.func48 rfl (by kernel_rfl) (by kernel_rfl)
set_option maxRecDepth 100000 in
set_option maxHeartbeats 4000000 in
theorem unless3_spec (e : Int) (f : Fsy) (dir : Int) (s : Txt) (i : Int) (n : Nod) (b : Nat) (okf : OkF f) (hp : rowsP f) (hs : s.length ≤ 1000000) (hi : I64 i) (hn : I64 n.ino ∧ n.ino < 9223372036854775807) (hk : 0 ≤ n.links ∧ n.links ≤ 1000) : LSpec Try.prog 37 [.agg [.sl 5 false (f.l.map nodA), aI f.next], aI e, .clo 48 [.ptr 12 b 0, .dptr [.sl 5 false (f.l.map nodA), aI f.next], .dptr [aI dir], .dptr [aS s], .dptr [aI i]]] (.box b 31 [aI n.ino, aI n.kind, aI n.links, aS n.text, .sl 2 false (n.l.map entA)]) (.tup [.agg (fsyA (if e = 0 then giveF0 f dir s i n else f)), aI e]) := by
  exact lspec_vc (q := 12) (F := Try.f37) 400 (
 .new fun b1 => .new fun b2 => .r 1 <| .r 2 <| .br 9 (e != 0) (fun q1 => have p1 := bneT q1; .run 4 [b1 = b1, b2 = b2] ⟨rfl, rfl, trivial⟩ <|
 .fin (x := .tup [.agg [.sl 5 false (f.l.map nodA), aI f.next], aI e]) (r := .tup [.agg (fsyA (if e = 0 then giveF0 f dir s i n else f)), aI e]) [b2 = b2] ⟨rfl, trivial⟩ (by
    rw [if_neg (show ¬ e = 0 from by omega)]
    exact Sub.refl _))
 <| fun q1 => have p1 := bneF q1; .lent 1 <| .r 1 <| .lop (lcR Try.prog 12) ((48, [.ptr 12 b 0, .dptr [.sl 5 false (f.l.map nodA), aI f.next], .dptr [aI dir], .dptr [aS s], .dptr [aI i]], some 13), .box b 31 [aI n.ino, aI n.kind, aI n.links, aS n.text, .sl 2 false (n.l.map entA)]) (fun (_ : Unit) σ => (σ.put (some 13) (.agg [.sl 5 false ((giveF0 f dir s i n).l.map nodA), aI ((giveF0 f dir s i n).next)])).setB 12 gone) (rule_lent (args' := [.ptr 12 b 0, .dptr [.sl 5 false (f.l.map nodA), aI f.next], .dptr [aI dir], .dptr [aS s], .dptr [aI i]]) ⟨Sub.refl _, Sub.refl _, Sub.refl _, Sub.refl _, Sub.refl _, trivial⟩ (give1_spec f dir s i n b okf hp hs hi hn hk)) fun _ =>
 .run 2 [b2 = b2] ⟨rfl, trivial⟩ <|
 .fin (x := .tup [.agg [.sl 5 false ((giveF0 f dir s i n).l.map nodA), aI ((giveF0 f dir s i n).next)], aI 0]) (r := .tup [.agg (fsyA (if e = 0 then giveF0 f dir s i n else f)), aI e]) [b2 = b2] ⟨rfl, trivial⟩ (by
    rw [if_pos (show e = 0 from by omega), show e = 0 from by omega]
    exact Sub.refl _)) Try.func37 rfl (by kernel_rfl) (by kernel_rfl)
set_option maxRecDepth 100000 in
set_option maxHeartbeats 4000000 in
theorem give_spec (f : Fsy) (dir : Int) (s : Txt) (i : Int) (okf : OkF f) (hp : rowsP f) (hs : s.length ≤ 1000000) (hi : I64 i) : FSpec Try.prog 21 [.agg [.sl 5 false (f.l.map nodA), aI f.next], aI dir, aS s, aI i] (.tup [.agg (fsyA (giveF f dir s i)), aI (giveErr f dir s i)]) := by
  have hl := hp.1
  have hr := rows_rise hp
  exact spec_vc (F := Try.f21) 400 (
 .new fun b1 => .new fun b2 => .new fun b3 => .new fun b4 => .new fun b5 => .r 1 <| .run 2 [b1 = b1, b2 = b2] ⟨rfl, rfl, trivial⟩ <|
 .call (dir_spec f dir hp) <|
 .r 3 <| .new fun b6 => .run 2 [b6 = b6] ⟨rfl, trivial⟩ <|
 .run 2 [b1 = b1, b4 = b4] ⟨rfl, rfl, trivial⟩ <|
 .call (tfind_spec f i (by omega) hr) <|
 .r 3 <| .new fun b7 => .run 2 [b7 = b7] ⟨rfl, trivial⟩ <|
 .run 3 [b6 = b6, b3 = b3] ⟨rfl, rfl, trivial⟩ <|
 .call (nfind_spec ((dirN f dir).l) s (by have := (dir_srt hp dir).2; omega) (dir_srt hp dir).1) <|
 .r 5 <| .ord [0, 1, 2, 4, 5, 6, 8, 10, 12, 13, 14, 15, 3, 7, 9, 11, 16, 17, 18, 19, 20, 21, 22, 23, 24] <| .run 11 [b7 = b7, b3 = b3, b6 = b6] ⟨rfl, rfl, rfl, trivial⟩ <|
 .val 49 (show (aI (((dirN f dir).l.map entA).length : Int) : AV) = aI (((dirN f dir).l).length : Int) from by rw [List.length_map]) <| .r 1 <| .call (when_spec (!(findB f i)) 6) <|
 .call (when_spec (((findN f i).kind) == 2) 9) <|
 .call (check_spec s (by omega)) <|
 .call (when_spec (isB ((dirN f dir).l) s) 7) <|
 .r 1 <| .br 51 (decide ((((dirN f dir).l).length : Int) ≥ 256)) (fun q1 => have p1 := decT q1; .r 4 <| .call (when_spec true 12) <|
 .r 1 <| .callS (args0 := [.sl 1 true ([[aI (dirE f dir)], [aI (whenE (!(findB f i)) 6)], [aI (whenE (((findN f i).kind) == 2) 9)], [aI (checkE s)], [aI (whenE (isB ((dirN f dir).l) s) 7)], [aI (whenE true 12)]])]) (args := [.sl 1 false ([(dirE f dir), (whenE (!(findB f i)) 6), (whenE (((findN f i).kind) == 2) 9), (checkE s), (whenE (isB ((dirN f dir).l) s) 7), (whenE true 12)].map intA)]) ⟨first_lit6 (dirE f dir) (whenE (!(findB f i)) 6) (whenE (((findN f i).kind) == 2) 9) (checkE s) (whenE (isB ((dirN f dir).l) s) 7) (whenE true 12), trivial⟩ (first_spec [(dirE f dir), (whenE (!(findB f i)) 6), (whenE (((findN f i).kind) == 2) 9), (checkE s), (whenE (isB ((dirN f dir).l) s) 7), (whenE true 12)] (by simp)) <|
 .r 1 <| .frz 4 [4, 5, 6, 7, 8, 9, 11, 12, 51, 55] [5, 6, 7, 8, 12] [b1 = b1] ⟨rfl, trivial⟩ <|
 .frz 5 [4, 5, 6, 7, 8, 9, 11, 12, 51, 55] [6, 7, 8, 12] [b2 = b2] ⟨rfl, trivial⟩ <|
 .frz 6 [4, 5, 6, 7, 8, 9, 11, 12, 51, 55] [7, 8, 12] [b3 = b3] ⟨rfl, trivial⟩ <|
 .frz 7 [4, 5, 6, 7, 8, 9, 11, 12, 51, 55] [8, 12] [b4 = b4] ⟨rfl, trivial⟩ <|
 .lent 3 <| .r 3 <| .lop (lcR Try.prog 12) ((37, [.agg [.sl 5 false (f.l.map nodA), aI f.next], aI (firstE [(dirE f dir), (whenE (!(findB f i)) 6), (whenE (((findN f i).kind) == 2) 9), (checkE s), (whenE (isB ((dirN f dir).l) s) 7), (whenE true 12)]), .clo 48 [.ptr 12 b7 0, .dptr [.sl 5 false (f.l.map nodA), aI f.next], .dptr [aI dir], .dptr [aS s], .dptr [aI i]]], some 62), .box b7 31 [aI ((findN f i).ino), aI ((findN f i).kind), aI ((findN f i).links), aS ((findN f i).text), .sl 2 false ((findN f i).l.map entA)]) (fun (_ : Unit) σ => (σ.put (some 62) (.tup [.agg [.sl 5 false ((if firstE [(dirE f dir), (whenE (!(findB f i)) 6), (whenE (((findN f i).kind) == 2) 9), (checkE s), (whenE (isB ((dirN f dir).l) s) 7), (whenE true 12)] = 0 then giveF0 f dir s i (findN f i) else f).l.map nodA), aI ((if firstE [(dirE f dir), (whenE (!(findB f i)) 6), (whenE (((findN f i).kind) == 2) 9), (checkE s), (whenE (isB ((dirN f dir).l) s) 7), (whenE true 12)] = 0 then giveF0 f dir s i (findN f i) else f).next)], aI (firstE [(dirE f dir), (whenE (!(findB f i)) 6), (whenE (((findN f i).kind) == 2) 9), (checkE s), (whenE (isB ((dirN f dir).l) s) 7), (whenE true 12)])])).setB 12 gone) (rule_lent (args' := [.agg [.sl 5 false (f.l.map nodA), aI f.next], aI (firstE [(dirE f dir), (whenE (!(findB f i)) 6), (whenE (((findN f i).kind) == 2) 9), (checkE s), (whenE (isB ((dirN f dir).l) s) 7), (whenE true 12)]), .clo 48 [.ptr 12 b7 0, .dptr [.sl 5 false (f.l.map nodA), aI f.next], .dptr [aI dir], .dptr [aS s], .dptr [aI i]]]) ⟨Sub.refl _, Sub.refl _, Sub.refl _, trivial⟩ (unless3_spec (firstE [(dirE f dir), (whenE (!(findB f i)) 6), (whenE (((findN f i).kind) == 2) 9), (checkE s), (whenE (isB ((dirN f dir).l) s) 7), (whenE true 12)]) f dir s i (findN f i) b7 okf hp hs hi (find_I64 okf hp i) (by have := find_links hp i; omega))) fun _ =>
 .run 4 [b5 = b5] ⟨rfl, trivial⟩ <|
 .fin (x := .tup [.agg [.sl 5 false ((if firstE [(dirE f dir), (whenE (!(findB f i)) 6), (whenE (((findN f i).kind) == 2) 9), (checkE s), (whenE (isB ((dirN f dir).l) s) 7), (whenE true 12)] = 0 then giveF0 f dir s i (findN f i) else f).l.map nodA), aI ((if firstE [(dirE f dir), (whenE (!(findB f i)) 6), (whenE (((findN f i).kind) == 2) 9), (checkE s), (whenE (isB ((dirN f dir).l) s) 7), (whenE true 12)] = 0 then giveF0 f dir s i (findN f i) else f).next)], aI (firstE [(dirE f dir), (whenE (!(findB f i)) 6), (whenE (((findN f i).kind) == 2) 9), (checkE s), (whenE (isB ((dirN f dir).l) s) 7), (whenE true 12)])]) (r := .tup [.agg (fsyA (giveF f dir s i)), aI (giveErr f dir s i)]) [b5 = b5] ⟨rfl, trivial⟩ (by
    have e : giveErr f dir s i = firstE [(dirE f dir), (whenE (!(findB f i)) 6), (whenE (((findN f i).kind) == 2) 9), (checkE s), (whenE (isB ((dirN f dir).l) s) 7), (whenE true 12)] := by
      unfold giveErr
      simp only [q1, Bool.true_or, Bool.false_or, Bool.not_true, Bool.not_false]
    unfold giveF
    rw [e]
    exact Sub.refl _))
 <| fun q1 => have p1 := decF q1; .run 4 [b7 = b7] ⟨rfl, trivial⟩ <|
 .call (when_spec (decide (((findN f i).links) ≥ 64)) 12) <|
 .r 1 <| .callS (args0 := [.sl 1 true ([[aI (dirE f dir)], [aI (whenE (!(findB f i)) 6)], [aI (whenE (((findN f i).kind) == 2) 9)], [aI (checkE s)], [aI (whenE (isB ((dirN f dir).l) s) 7)], [aI (whenE (decide (((findN f i).links) ≥ 64)) 12)]])]) (args := [.sl 1 false ([(dirE f dir), (whenE (!(findB f i)) 6), (whenE (((findN f i).kind) == 2) 9), (checkE s), (whenE (isB ((dirN f dir).l) s) 7), (whenE (decide (((findN f i).links) ≥ 64)) 12)].map intA)]) ⟨first_lit6 (dirE f dir) (whenE (!(findB f i)) 6) (whenE (((findN f i).kind) == 2) 9) (checkE s) (whenE (isB ((dirN f dir).l) s) 7) (whenE (decide (((findN f i).links) ≥ 64)) 12), trivial⟩ (first_spec [(dirE f dir), (whenE (!(findB f i)) 6), (whenE (((findN f i).kind) == 2) 9), (checkE s), (whenE (isB ((dirN f dir).l) s) 7), (whenE (decide (((findN f i).links) ≥ 64)) 12)] (by simp)) <|
 .r 1 <| .frz 4 [4, 5, 6, 7, 8, 9, 11, 12, 51] [5, 6, 7, 8, 12] [b1 = b1] ⟨rfl, trivial⟩ <|
 .frz 5 [4, 5, 6, 7, 8, 9, 11, 12, 51] [6, 7, 8, 12] [b2 = b2] ⟨rfl, trivial⟩ <|
 .frz 6 [4, 5, 6, 7, 8, 9, 11, 12, 51] [7, 8, 12] [b3 = b3] ⟨rfl, trivial⟩ <|
 .frz 7 [4, 5, 6, 7, 8, 9, 11, 12, 51] [8, 12] [b4 = b4] ⟨rfl, trivial⟩ <|
 .lent 3 <| .r 3 <| .lop (lcR Try.prog 12) ((37, [.agg [.sl 5 false (f.l.map nodA), aI f.next], aI (firstE [(dirE f dir), (whenE (!(findB f i)) 6), (whenE (((findN f i).kind) == 2) 9), (checkE s), (whenE (isB ((dirN f dir).l) s) 7), (whenE (decide (((findN f i).links) ≥ 64)) 12)]), .clo 48 [.ptr 12 b7 0, .dptr [.sl 5 false (f.l.map nodA), aI f.next], .dptr [aI dir], .dptr [aS s], .dptr [aI i]]], some 62), .box b7 31 [aI ((findN f i).ino), aI ((findN f i).kind), aI ((findN f i).links), aS ((findN f i).text), .sl 2 false ((findN f i).l.map entA)]) (fun (_ : Unit) σ => (σ.put (some 62) (.tup [.agg [.sl 5 false ((if firstE [(dirE f dir), (whenE (!(findB f i)) 6), (whenE (((findN f i).kind) == 2) 9), (checkE s), (whenE (isB ((dirN f dir).l) s) 7), (whenE (decide (((findN f i).links) ≥ 64)) 12)] = 0 then giveF0 f dir s i (findN f i) else f).l.map nodA), aI ((if firstE [(dirE f dir), (whenE (!(findB f i)) 6), (whenE (((findN f i).kind) == 2) 9), (checkE s), (whenE (isB ((dirN f dir).l) s) 7), (whenE (decide (((findN f i).links) ≥ 64)) 12)] = 0 then giveF0 f dir s i (findN f i) else f).next)], aI (firstE [(dirE f dir), (whenE (!(findB f i)) 6), (whenE (((findN f i).kind) == 2) 9), (checkE s), (whenE (isB ((dirN f dir).l) s) 7), (whenE (decide (((findN f i).links) ≥ 64)) 12)])])).setB 12 gone) (rule_lent (args' := [.agg [.sl 5 false (f.l.map nodA), aI f.next], aI (firstE [(dirE f dir), (whenE (!(findB f i)) 6), (whenE (((findN f i).kind) == 2) 9), (checkE s), (whenE (isB ((dirN f dir).l) s) 7), (whenE (decide (((findN f i).links) ≥ 64)) 12)]), .clo 48 [.ptr 12 b7 0, .dptr [.sl 5 false (f.l.map nodA), aI f.next], .dptr [aI dir], .dptr [aS s], .dptr [aI i]]]) ⟨Sub.refl _, Sub.refl _, Sub.refl _, trivial⟩ (unless3_spec (firstE [(dirE f dir), (whenE (!(findB f i)) 6), (whenE (((findN f i).kind) == 2) 9), (checkE s), (whenE (isB ((dirN f dir).l) s) 7), (whenE (decide (((findN f i).links) ≥ 64)) 12)]) f dir s i (findN f i) b7 okf hp hs hi (find_I64 okf hp i) (by have := find_links hp i; omega))) fun _ =>
 .run 4 [b5 = b5] ⟨rfl, trivial⟩ <|
 .fin (x := .tup [.agg [.sl 5 false ((if firstE [(dirE f dir), (whenE (!(findB f i)) 6), (whenE (((findN f i).kind) == 2) 9), (checkE s), (whenE (isB ((dirN f dir).l) s) 7), (whenE (decide (((findN f i).links) ≥ 64)) 12)] = 0 then giveF0 f dir s i (findN f i) else f).l.map nodA), aI ((if firstE [(dirE f dir), (whenE (!(findB f i)) 6), (whenE (((findN f i).kind) == 2) 9), (checkE s), (whenE (isB ((dirN f dir).l) s) 7), (whenE (decide (((findN f i).links) ≥ 64)) 12)] = 0 then giveF0 f dir s i (findN f i) else f).next)], aI (firstE [(dirE f dir), (whenE (!(findB f i)) 6), (whenE (((findN f i).kind) == 2) 9), (checkE s), (whenE (isB ((dirN f dir).l) s) 7), (whenE (decide (((findN f i).links) ≥ 64)) 12)])]) (r := .tup [.agg (fsyA (giveF f dir s i)), aI (giveErr f dir s i)]) [b5 = b5] ⟨rfl, trivial⟩ (by
    have e : giveErr f dir s i = firstE [(dirE f dir), (whenE (!(findB f i)) 6), (whenE (((findN f i).kind) == 2) 9), (checkE s), (whenE (isB ((dirN f dir).l) s) 7), (whenE (decide (((findN f i).links) ≥ 64)) 12)] := by
      unfold giveErr
      simp only [q1, Bool.true_or, Bool.false_or, Bool.not_true, Bool.not_false]
    unfold giveF
    rw [e]
    exact Sub.refl _)) Try.func21 rfl (by kernel_rfl) (by kernel_rfl)
end Go.Proofs.Ytkepkbgebickiaa
