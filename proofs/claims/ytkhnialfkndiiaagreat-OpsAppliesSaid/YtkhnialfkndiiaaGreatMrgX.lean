/- What became of a file system; what is let become of it: the mathematics. ops.Changes, ref11.Changes. ops.Apply, ref11.Apply, Turns. -/
import Derived.Test.YtkhnialfkndiiaaGreatMrgW
import Derived.Test.YtkhnialfkndiiaaGreatMrgK
import Derived.Test.YtkhnialfkndiiaaGreatMrgI
set_option linter.unusedVariables false
set_option linter.unusedSimpArgs false
namespace Go.Proofs.YtkhnialfkndiiaaGreat
open Go Go.RowKit Copyhold
structure Chg where
  ino : Int
  gone : Bool
  n : Nod
  deriving DecidableEq
def chgA (c : Chg) : List AV := [aI c.ino, aB c.gone, aI c.n.ino, aI c.n.kind, aI c.n.links, aS c.n.text, .sl 2 false (c.n.l.map entA)]
def chgR (c : Chg) : List AV := [aI c.ino, aB c.gone, aI c.n.ino, aI c.n.kind, aI c.n.links, aS c.n.text, bif c.gone then aN else .sl 2 false (c.n.l.map entA)]
theorem chg_sub {l : List Chg} {t : Bool} (h : ∀ c ∈ l, c.gone = true → c.n.l = []) : Sub (.sl 7 t (l.map chgR)) (.sl 7 false (l.map chgA)) :=
  (Sub.sl2 (xs := l.map chgR) (ys := l.map chgA) (by simp) (fun i a b ha hb => by
    rw [List.getElem?_map] at ha hb
    cases hc : l[i]? with
    | none => rw [hc] at ha; cases ha
    | some c =>
      rw [hc] at ha hb
      obtain rfl := Option.some.inj ha
      obtain rfl := Option.some.inj hb
      refine ⟨Sub.refl _, Sub.refl _, Sub.refl _, Sub.refl _, Sub.refl _, Sub.refl _, ?_, trivial⟩
      cases hg : c.gone with
      | false => exact Sub.refl _
      | true =>
        rw [h c (List.mem_of_getElem? hc) hg]
        exact Sub.nil _ _)).trans (Sub.loose _ _ _)
def noRow (l : List Int) (ns : List Nod) : List Int := ns.foldl (fun l n => withI l n.ino) l
theorem noRow_le (l : List Int) : ∀ (ns : List Nod) , (noRow l ns).length ≤ l.length + ns.length := by
  intro ns
  induction ns generalizing l with
  | nil => exact Nat.le_refl _
  | cons n r ih =>
    have := ih (withI l n.ino)
    have := with_len l n.ino
    show (noRow (withI l n.ino) r).length ≤ _
    simp only [List.length_cons]
    omega
def allNo (a b : Fsy) : List Int := noRow (noRow [] a.l) b.l
def chgD (a b : Fsy) (i : Int) : Option Chg := if findB b i = false then some ⟨i, true, nod0⟩ else if findB a i = false ∨ ¬ findN a i = findN b i then some ⟨i, false, findN b i⟩ else none
def chgL (a b : Fsy) (k : Nat) : List Chg := ((allNo a b).take k).filterMap (chgD a b)
def changesD (a b : Fsy) : List Chg := (allNo a b).filterMap (chgD a b)
theorem chgL_yes {a b : Fsy} {k : Nat} {i : Int} {c : Chg} (hx : (allNo a b)[k]? = some i) (h : chgD a b i = some c) : chgL a b (k + 1) = chgL a b k ++ [c] := by
  unfold chgL; rw [take_step hx, List.filterMap_append]; simp [h]
theorem chgL_no {a b : Fsy} {k : Nat} {i : Int} (hx : (allNo a b)[k]? = some i) (h : chgD a b i = none) : chgL a b (k + 1) = chgL a b k := by
  unfold chgL; rw [take_step hx, List.filterMap_append]; simp [h]
theorem chgL_le (a b : Fsy) (k : Nat) : (chgL a b k).length ≤ k := by
  have := List.length_filterMap_le (chgD a b) ((allNo a b).take k)
  rw [List.length_take] at this
  unfold chgL; omega
theorem chgL_all {a b : Fsy} {k : Nat} (h : (allNo a b).length ≤ k) : chgL a b k = changesD a b := by unfold chgL; rw [take_all h]; rfl
theorem changes_gone {a b : Fsy} : ∀ c ∈ changesD a b, c.gone = true → c.n.l = [] := fun c hc hg => by
  obtain ⟨i, _, h⟩ := List.mem_filterMap.1 hc
  unfold chgD at h
  split at h
  · obtain rfl := Option.some.inj h; rfl
  · split at h
    · obtain rfl := Option.some.inj h; cases hg
    · cases h
theorem noRow_mem {x : Int} : ∀ {ns : List Nod} {l : List Int}, x ∈ noRow l ns ↔ x ∈ l ∨ x ∈ ns.map Nod.ino
  | [], l => by simp [noRow]
  | n :: r, l => by
    show x ∈ noRow (withI l n.ino) r ↔ _
    rw [noRow_mem, with_mem, List.map_cons, List.mem_cons]
    constructor
    · rintro ((h | h) | h)
      · exact .inr (.inl h)
      · exact .inl h
      · exact .inr (.inr h)
    · rintro (h | h | h)
      · exact .inl (.inr h)
      · exact .inl (.inl h)
      · exact .inr h
theorem noRow_asc : ∀ {ns : List Nod} {l : List Int}, Asc l → Asc (noRow l ns)
  | [], _, h => h
  | n :: r, l, h => noRow_asc (ns := r) (with_asc h n.ino)
theorem allNo_asc (f g : Fsy) : Asc (allNo f g) := noRow_asc (noRow_asc List.Pairwise.nil)
theorem allNo_mem {f g : Fsy} {x : Int} : x ∈ allNo f g ↔ x ∈ f.l.map Nod.ino ∨ x ∈ g.l.map Nod.ino := by
  unfold allNo
  rw [noRow_mem, noRow_mem]
  simp
theorem allNo_eq (f g : Fsy) : sortU ((f.l ++ g.l).map Nod.ino) = allNo f g := asc_ext (sortU_asc _) (allNo_asc f g) fun x => by
  rw [sortU_mem, allNo_mem, List.map_append, List.mem_append]
theorem mem_no {f : Fsy} {x : Int} : x ∈ f.l.map Nod.ino ↔ ∃ n, atF f x = some n := by
  constructor
  · intro h
    obtain ⟨n, hn, rfl⟩ := List.mem_map.1 h
    cases hc : atF f n.ino with
    | some m => exact ⟨m, rfl⟩
    | none =>
      have := List.find?_eq_none.1 hc n hn
      simp [isNo] at this
  · rintro ⟨n, hn⟩
    exact List.mem_map.2 ⟨n, at_mem hn, at_ino hn⟩
theorem no_mem {f g : Fsy} {x : Int} (h : ¬ x ∈ allNo f g) : atF f x = none ∧ atF g x = none := by
  rw [allNo_mem, mem_no, mem_no] at h
  constructor
  · cases hc : atF f x with
    | none => rfl
    | some n => exact absurd (.inl ⟨n, hc⟩) h
  · cases hc : atF g x with
    | none => rfl
    | some n => exact absurd (.inr ⟨n, hc⟩) h
theorem chgD_iff {f g : Fsy} {i : Int} : chgD f g i = none ↔ (∃ n, atF g i = some n ∧ atF f i = some n) := by
  unfold chgD
  rw [at_B, at_B, at_N, at_N]
  cases hg : atF g i with
  | none => simp
  | some n =>
    cases hf : atF f i with
    | none => simp
    | some m => simp
theorem chgD_some {f g : Fsy} {i : Int} {c : Chg} (h : chgD f g i = some c) : c.ino = i ∧ ((c.gone = true ∧ atF g i = none) ∨ (c.gone = false ∧ atF g i = some c.n)) := by
  unfold chgD at h
  rw [at_B, at_B] at h
  cases hg : atF g i with
  | none =>
    rw [hg] at h
    simp at h
    subst h
    exact ⟨rfl, .inl ⟨rfl, rfl⟩⟩
  | some n =>
    rw [hg] at h
    have hn : findN g i = n := by rw [at_N, hg]; rfl
    simp only [Option.isSome_some, Bool.true_eq_false, if_false] at h
    split at h
    · obtain rfl := Option.some.inj h
      exact ⟨rfl, .inr ⟨rfl, by rw [hn]⟩⟩
    · cases h
theorem changes_ne {f g : Fsy} {c : Chg} (h : c ∈ changesD f g) : ¬ atF f c.ino = atF g c.ino := by
  obtain ⟨i, hi, hc⟩ := List.mem_filterMap.1 h
  obtain ⟨e, _⟩ := chgD_some hc
  rw [e]
  intro he
  cases hg : atF g i with
  | none =>
    rcases allNo_mem.1 hi with h1 | h1
    · obtain ⟨n, hn⟩ := mem_no.1 h1; rw [he, hg] at hn; cases hn
    · obtain ⟨n, hn⟩ := mem_no.1 h1; rw [hg] at hn; cases hn
  | some n =>
    have := chgD_iff.2 ⟨n, hg, he.trans hg⟩
    rw [this] at hc; cases hc
def apD (f : Fsy) (c : Chg) : Fsy := if c.gone = true then outF f c.ino else putF f c.n
def apK (f : Fsy) (cs : List Chg) (k : Nat) : Fsy := (cs.take k).foldl apD f
def maxD (a b : Int) : Int := if b > a then b else a
def applyD (f : Fsy) (cs : List Chg) (next : Int) : Fsy := ⟨(apK f cs cs.length).l, maxD (apK f cs cs.length).next next⟩
theorem apK_step {f : Fsy} {cs : List Chg} {k : Nat} {c : Chg} (h : cs[k]? = some c) : apK f cs (k + 1) = apD (apK f cs k) c := by
  unfold apK; rw [take_step h, List.foldl_append]; rfl
structure ApOk (c : Chg) : Prop where
  no : c.n.ino < 1152921504606846977
  node : OkN c.n
theorem apD_keep {f : Fsy} {c : Chg} {m : Nat} (okf : OkF f) (hr : RiseN f.l) (hm : f.l.length ≤ m) (hm2 : m ≤ 80000) (hc : ApOk c) : OkF (apD f c) ∧ RiseN (apD f c).l ∧ (apD f c).l.length ≤ m + 1 := by
  have := hc.no
  unfold apD
  split
  · exact ⟨out_ok okf hr, out_rise hr, Nat.le_trans (outN_le f.l c.ino) (by omega)⟩
  · exact ⟨put_ok okf hc.node (by omega) (by omega), put_rise hr, Nat.le_trans (putN_le f.l c.n) (by omega)⟩
theorem apK_keep {f : Fsy} {cs : List Chg} (okf : OkF f) (hr : RiseN f.l) (hl : f.l.length + cs.length ≤ 80000) (hc : ∀ c ∈ cs, ApOk c) : ∀ k, k ≤ cs.length → OkF (apK f cs k) ∧ RiseN (apK f cs k).l ∧ (apK f cs k).l.length ≤ f.l.length + k
  | 0, _ => ⟨okf, hr, Nat.le_refl _⟩
  | k + 1, hk => by
    obtain ⟨h1, h2, h3⟩ := apK_keep okf hr hl hc k (by omega)
    have hx := List.getElem?_eq_getElem (l := cs) (i := k) (by omega)
    rw [apK_step hx]
    have := apD_keep (m := f.l.length + k) h1 h2 h3 (by omega) (hc _ (List.mem_of_getElem? hx))
    exact ⟨this.1, this.2.1, by have := this.2.2; omega⟩
theorem apply_ok {f : Fsy} {cs : List Chg} {next : Int} (okf : OkF f) (hr : RiseN f.l) (hl : f.l.length + cs.length ≤ 80000) (hc : ∀ c ∈ cs, ApOk c) (hn : I64 next) : OkF (applyD f cs next) ∧ RiseN (applyD f cs next).l := by
  obtain ⟨h1, h2, h3⟩ := apK_keep okf hr hl hc cs.length (Nat.le_refl _)
  refine ⟨⟨?_, h1.2⟩, h2⟩
  show I64 (maxD _ _)
  unfold maxD
  split
  · exact hn
  · exact h1.1
theorem changes_ap {f g : Fsy} (okg : OkF g) (hg : ∀ n ∈ g.l, n.ino < 1152921504606846977) : ∀ c ∈ changesD f g, ApOk c := fun c hc => by
  obtain ⟨i, _, h⟩ := List.mem_filterMap.1 hc
  have key : c.n = nod0 ∨ c.n ∈ g.l := by
    rcases (chgD_some h).2 with h1 | h1
    · left
      unfold chgD at h
      split at h
      · obtain rfl := Option.some.inj h; rfl
      · split at h
        · obtain rfl := Option.some.inj h; cases h1.1
        · cases h
    · exact .inr (at_mem h1.2)
  rcases key with e | e
  · exact ⟨by rw [e]; decide, by rw [e]; exact nod0_ok⟩
  · exact ⟨hg _ e, okg.2.2 _ e⟩
theorem changes_len (f g : Fsy) : (changesD f g).length ≤ f.l.length + g.l.length := by
  have h1 := List.length_filterMap_le (chgD f g) (allNo f g)
  have h2 := noRow_le [] f.l
  have h3 := noRow_le (noRow [] f.l) g.l
  unfold changesD
  unfold allNo at h1 ⊢
  simp at h2
  omega
theorem at_apD {f g h : Fsy} {i : Int} {c : Chg} (hr : RiseN h.l) (hc : chgD f g i = some c) (j : Int) : atF (apD h c) j = if j = i then atF g i else atF h j := by
  obtain ⟨e, h1 | h1⟩ := chgD_some hc
  · unfold apD
    rw [if_pos h1.1, at_out hr, e, h1.2]
  · unfold apD
    rw [if_neg (by rw [h1.1]; decide), at_put hr, h1.2, at_ino h1.2]
theorem ap_all {f g : Fsy} : ∀ (U : List Int) (h : Fsy), RiseN h.l → (∀ i ∈ U, atF h i = atF f i) → Asc U → RiseN ((U.filterMap (chgD f g)).foldl apD h).l ∧ ∀ j, atF ((U.filterMap (chgD f g)).foldl apD h) j = if j ∈ U then atF g j else atF h j
  | [], h, hr, _, _ => ⟨hr, fun j => by simp⟩
  | i :: r, h, hr, hU, hA => by
    obtain ⟨a1, a2⟩ := List.pairwise_cons.1 hA
    have hni : ¬ i ∈ r := fun hm => by have := a1 i hm; omega
    rw [List.filterMap_cons]
    cases hc : chgD f g i with
    | none =>
      obtain ⟨n, n1, n2⟩ := chgD_iff.1 hc
      obtain ⟨b1, b2⟩ := ap_all (f := f) (g := g) r h hr (fun j hj => hU j (by simp [hj])) a2
      refine ⟨b1, fun j => ?_⟩
      show atF (List.foldl apD h _) j = _
      rw [b2]
      by_cases hji : j = i
      · subst hji
        rw [if_neg hni, if_pos (by simp), hU j (by simp), n1, n2]
      · by_cases hjr : j ∈ r
        · rw [if_pos hjr, if_pos (by simp [hjr])]
        · rw [if_neg hjr, if_neg (by simp [hjr, hji])]
    | some c =>
      have hr2 : RiseN (apD h c).l := by
        unfold apD
        split
        · exact out_rise hr
        · exact put_rise hr
      have hat := at_apD hr hc
      obtain ⟨b1, b2⟩ := ap_all (f := f) (g := g) r (apD h c) hr2 (fun j hj => by
        rw [hat, if_neg (fun e => hni (by rw [← e]; exact hj))]
        exact hU j (by simp [hj])) a2
      refine ⟨b1, fun j => ?_⟩
      show atF (List.foldl apD (apD h c) _) j = _
      rw [b2, hat]
      by_cases hji : j = i
      · subst hji
        rw [if_neg hni, if_pos rfl, if_pos (by simp)]
      · by_cases hjr : j ∈ r
        · rw [if_pos hjr, if_pos (by simp [hjr])]
        · rw [if_neg hjr, if_neg hji, if_neg (by simp [hjr, hji])]
theorem apK_next {f : Fsy} {cs : List Chg} {b : Int} (hf : f.next ≤ b) (hc : ∀ c ∈ cs, c.gone = false → c.n.ino < b) : ∀ k, k ≤ cs.length → (apK f cs k).next ≤ b
  | 0, _ => hf
  | k + 1, hk => by
    have ih := apK_next hf hc k (by omega)
    have hx := List.getElem?_eq_getElem (l := cs) (i := k) (by omega)
    rw [apK_step hx]
    unfold apD
    split
    · exact ih
    · rename_i hg
      have := hc _ (List.mem_of_getElem? hx) (by simpa using hg)
      unfold putF
      dsimp only
      split <;> omega
theorem apply_changes {f g : Fsy} (hf : RiseN f.l) (hg : RiseN g.l) (hn : f.next ≤ g.next) (hgn : ∀ n ∈ g.l, n.ino < g.next) : applyD f (changesD f g) g.next = g := by
  obtain ⟨h1, h2⟩ := ap_all (f := f) (g := g) (allNo f g) f hf (fun _ _ => rfl) (allNo_asc f g)
  have hk : apK f (changesD f g) (changesD f g).length = ((allNo f g).filterMap (chgD f g)).foldl apD f := by unfold apK changesD; rw [List.take_length]
  have hnx := apK_next (b := g.next) hn (fun c hc hgo => by
    obtain ⟨i, _, h⟩ := List.mem_filterMap.1 hc
    rcases (chgD_some h).2 with h1 | h1
    · rw [h1.1] at hgo; cases hgo
    · exact hgn _ (at_mem h1.2)) (changesD f g).length (Nat.le_refl _)
  have hl : applyD f (changesD f g) g.next = ⟨(((allNo f g).filterMap (chgD f g)).foldl apD f).l, g.next⟩ := by
    unfold applyD
    rw [show maxD (apK f (changesD f g) (changesD f g).length).next g.next = g.next from by unfold maxD; split <;> omega, hk]
  rw [hl]
  refine fsy_ext h1 hg (fun i => ?_) rfl
  show atF (((allNo f g).filterMap (chgD f g)).foldl apD f) i = _
  rw [h2]
  split
  · rfl
  · rename_i hi
    obtain ⟨e1, e2⟩ := no_mem hi
    rw [e1, e2]
theorem changes_self (f : Fsy) : changesD f f = [] := by
  refine List.eq_nil_iff_forall_not_mem.2 fun c hc => changes_ne hc rfl
end Go.Proofs.YtkhnialfkndiiaaGreat

set_option linter.unusedVariables false
set_option linter.unusedSimpArgs false
namespace Go.Proofs.YtkhnialfkndiiaaGreat
open Go Go.RowKit Copyhold
theorem concatN_spec (a b : List Nod) (h : a.length + b.length ≤ 100000) : FSpec Tryz.prog 56 [.sl 1 false ([a.map nodA, b.map nodA].map pc5)] (.sl 5 false ((a ++ b).map nodA)) := by
  have := concat_spec [a.map nodA, b.map nodA] (by simp) (by simp; omega)
  rw [List.map_append]
  simpa using this
theorem gatherN_spec (f g : Fsy) (h : f.l.length + g.l.length ≤ 100000) : FSpec Tryz.prog 52 [.sl 1 false (((f.l ++ g.l).map Nod.ino).map intA)] (.sl 1 false ((allNo f g).map intA)) := by
  rw [← allNo_eq]
  exact gatherA_spec _ (by simp; omega)
set_option maxRecDepth 100000 in
set_option maxHeartbeats 4000000 in
theorem ochanges_spec (f g : Fsy) (okf : OkF f) (okg : OkF g) (hf : f.l.length ≤ 1000) (hg : g.l.length ≤ 1000) (hr : RiseN f.l) (hrg : RiseN g.l) : FSpec Tryz.prog 26 [.agg [.sl 5 false (f.l.map nodA), aI f.next], .agg [.sl 5 false (g.l.map nodA), aI g.next]] (.sl 7 false ((changesD f g).map chgA)) := by
  have hal : (allNo f g).length ≤ f.l.length + g.l.length := by have h1 := noRow_le [] f.l; have h2 := noRow_le (noRow [] f.l) g.l; unfold allNo; simp at h1; omega
  exact spec_vc (F := Tryz.f26) 400 (
 .new fun b1 => .new fun b2 => .r 1 <| .r 1 <| .rowNil 5 5 3 1 <| .run 5 [b1 = b1, b2 = b2] ⟨rfl, rfl, trivial⟩ <|
 .callS (args0 := [.sl 1 true ([[.sl 5 false (f.l.map nodA)], [.sl 5 false (g.l.map nodA)]])]) (args := [.sl 1 false ([f.l.map nodA, g.l.map nodA].map pc5)]) ⟨pcs2 _ _, trivial⟩ (concatN_spec f.l g.l (by omega)) <|
 .r 1 <| .val 21 (show (aI (((f.l ++ g.l).map nodA).length : Int) : AV) = aI ((f.l ++ g.l).length : Int) from by rw [List.length_map]) <| .r 1 <| let L1 : Lp (Nat × Value) := ⟨fun a1 => ⟨[(2, .ptr 2 b1 0), (3, .ptr 3 b2 0), (22, aI (a1.1 : Int)), (5, .rw 5 a1.2 ((((f.l ++ g.l).take a1.1).map Nod.ino).length)), (20, .sl 5 false ((f.l ++ g.l).map nodA)), (21, aI ((f.l ++ g.l).length : Int))], [(2, .box b1 24 [.sl 5 false (f.l.map nodA), aI f.next]), (3, .box b2 24 [.sl 5 false (g.l.map nodA), aI g.next]), (5, .row a1.2 3 1 ((((f.l ++ g.l).take a1.1).map Nod.ino).map intA))]⟩, fun a1 => (f.l ++ g.l).length - a1.1, fun a1 => a1.1 ≤ (f.l ++ g.l).length⟩
 .loop L1 (0, .slice none 0 0) (show 0 ≤ (f.l ++ g.l).length from Nat.zero_le _) ⟨[(2, .ptr 2 b1 0), (3, .ptr 3 b2 0), (22, aI 0), (5, .rw 5 (.slice none 0 0) 0), (20, .sl 5 false ((f.l ++ g.l).map nodA)), (21, aI ((f.l ++ g.l).length : Int))], [(2, .box b1 24 [.sl 5 false (f.l.map nodA), aI f.next]), (3, .box b2 24 [.sl 5 false (g.l.map nodA), aI g.next]), (5, .row (.slice none 0 0) 3 1 ([]))]⟩ ⟨Sub.refl _, Sub.refl _, Sub.of_eq (congrArg aI (by first | omega | rfl)), Sub.refl _, Sub.refl _, Sub.refl _, trivial⟩ ⟨⟨_, rfl, SubB.refl _⟩, ⟨_, rfl, SubB.refl _⟩, ⟨_, rfl, SubB.refl _⟩, trivial⟩ fun a1 ha1 =>
 (fun (k : Nat) (V : Value) (hH1 : k ≤ (f.l ++ g.l).length) => have hfg : (f.l ++ g.l).length = f.l.length + g.l.length := List.length_append; .r 1 <| .br 23 (decide ((k : Int) < ((f.l ++ g.l).length : Int))) (fun q1 => have p1 := decT q1; .idxM (f.l ++ g.l) nodA k (m := (k : Int)) rfl (by omega) fun x1 hx1 =>
 .r 1 <| .new fun b3 => .run 1 [b3 = b3] ⟨rfl, trivial⟩ <|
 .run 4 [b3 = b3] ⟨rfl, trivial⟩ <|
 .app 8 V ((((f.l ++ g.l).take k).map Nod.ino).map intA) ([[aI x1.ino]]) (by first | (have := chgL_le f g m; simp only [List.length_map, List.length_cons, List.length_nil]; omega) | (simp only [List.length_map, List.length_cons, List.length_nil, List.length_take, List.length_append]; omega)) (by first | (have := chgL_le f g m; simp only [List.length_map, List.length_cons, List.length_nil]; omega) | (simp only [List.length_map, List.length_cons, List.length_nil, List.length_take, List.length_append]; omega)) fun V1 =>
 .r 1 <| .run 2 [rng .i64 ((k : Int) + 1)] ⟨rng64 (by omega) (by omega), trivial⟩ <|
 .back L1 (k, V) ((k + 1), V1) (show (k + 1) ≤ (f.l ++ g.l).length from (by show _ ≤ _; omega)) (show (f.l ++ g.l).length - (k + 1) < (f.l ++ g.l).length - k from (by omega)) ⟨[(2, .ptr 2 b1 0), (3, .ptr 3 b2 0), (22, aI ((k : Int) + 1)), (5, .rw 5 V1 (((((f.l ++ g.l).take k).map Nod.ino).map intA).length + ([[aI x1.ino]] : List (List AV)).length)), (20, .sl 5 false ((f.l ++ g.l).map nodA)), (21, aI ((f.l ++ g.l).length : Int))], [(2, .box b1 24 [.sl 5 false (f.l.map nodA), aI f.next]), (3, .box b2 24 [.sl 5 false (g.l.map nodA), aI g.next]), (5, .row V1 3 1 (((((f.l ++ g.l).take k).map Nod.ino).map intA) ++ ([[aI x1.ino]])))]⟩ ⟨Sub.refl _, Sub.refl _, Sub.of_eq (congrArg aI (by first | omega | rfl)), Sub.of_eq (congrArg (AV.rw 5 V1) (by rw [take_step hx1]; simp)), Sub.refl _, Sub.refl _, trivial⟩ ⟨⟨_, rfl, SubB.refl _⟩, ⟨_, rfl, SubB.refl _⟩, ⟨_, rfl, SubB.of_eq (by rw [take_step hx1]; simp [intA])⟩, trivial⟩)
 <| fun q1 => have p1 := decF q1; .r 1 <| .frz 5 [2, 3, 5, 8, 23] [2, 3] [V = V, (((f.l ++ g.l).take k).map Nod.ino).length = ((((f.l ++ g.l).take k).map Nod.ino).map intA).length] ⟨rfl, (by first | rfl | (simp; done) | (simp; omega)), trivial⟩ <|
 .rowNil 8 8 71 7 <| .r 1 <| .callS (args0 := [.sl 1 false ((((f.l ++ g.l).take k).map Nod.ino).map intA)]) (args := [.sl 1 false (((f.l ++ g.l).map Nod.ino).map intA)]) ⟨Sub.of_eq (by rw [take_all (by omega)]), trivial⟩ (gatherN_spec f g (by omega)) <|
 .r 1 <| .val 34 (show (aI (((allNo f g).map intA).length : Int) : AV) = aI ((allNo f g).length : Int) from by rw [List.length_map]) <| .r 1 <| let L2 : Lp (Nat × Value) := ⟨fun a2 => ⟨[(2, .ptr 2 b1 0), (3, .ptr 3 b2 0), (34, aI ((allNo f g).length : Int)), (35, aI (a2.1 : Int)), (8, .rw 8 a2.2 ((chgL f g a2.1).length)), (33, .sl 1 false ((allNo f g).map intA))], [(2, .box b1 24 [.sl 5 false (f.l.map nodA), aI f.next]), (3, .box b2 24 [.sl 5 false (g.l.map nodA), aI g.next]), (8, .row a2.2 71 7 ((chgL f g a2.1).map chgR))]⟩, fun a2 => (allNo f g).length - a2.1, fun a2 => a2.1 ≤ (allNo f g).length⟩
 .loop L2 (0, .slice none 0 0) (show 0 ≤ (allNo f g).length from Nat.zero_le _) ⟨[(2, .ptr 2 b1 0), (3, .ptr 3 b2 0), (34, aI ((allNo f g).length : Int)), (35, aI 0), (8, .rw 8 (.slice none 0 0) 0), (33, .sl 1 false ((allNo f g).map intA))], [(2, .box b1 24 [.sl 5 false (f.l.map nodA), aI f.next]), (3, .box b2 24 [.sl 5 false (g.l.map nodA), aI g.next]), (8, .row (.slice none 0 0) 71 7 ([]))]⟩ ⟨Sub.refl _, Sub.refl _, Sub.refl _, Sub.of_eq (congrArg aI (by first | omega | rfl)), Sub.refl _, Sub.refl _, trivial⟩ ⟨⟨_, rfl, SubB.refl _⟩, ⟨_, rfl, SubB.refl _⟩, ⟨_, rfl, SubB.refl _⟩, trivial⟩ fun a2 ha2 =>
 (fun (m : Nat) (V : Value) (hH2 : m ≤ (allNo f g).length) => .r 1 <| .br 36 (decide ((m : Int) < ((allNo f g).length : Int))) (fun q2 => have p2 := decT q2; .idxM (allNo f g) intA m (m := (m : Int)) rfl (by omega) fun x2 hx2 =>
 .r 2 <| .run 2 [b1 = b1] ⟨rfl, trivial⟩ <|
 .call (tfind_spec f x2 (by omega) hr) <|
 .r 3 <| .new fun b4 => .run 2 [b4 = b4] ⟨rfl, trivial⟩ <|
 .run 2 [b2 = b2] ⟨rfl, trivial⟩ <|
 .call (tfind_spec g x2 (by omega) hrg) <|
 .r 3 <| .new fun b5 => .run 2 [b5 = b5] ⟨rfl, trivial⟩ <|
 .r 3 <| .br 51 (!(findB g x2)) (fun q3 => have q3 := notT q3; have p3 := booF q3; .r 4 <| .app 80 V ((chgL f g m).map chgR) ([[aI x2, aB true, aI 0, aI 0, aI 0, aS ([]), aN]]) (by first | (have := chgL_le f g m; simp only [List.length_map, List.length_cons, List.length_nil]; omega) | (simp only [List.length_map, List.length_cons, List.length_nil, List.length_take, List.length_append]; omega)) (by first | (have := chgL_le f g m; simp only [List.length_map, List.length_cons, List.length_nil]; omega) | (simp only [List.length_map, List.length_cons, List.length_nil, List.length_take, List.length_append]; omega)) fun V2 =>
 .r 1 <| .run 2 [rng .i64 ((m : Int) + 1)] ⟨rng64 (by omega) (by omega), trivial⟩ <|
 .back L2 (m, V) ((m + 1), V2) (show (m + 1) ≤ (allNo f g).length from (by show _ ≤ _; omega)) (show (allNo f g).length - (m + 1) < (allNo f g).length - m from (by omega)) ⟨[(2, .ptr 2 b1 0), (3, .ptr 3 b2 0), (34, aI ((allNo f g).length : Int)), (35, aI ((m : Int) + 1)), (8, .rw 8 V2 (((chgL f g m).map chgR).length + ([[aI x2, aB true, aI 0, aI 0, aI 0, aS ([]), aN]] : List (List AV)).length)), (33, .sl 1 false ((allNo f g).map intA))], [(2, .box b1 24 [.sl 5 false (f.l.map nodA), aI f.next]), (3, .box b2 24 [.sl 5 false (g.l.map nodA), aI g.next]), (8, .row V2 71 7 (((chgL f g m).map chgR) ++ ([[aI x2, aB true, aI 0, aI 0, aI 0, aS ([]), aN]])))]⟩ ⟨Sub.refl _, Sub.refl _, Sub.refl _, Sub.of_eq (congrArg aI (by first | omega | rfl)), Sub.of_eq (congrArg (AV.rw 8 V2) (by rw [chgL_yes hx2 (show chgD f g x2 = some ⟨x2, true, nod0⟩ from by unfold chgD; rw [if_pos q3])]; simp)), Sub.refl _, trivial⟩ ⟨⟨_, rfl, SubB.refl _⟩, ⟨_, rfl, SubB.refl _⟩, ⟨_, rfl, SubB.of_eq (by rw [chgL_yes hx2 (show chgD f g x2 = some ⟨x2, true, nod0⟩ from by unfold chgD; rw [if_pos q3])]; simp [chgR, nod0])⟩, trivial⟩)
 <| fun q3 => have q3 := notF q3; have p3 := booT q3; .r 3 <| .br 62 (!(findB f x2)) (fun q4 => have q4 := notT q4; have p4 := booF q4; .r 6 <| .run 5 [b5 = b5] ⟨rfl, trivial⟩ <|
 .app 80 V ((chgL f g m).map chgR) ([[aI x2, aB false, aI ((findN g x2).ino), aI ((findN g x2).kind), aI ((findN g x2).links), aS ((findN g x2).text), .sl 2 false ((findN g x2).l.map entA)]]) (by first | (have := chgL_le f g m; simp only [List.length_map, List.length_cons, List.length_nil]; omega) | (simp only [List.length_map, List.length_cons, List.length_nil, List.length_take, List.length_append]; omega)) (by first | (have := chgL_le f g m; simp only [List.length_map, List.length_cons, List.length_nil]; omega) | (simp only [List.length_map, List.length_cons, List.length_nil, List.length_take, List.length_append]; omega)) fun V3 =>
 .r 1 <| .run 2 [rng .i64 ((m : Int) + 1)] ⟨rng64 (by omega) (by omega), trivial⟩ <|
 .back L2 (m, V) ((m + 1), V3) (show (m + 1) ≤ (allNo f g).length from (by show _ ≤ _; omega)) (show (allNo f g).length - (m + 1) < (allNo f g).length - m from (by omega)) ⟨[(2, .ptr 2 b1 0), (3, .ptr 3 b2 0), (34, aI ((allNo f g).length : Int)), (35, aI ((m : Int) + 1)), (8, .rw 8 V3 (((chgL f g m).map chgR).length + ([[aI x2, aB false, aI ((findN g x2).ino), aI ((findN g x2).kind), aI ((findN g x2).links), aS ((findN g x2).text), .sl 2 false ((findN g x2).l.map entA)]] : List (List AV)).length)), (33, .sl 1 false ((allNo f g).map intA))], [(2, .box b1 24 [.sl 5 false (f.l.map nodA), aI f.next]), (3, .box b2 24 [.sl 5 false (g.l.map nodA), aI g.next]), (8, .row V3 71 7 (((chgL f g m).map chgR) ++ ([[aI x2, aB false, aI ((findN g x2).ino), aI ((findN g x2).kind), aI ((findN g x2).links), aS ((findN g x2).text), .sl 2 false ((findN g x2).l.map entA)]])))]⟩ ⟨Sub.refl _, Sub.refl _, Sub.refl _, Sub.of_eq (congrArg aI (by first | omega | rfl)), Sub.of_eq (congrArg (AV.rw 8 V3) (by rw [chgL_yes hx2 (show chgD f g x2 = some ⟨x2, false, findN g x2⟩ from by unfold chgD; rw [if_neg (by simp [q3]), if_pos (.inl q4)])]; simp)), Sub.refl _, trivial⟩ ⟨⟨_, rfl, SubB.refl _⟩, ⟨_, rfl, SubB.refl _⟩, ⟨_, rfl, SubB.of_eq (by rw [chgL_yes hx2 (show chgD f g x2 = some ⟨x2, false, findN g x2⟩ from by unfold chgD; rw [if_neg (by simp [q3]), if_pos (.inl q4)])]; simp [chgR])⟩, trivial⟩)
 <| fun q4 => have q4 := notF q4; have p4 := booT q4; .run 2 [b4 = b4, b5 = b5] ⟨rfl, rfl, trivial⟩ <|
 .call (nsame_spec (findN f x2) (findN g x2) (findN_ok okf _) (findN_ok okg _)) <|
 .r 3 <| .br 59 (!(dP ((findN f x2) = (findN g x2)))) (fun q5 => have q5 := notT q5; have p5 := booF q5; .run 5 [b5 = b5] ⟨rfl, trivial⟩ <|
 .app 80 V ((chgL f g m).map chgR) ([[aI x2, aB false, aI ((findN g x2).ino), aI ((findN g x2).kind), aI ((findN g x2).links), aS ((findN g x2).text), .sl 2 false ((findN g x2).l.map entA)]]) (by first | (have := chgL_le f g m; simp only [List.length_map, List.length_cons, List.length_nil]; omega) | (simp only [List.length_map, List.length_cons, List.length_nil, List.length_take, List.length_append]; omega)) (by first | (have := chgL_le f g m; simp only [List.length_map, List.length_cons, List.length_nil]; omega) | (simp only [List.length_map, List.length_cons, List.length_nil, List.length_take, List.length_append]; omega)) fun V4 =>
 .r 1 <| .run 2 [rng .i64 ((m : Int) + 1)] ⟨rng64 (by omega) (by omega), trivial⟩ <|
 .back L2 (m, V) ((m + 1), V4) (show (m + 1) ≤ (allNo f g).length from (by show _ ≤ _; omega)) (show (allNo f g).length - (m + 1) < (allNo f g).length - m from (by omega)) ⟨[(2, .ptr 2 b1 0), (3, .ptr 3 b2 0), (34, aI ((allNo f g).length : Int)), (35, aI ((m : Int) + 1)), (8, .rw 8 V4 (((chgL f g m).map chgR).length + ([[aI x2, aB false, aI ((findN g x2).ino), aI ((findN g x2).kind), aI ((findN g x2).links), aS ((findN g x2).text), .sl 2 false ((findN g x2).l.map entA)]] : List (List AV)).length)), (33, .sl 1 false ((allNo f g).map intA))], [(2, .box b1 24 [.sl 5 false (f.l.map nodA), aI f.next]), (3, .box b2 24 [.sl 5 false (g.l.map nodA), aI g.next]), (8, .row V4 71 7 (((chgL f g m).map chgR) ++ ([[aI x2, aB false, aI ((findN g x2).ino), aI ((findN g x2).kind), aI ((findN g x2).links), aS ((findN g x2).text), .sl 2 false ((findN g x2).l.map entA)]])))]⟩ ⟨Sub.refl _, Sub.refl _, Sub.refl _, Sub.of_eq (congrArg aI (by first | omega | rfl)), Sub.of_eq (congrArg (AV.rw 8 V4) (by rw [chgL_yes hx2 (show chgD f g x2 = some ⟨x2, false, findN g x2⟩ from by unfold chgD; rw [if_neg (by simp [q3]), if_pos (.inr (dP_false.1 q5))])]; simp)), Sub.refl _, trivial⟩ ⟨⟨_, rfl, SubB.refl _⟩, ⟨_, rfl, SubB.refl _⟩, ⟨_, rfl, SubB.of_eq (by rw [chgL_yes hx2 (show chgD f g x2 = some ⟨x2, false, findN g x2⟩ from by unfold chgD; rw [if_neg (by simp [q3]), if_pos (.inr (dP_false.1 q5))])]; simp [chgR])⟩, trivial⟩)
 <| fun q5 => have q5 := notF q5; have p5 := booT q5; .run 2 [rng .i64 ((m : Int) + 1)] ⟨rng64 (by omega) (by omega), trivial⟩ <|
 .back L2 (m, V) ((m + 1), V) (show (m + 1) ≤ (allNo f g).length from (by show _ ≤ _; omega)) (show (allNo f g).length - (m + 1) < (allNo f g).length - m from (by omega)) ⟨[(2, .ptr 2 b1 0), (3, .ptr 3 b2 0), (34, aI ((allNo f g).length : Int)), (35, aI ((m : Int) + 1)), (8, .rw 8 V ((chgL f g m).length)), (33, .sl 1 false ((allNo f g).map intA))], [(2, .box b1 24 [.sl 5 false (f.l.map nodA), aI f.next]), (3, .box b2 24 [.sl 5 false (g.l.map nodA), aI g.next]), (8, .row V 71 7 ((chgL f g m).map chgR))]⟩ ⟨Sub.refl _, Sub.refl _, Sub.refl _, Sub.of_eq (congrArg aI (by first | omega | rfl)), Sub.of_eq (congrArg (AV.rw 8 V) (by rw [chgL_no hx2 (show chgD f g x2 = none from by unfold chgD; rw [if_neg (by simp [q3]), if_neg (fun h => h.elim (fun h => by rw [q4] at h; cases h) (fun h => h (dP_true.1 q5)))])])), Sub.refl _, trivial⟩ ⟨⟨_, rfl, SubB.refl _⟩, ⟨_, rfl, SubB.refl _⟩, ⟨_, rfl, SubB.of_eq (by rw [chgL_no hx2 (show chgD f g x2 = none from by unfold chgD; rw [if_neg (by simp [q3]), if_neg (fun h => h.elim (fun h => by rw [q4] at h; cases h) (fun h => h (dP_true.1 q5)))])])⟩, trivial⟩)
 <| fun q2 => have p2 := decF q2; .r 2 <| .frz 8 [4] [] [V = V, (chgL f g m).length = ((chgL f g m).map chgR).length] ⟨rfl, (by first | rfl | (simp; done) | (simp; omega)), trivial⟩ <|
 .fin (x := .sl 7 false ((chgL f g m).map chgR)) (r := .sl 7 false ((changesD f g).map chgA)) [] trivial (by
    rw [chgL_all (by omega)]
    exact chg_sub changes_gone)) a2.1 a2.2 ha2) a1.1 a1.2 ha1) Tryz.func26 rfl (by kernel_rfl) (by kernel_rfl)
end Go.Proofs.YtkhnialfkndiiaaGreat

set_option linter.unusedVariables false
set_option linter.unusedSimpArgs false
namespace Go.Proofs.YtkhnialfkndiiaaGreat
open Go Go.RowKit Copyhold
set_option maxRecDepth 100000 in
set_option maxHeartbeats 4000000 in
theorem oapply_spec (f : Fsy) (cs : List Chg) (next : Int) (okf : OkF f) (hr : RiseN f.l) (hl : f.l.length + cs.length ≤ 80000) (hc : ∀ c ∈ cs, ApOk c) (hn : I64 next) : FSpec Tryz.prog 30 [.agg [.sl 5 false (f.l.map nodA), aI f.next], .sl 7 false (cs.map chgA), aI next] (.agg (fsyA (applyD f cs next))) := by
  exact spec_vc (F := Tryz.f30) 400 (
 .new fun b1 => .new fun b2 => .r 2 <| .val 10 (show (aI ((cs.map chgA).length : Int) : AV) = aI (cs.length : Int) from by rw [List.length_map]) <| .r 1 <| let L1 : Lp (Nat) := ⟨fun a1 => ⟨[(2, aI next), (3, .ptr 3 b1 0), (6, .ptr 6 b2 0), (9, .sl 7 false (cs.map chgA)), (10, aI (cs.length : Int)), (11, aI (a1 : Int))], [(3, .box b1 24 [.sl 5 false ((apK f cs a1).l.map nodA), aI ((apK f cs a1).next)]), (6, .box b2 24 [aN, aI 0])]⟩, fun a1 => cs.length - a1, fun a1 => a1 ≤ cs.length⟩
 .loop L1 0 (show 0 ≤ cs.length from Nat.zero_le _) ⟨[(2, aI next), (3, .ptr 3 b1 0), (6, .ptr 6 b2 0), (9, .sl 7 false (cs.map chgA)), (10, aI (cs.length : Int)), (11, aI 0)], [(3, .box b1 24 [.sl 5 false (f.l.map nodA), aI f.next]), (6, .box b2 24 [aN, aI 0])]⟩ ⟨Sub.refl _, Sub.refl _, Sub.refl _, Sub.refl _, Sub.refl _, Sub.of_eq (congrArg aI (by first | omega | rfl)), trivial⟩ ⟨⟨_, rfl, SubB.of_eq rfl⟩, ⟨_, rfl, SubB.refl _⟩, trivial⟩ fun a1 ha1 =>
 (fun (k : Nat) (hH1 : k ≤ cs.length) => have apk := apK_keep okf hr hl hc k (by omega); have apl := apk.2.2; .r 1 <| .br 12 (decide ((k : Int) < (cs.length : Int))) (fun q1 => have p1 := decT q1; .idxM cs chgA k (m := (k : Int)) rfl (by omega) fun x1 hx1 =>
 have okcx1 := hc x1 (List.mem_of_getElem? hx1); .r 1 <| .new fun b3 => .run 1 [b3 = b3] ⟨rfl, trivial⟩ <|
 .run 2 [b3 = b3] ⟨rfl, trivial⟩ <|
 .br 16 (x1.gone) (fun q2 => have p2 := booT q2; .run 3 [b1 = b1, b3 = b3] ⟨rfl, rfl, trivial⟩ <|
 .call (out_spec (apK f cs k) x1.ino (by omega) apk.2.1) <|
 .run 1 [b1 = b1] ⟨rfl, trivial⟩ <|
 .run 2 [rng .i64 ((k : Int) + 1)] ⟨rng64 (by omega) (by omega), trivial⟩ <|
 .back L1 k (k + 1) (show (k + 1) ≤ cs.length from (by show _ ≤ _; omega)) (show cs.length - (k + 1) < cs.length - k from (by omega)) ⟨[(2, aI next), (3, .ptr 3 b1 0), (6, .ptr 6 b2 0), (9, .sl 7 false (cs.map chgA)), (10, aI (cs.length : Int)), (11, aI ((k : Int) + 1))], [(3, .box b1 24 [.sl 5 false ((outF (apK f cs k) x1.ino).l.map nodA), aI ((outF (apK f cs k) x1.ino).next)]), (6, .box b2 24 [aN, aI 0])]⟩ ⟨Sub.refl _, Sub.refl _, Sub.refl _, Sub.refl _, Sub.refl _, Sub.of_eq (congrArg aI (by first | omega | rfl)), trivial⟩ ⟨⟨_, rfl, SubB.of_eq (by rw [apK_step hx1, show apD (apK f cs k) x1 = _ from if_pos q2])⟩, ⟨_, rfl, SubB.refl _⟩, trivial⟩)
 <| fun q2 => have p2 := booF q2; .run 3 [b1 = b1, b3 = b3] ⟨rfl, rfl, trivial⟩ <|
 .call (put_spec (apK f cs k) x1.n ⟨okcx1.node.1, by have := okcx1.no; omega⟩ (by omega) apk.2.1) <|
 .run 1 [b1 = b1] ⟨rfl, trivial⟩ <|
 .run 2 [rng .i64 ((k : Int) + 1)] ⟨rng64 (by omega) (by omega), trivial⟩ <|
 .back L1 k (k + 1) (show (k + 1) ≤ cs.length from (by show _ ≤ _; omega)) (show cs.length - (k + 1) < cs.length - k from (by omega)) ⟨[(2, aI next), (3, .ptr 3 b1 0), (6, .ptr 6 b2 0), (9, .sl 7 false (cs.map chgA)), (10, aI (cs.length : Int)), (11, aI ((k : Int) + 1))], [(3, .box b1 24 [.sl 5 false ((putF (apK f cs k) x1.n).l.map nodA), aI ((putF (apK f cs k) x1.n).next)]), (6, .box b2 24 [aN, aI 0])]⟩ ⟨Sub.refl _, Sub.refl _, Sub.refl _, Sub.refl _, Sub.refl _, Sub.of_eq (congrArg aI (by first | omega | rfl)), trivial⟩ ⟨⟨_, rfl, SubB.of_eq (by rw [apK_step hx1, show apD (apK f cs k) x1 = _ from if_neg (by rw [q2]; decide)])⟩, ⟨_, rfl, SubB.refl _⟩, trivial⟩)
 <| fun q1 => have p1 := decF q1; .run 3 [b1 = b1] ⟨rfl, trivial⟩ <|
 .op (mxR) ((apK f cs k).next, next, some 29) (fun (_ : Unit) σ => σ.put (some 29) (aI (if next > ((apK f cs k).next) then next else (apK f cs k).next))) (rule_mx) fun _ =>
 .run 2 [b1 = b1] ⟨rfl, trivial⟩ <|
 .run 2 [b1 = b1, b2 = b2] ⟨rfl, rfl, trivial⟩ <|
 .fin (x := .agg [.sl 5 false ((apK f cs k).l.map nodA), aI (if next > ((apK f cs k).next) then next else (apK f cs k).next)]) (r := .agg (fsyA (applyD f cs next))) [b2 = b2] ⟨rfl, trivial⟩ (by
    unfold applyD maxD
    rw [show cs.length = k from by omega]
    exact Sub.refl _)) a1 ha1) Tryz.func30 rfl (by kernel_rfl) (by kernel_rfl)
end Go.Proofs.YtkhnialfkndiiaaGreat
