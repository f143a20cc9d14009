/- How a law's row is closed once its call is known to return true and to leave old memory as it was: over any program, any parameters that can be read. -/
import Derived.WalkKit
import Derived.ProofKit
import Derived.OpenShut
import Derived.ShutString
import Derived.JoinedCond
import Derived.Carry
import Derived.SliceStrings
import Derived.SizedLaws
import Derived.Lib.SmallJoins
import Derived.Test.YtibcmgmlklehdaaKit
namespace Copyhold
open Go Go.RowKit Go.ChangeShapes Go.WideShapes Go.ChangeAt

theorem trodAll_stays {H : Type} {enc : TypeId × Value → H} {P : Program} (hl : laidOutB P = true) {W W' : World} (hb : Below W.heap.size W W') :
    ∀ (ts : List TypeId) (vs : List Value) (ds : List (DataW H)) (ps : List MemPlace), (∀ t ∈ ts, P.readableRec t = true ∧ t < P.types.size) →
      DataW.TrodAll enc P W 0 (fun _ => true) true ts vs ds ps → (∀ x ∈ ps, x.block < W.heap.size) → DataW.TrodAll enc P W' 0 (fun b => decide (b < W.heap.size)) true ts vs ds ps
  | [], vs, ds, ps, _, h, _ => by
    obtain ⟨rfl, rfl, rfl⟩ := trodAll_nil h
    rfl
  | t :: ts, vs, ds, ps, ht, h, hlt => by
    obtain ⟨v, vs', d, ds', p, q, rfl, rfl, rfl, h1, h2⟩ := trodAll_cons h
    have hr := ht t (by simp)
    exact trodAll_cons_mk (Below.trod hl hr.1 hr.2 h1 hb (fun x hx => hlt x (by simp [hx])))
      (trodAll_stays hl hb ts vs' ds' q (fun u hu => ht u (by simp [hu])) h2 (fun x hx => hlt x (by simp [hx])))

/-- rows of so many elements -/
theorem list1 {α : Type} {l : List α} (h : l.length = 1) : ∃ x0, l = [x0] := by
  match l, h with
  | [x0], _ => exact ⟨x0, rfl⟩
theorem array1_of {α : Type} {l : Array α} (h : l.size = 1) : ∃ x0, l = #[x0] := by
  obtain ⟨l⟩ := l
  obtain ⟨x0, rfl⟩ := list1 h
  exact ⟨x0, rfl⟩
theorem list2 {α : Type} {l : List α} (h : l.length = 2) : ∃ x0 x1, l = [x0, x1] := by
  match l, h with
  | [x0, x1], _ => exact ⟨x0, x1, rfl⟩
theorem array2_of {α : Type} {l : Array α} (h : l.size = 2) : ∃ x0 x1, l = #[x0, x1] := by
  obtain ⟨l⟩ := l
  obtain ⟨x0, x1, rfl⟩ := list2 h
  exact ⟨x0, x1, rfl⟩
theorem list3 {α : Type} {l : List α} (h : l.length = 3) : ∃ x0 x1 x2, l = [x0, x1, x2] := by
  match l, h with
  | [x0, x1, x2], _ => exact ⟨x0, x1, x2, rfl⟩
theorem array3_of {α : Type} {l : Array α} (h : l.size = 3) : ∃ x0 x1 x2, l = #[x0, x1, x2] := by
  obtain ⟨l⟩ := l
  obtain ⟨x0, x1, x2, rfl⟩ := list3 h
  exact ⟨x0, x1, x2, rfl⟩
theorem list4 {α : Type} {l : List α} (h : l.length = 4) : ∃ x0 x1 x2 x3, l = [x0, x1, x2, x3] := by
  match l, h with
  | [x0, x1, x2, x3], _ => exact ⟨x0, x1, x2, x3, rfl⟩
theorem array4_of {α : Type} {l : Array α} (h : l.size = 4) : ∃ x0 x1 x2 x3, l = #[x0, x1, x2, x3] := by
  obtain ⟨l⟩ := l
  obtain ⟨x0, x1, x2, x3, rfl⟩ := list4 h
  exact ⟨x0, x1, x2, x3, rfl⟩
theorem list5 {α : Type} {l : List α} (h : l.length = 5) : ∃ x0 x1 x2 x3 x4, l = [x0, x1, x2, x3, x4] := by
  match l, h with
  | [x0, x1, x2, x3, x4], _ => exact ⟨x0, x1, x2, x3, x4, rfl⟩
theorem array5_of {α : Type} {l : Array α} (h : l.size = 5) : ∃ x0 x1 x2 x3 x4, l = #[x0, x1, x2, x3, x4] := by
  obtain ⟨l⟩ := l
  obtain ⟨x0, x1, x2, x3, x4, rfl⟩ := list5 h
  exact ⟨x0, x1, x2, x3, x4, rfl⟩
theorem list6 {α : Type} {l : List α} (h : l.length = 6) : ∃ x0 x1 x2 x3 x4 x5, l = [x0, x1, x2, x3, x4, x5] := by
  match l, h with
  | [x0, x1, x2, x3, x4, x5], _ => exact ⟨x0, x1, x2, x3, x4, x5, rfl⟩
theorem array6_of {α : Type} {l : Array α} (h : l.size = 6) : ∃ x0 x1 x2 x3 x4 x5, l = #[x0, x1, x2, x3, x4, x5] := by
  obtain ⟨l⟩ := l
  obtain ⟨x0, x1, x2, x3, x4, x5, rfl⟩ := list6 h
  exact ⟨x0, x1, x2, x3, x4, x5, rfl⟩
theorem list7 {α : Type} {l : List α} (h : l.length = 7) : ∃ x0 x1 x2 x3 x4 x5 x6, l = [x0, x1, x2, x3, x4, x5, x6] := by
  match l, h with
  | [x0, x1, x2, x3, x4, x5, x6], _ => exact ⟨x0, x1, x2, x3, x4, x5, x6, rfl⟩
theorem array7_of {α : Type} {l : Array α} (h : l.size = 7) : ∃ x0 x1 x2 x3 x4 x5 x6, l = #[x0, x1, x2, x3, x4, x5, x6] := by
  obtain ⟨l⟩ := l
  obtain ⟨x0, x1, x2, x3, x4, x5, x6, rfl⟩ := list7 h
  exact ⟨x0, x1, x2, x3, x4, x5, x6, rfl⟩
theorem list8 {α : Type} {l : List α} (h : l.length = 8) : ∃ x0 x1 x2 x3 x4 x5 x6 x7, l = [x0, x1, x2, x3, x4, x5, x6, x7] := by
  match l, h with
  | [x0, x1, x2, x3, x4, x5, x6, x7], _ => exact ⟨x0, x1, x2, x3, x4, x5, x6, x7, rfl⟩
theorem array8_of {α : Type} {l : Array α} (h : l.size = 8) : ∃ x0 x1 x2 x3 x4 x5 x6 x7, l = #[x0, x1, x2, x3, x4, x5, x6, x7] := by
  obtain ⟨l⟩ := l
  obtain ⟨x0, x1, x2, x3, x4, x5, x6, x7, rfl⟩ := list8 h
  exact ⟨x0, x1, x2, x3, x4, x5, x6, x7, rfl⟩
theorem list9 {α : Type} {l : List α} (h : l.length = 9) : ∃ x0 x1 x2 x3 x4 x5 x6 x7 x8, l = [x0, x1, x2, x3, x4, x5, x6, x7, x8] := by
  match l, h with
  | [x0, x1, x2, x3, x4, x5, x6, x7, x8], _ => exact ⟨x0, x1, x2, x3, x4, x5, x6, x7, x8, rfl⟩
theorem array9_of {α : Type} {l : Array α} (h : l.size = 9) : ∃ x0 x1 x2 x3 x4 x5 x6 x7 x8, l = #[x0, x1, x2, x3, x4, x5, x6, x7, x8] := by
  obtain ⟨l⟩ := l
  obtain ⟨x0, x1, x2, x3, x4, x5, x6, x7, x8, rfl⟩ := list9 h
  exact ⟨x0, x1, x2, x3, x4, x5, x6, x7, x8, rfl⟩

/-- a law's post -/
theorem law_post {H : Type} {enc : TypeId × Value → H} {P : Program} {f : Func} {s : ChangeSpec} {W W' : World} {args : Array Value} {ds gs : List (DataW H)} {before : List MemPlace} {tb : TypeId}
    (hl : laidOutB P = true) (hp : (f.params.toList.all fun t => P.readableRec t && decide (t < P.types.size)) = true) (hr : f.resultTypes = #[tb]) (htb : P.underlying tb = some .bool) (hv : s.vars = [])
    (hfn : (s.fn H (ds ++ gs)).results = [.lit (.bool true)]) (hfa : (s.fn H (ds ++ gs)).args = ds) (hfv : (s.fn H (ds ++ gs)).vars = [])
    (hW : DataW.Whole enc P f.params.toList s.vars false W args.toList ds gs before) (hb : Below W.heap.size W W') :
    s.post enc P f false true false false W args (.bool true) W' := by
  have hlt := hW.lt
  have hW' := hW
  obtain ⟨p, q, hA, hV, rfl, hz, hn⟩ := hW
  refine ⟨ds, gs, p ++ q, [], p, [], hW', ?_, ?_, ?_, hb.frame _, fun h => by cases h⟩
  · rw [hfn, hr]
    exact trodAll_cons_mk (shut_bool htb true) trodAll_mk0
  · rw [hfa]
    refine trodAll_stays hl hb _ _ _ _ (fun t ht => ?_) hA (fun x hx => hlt x (by simp [hx]))
    have := (List.all_eq_true.1 hp) t ht
    simpa using this
  · rw [hfv, hv]
    rfl
/-- texts as data -/
def textsD {H : Type} (d : DataW H) (ls : List (List UInt8)) : Prop := d = .nil ∧ ls = [] ∨ ∃ spare, d = .slice (ls.map fun l => .lit (.string l)) spare

theorem weights_texts {H : Type} {P : Program} {e : TypeId} : ∀ (ls : List (List UInt8)) (l : List UInt8), l ∈ ls → l.length ∈ DataW.weightsAll (H := H) P e (ls.map fun l => .lit (.string l))
  | x :: r, l, h => by
    simp only [List.map_cons, DataW.weightsAll, DataW.weights, List.mem_append]
    rcases List.mem_cons.1 h with rfl | h
    · exact .inl (by simp)
    · exact .inr (weights_texts r l h)

theorem sized_deep {H : Type} {P : Program} {ts : List TypeId} {ds : List (DataW H)} (h : (DataW.weightsEach P ts ds).all (· ≤ reachBytes) = true) {n : Nat} (hn : n ∈ DataW.weightsEach P ts ds) : n ≤ 140737488351232 :=
  of_decide_eq_true (List.all_eq_true.1 h n hn)

/-- each text of a row that is within the form's reach is -/
theorem sized_texts {H : Type} {P : Program} {ts : List TypeId} {ds : List (DataW H)} (h : (DataW.weightsEach P ts ds).all (· ≤ reachBytes) = true) {j : Nat} {t e : TypeId} {d : DataW H} {ls : List (List UInt8)}
    (ht : ts[j]? = some t) (hd : ds[j]? = some d) (hu : P.underlying t = some (.slice e)) (he : textsD d ls) : ∀ l ∈ ls, l.length ≤ 140737488351232 := by
  rcases he with ⟨rfl, rfl⟩ | ⟨spare, rfl⟩
  · intro l hl; cases hl
  · intro l hl
    have := List.all_eq_true.1 h l.length (DataW.weights_mem_each ht hd l.length (by
      simp only [DataW.weights, hu, List.mem_cons, List.mem_append]
      exact .inr (.inl (weights_texts ls l hl))))
    exact of_decide_eq_true this

/-- how many texts there are, and how long each is, within the form's reach -/
theorem texts_sized {H : Type} {P : Program} {t e : TypeId} {d : DataW H} {ls : List (List UInt8)} (hu : P.underlying t = some (.slice e)) (hby : P.bytesOf e = 16) (he : textsD d ls) (hw : ∀ n ∈ DataW.weights P t d, n ≤ 140737488351232) :
    ls.length ≤ 8796093022207 ∧ ∀ l ∈ ls, l.length ≤ 140737488351232 := by
  rcases he with ⟨rfl, rfl⟩ | ⟨spare, rfl⟩
  · exact ⟨by simp, fun l hl => by cases hl⟩
  · constructor
    · have := hw (((ls.map fun l => (DataW.lit (.string l) : DataW H)).length + spare.length) * P.bytesOf e) (by simp only [DataW.weights, hu, List.mem_cons, true_or])
      rw [hby, List.length_map] at this
      omega
    · intro l hl
      exact hw _ (by
        simp only [DataW.weights, hu, List.mem_cons, List.mem_append]
        exact .inr (.inl (weights_texts ls l hl)))

/-- a slice of strings among the arguments -/
theorem open_texts_at {H : Type} {enc : TypeId × Value → H} {P : Program} {W : World} {t e : TypeId} {fuel : Nat} {cs : List Value} {x : DataW H × List MemPlace} (ht : P.underlying t = some (.slice e)) (he : P.underlying e = some .string) (hc : P.cellsOf e = 1)
    (h : DataW.trod enc P W 0 (fun _ => true) true fuel t cs = some x) (hlt : ∀ p ∈ x.2, p.block < W.heap.size) :
    ∃ (v : Value) (ls : List (List UInt8)), cs = [v] ∧ Row W v (ls.map strV) ∧ textsD x.1 ls := by
  rcases open_strings ht he hc h with ⟨rfl, rfl⟩ | ⟨a, len, cap, ss, rfl, _, hl, hm, hss, rfl, hcell, _⟩
  · exact ⟨_, [], rfl, .inl ⟨none, 0, rfl, rfl⟩, .inl ⟨rfl, rfl⟩⟩
  · simp only [if_true] at hss
    have hlen : (ss.take len).length = len := by rw [List.length_take]; omega
    refine ⟨_, (ss.take len).map (·.data.toList), rfl, ?_, .inr ⟨strs (ss.drop len), ?_⟩⟩
    · by_cases h0 : len = 0
      · subst h0
        exact .inl ⟨_, cap, rfl, by simp⟩
      · obtain ⟨b, off, spot⟩ := a
        have hspot : spot = none := by simpa [Addr.add] using World.cell?_spot (hcell 0 (by omega))
        subst hspot
        have hlen' : (((ss.take len).map (·.data.toList)).map strV).length = len := by rw [List.length_map, List.length_map, hlen]
        refine .inr ⟨b, off, cap, by rw [hlen'], by omega, by omega, ?_, fun i y hy => ?_⟩
        · have := hlt (.cell b off) (by
            simp only [MemPlace.row]
            refine List.mem_map.2 ⟨0, by simp; omega, by simp⟩)
          exact this
        · rw [List.map_map, List.getElem?_map] at hy
          cases hg : (ss.take len)[i]? with
          | none => rw [hg] at hy; cases hy
          | some s =>
            rw [hg] at hy
            have hi : i < (ss.take len).length := (List.getElem?_eq_some_iff.1 hg).1
            have hss' : ss[i]? = some s := by rw [List.getElem?_take] at hg; split at hg; exact hg; cases hg
            have hc := hcell i (by omega)
            rw [Go.WideShapes.add_plain, List.getD_eq_getElem?_getD, hss'] at hc
            rw [hc, ← hy]
            rfl
    · simp [strs, List.map_map, Function.comp_def]

theorem open_texts {H : Type} {enc : TypeId × Value → H} {P : Program} {W : World} {base : Nat} {t e : TypeId} {v : Value} {d : DataW H} {p : List MemPlace} (ht : P.underlying t = some (.slice e)) (he : P.underlying e = some .string) (hc : P.cellsOf e = 1)
    (hv : Value.okWide P W .any base t v) (h : DataW.Trod enc P W 0 (fun _ => true) true t v d p) (hlt : ∀ x ∈ p, x.block < W.heap.size) :
    ∃ ls : List (List UInt8), Row W v (ls.map strV) ∧ textsD d ls := by
  obtain ⟨a, len, cap, rfl⟩ := okWide_slice ht hv
  obtain ⟨fuel, hf⟩ := h
  obtain ⟨v, ls, hcs, hr, hd⟩ := open_texts_at ht he hc hf hlt
  have : v = .slice a len cap := by
    have : [Value.slice a len cap] = [v] := hcs
    simpa using this.symm
  subst this
  exact ⟨ls, hr, hd⟩

/-- a pair of ints among the arguments -/
theorem open_pair {H : Type} {enc : TypeId × Value → H} {P : Program} {W : World} {base : Nat} {t e : TypeId} {v : Value} {d : DataW H} {p : List MemPlace} (ht : P.underlying t = some (.array 2 e)) (he : P.underlying e = some (.int .i64)) (hce : P.cellsOf e = 1) (hct : P.cellsOf t = 2)
    (hv : Value.okWide P W .any base t v) (h : DataW.Trod enc P W 0 (fun _ => true) true t v d p) :
    ∃ a b : Int, v = .agg #[.int .i64 a, .int .i64 b] ∧ d = .agg [.lit (.int .i64 a), .lit (.int .i64 b)] ∧ p = [] ∧ (Lit.int .i64 a).wf = true ∧ (Lit.int .i64 b).wf = true := by
  simp only [Value.okWide, ht] at hv
  obtain ⟨cs, rfl, hsz, _⟩ := hv
  rw [hct] at hsz
  obtain ⟨c0, c1, rfl⟩ := array2_of hsz
  obtain ⟨fuel, hf⟩ := h
  obtain ⟨xs, m, _, hx, _, hlen, hfl⟩ := DataW.trod_array ht hf
  obtain ⟨y0, y1, rfl⟩ := list2 hlen
  have g0 : DataW.trod enc P W 0 (fun _ => true) true m e [c0] = some y0 := by have h := hfl 0 (by omega); simpa [Value.cells, hce] using h
  have g1 : DataW.trod enc P W 0 (fun _ => true) true m e [c1] = some y1 := by have h := hfl 1 (by omega); simpa [Value.cells, hce] using h
  obtain ⟨a, ev0, rfl, wa⟩ := DataW.trod_int he g0
  obtain ⟨b, ev1, rfl, wb⟩ := DataW.trod_int he g1
  simp only [List.cons.injEq, and_true] at ev0 ev1
  subst ev0 ev1
  simp only [Prod.mk.injEq] at hx
  obtain ⟨rfl, rfl⟩ := hx
  exact ⟨a, b, rfl, rfl, rfl, wa, wb⟩
end Copyhold
