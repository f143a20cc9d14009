/- slices.Clone and slices.SortFunc over spans by their first places (the library's contracts, laid at this program); cmp.Compare of whole numbers. -/
import Derived.Test.YtcckbiaigcideaaSpanPlaces
import Derived.Test.YtcckbiaigcideaaSpanShifts
import Derived.Test.YtcckbiaigcideaaShelf
import Derived.Shelf.SlSortCmp.Whole1
set_option linter.unusedVariables false
namespace Go.Proofs.Ytcckbiaigcideaa
open Go.RowKit Copyhold

theorem spElem : Elem Try.prog 45 24 (.complex .f64 0 0) 1 16 := ⟨by kernel_rfl, by kernel_rfl, rfl, by decide⟩

/-- spans that may be -/
def SpT : Type := { p : Nat × Nat // p.1 + p.2 ≤ 1099511627776 }
instance : Inhabited SpT := ⟨⟨(0, 0), by decide⟩⟩
def encS (p : SpT) : Value := spV p.1
def cmpN (a b : Nat) : Int := if a < b then -1 else if b < a then 1 else 0
def cmpS (x y : SpT) : Int := cmpN x.1.1 y.1.1

theorem isNaN_fl (a : Nat) (h : a < 2 ^ 53) (w : World) : Calls Try.prog 46 #[.float .f64 (fl a)] w fun e w' => e = .returned (.bool false) ∧ w = w' := by
  have hs := spanShifts.fl_self a h
  generalize fl a = x at *
  go_enter Try.func46, Try.ntmps46
  go_wp2_with fail
  go_ret
  exact ⟨rfl, rfl⟩
theorem compare_fl (a b : Nat) (ha : a < 2 ^ 53) (hb : b < 2 ^ 53) (w : World) : Calls Try.prog 37 #[.float .f64 (fl a), .float .f64 (fl b)] w fun e w' => e = .returned (.int .i64 (cmpN a b)) ∧ w = w' := by
  have ho := fl_order a b ha hb
  have HA := Lib.hid (fun W => isNaN_fl a ha W)
  have HB := Lib.hid (fun W => isNaN_fl b hb W)
  have hc : (compare a b = .lt ∧ cmpN a b = -1) ∨ (compare a b = .gt ∧ cmpN a b = 1) ∨ (compare a b = .eq ∧ cmpN a b = 0) := by
    unfold cmpN
    rcases Nat.lt_trichotomy a b with h | h | h
    · exact .inl ⟨Nat.compare_eq_lt.2 h, if_pos h⟩
    · exact .inr (.inr ⟨Nat.compare_eq_eq.2 h, by rw [if_neg (by omega), if_neg (by omega)]⟩)
    · exact .inr (.inl ⟨Nat.compare_eq_gt.2 h, by rw [if_neg (by omega), if_pos h]⟩)
  generalize cmpN a b = r at *
  generalize compare a b = o at *
  generalize fl a = x at *
  generalize fl b = y at *
  rcases hc with ⟨rfl, rfl⟩ | ⟨rfl, rfl⟩ | ⟨rfl, rfl⟩
  all_goals
    go_enter Try.func37, Try.ntmps37
    go_wp2_with fail
    refine (HA.out _).mono ?_
    rintro e w1 ⟨rfl, rfl⟩
    go_wp2_with fail
    refine (HB.out _).mono ?_
    rintro e w1 ⟨rfl, rfl⟩
    go_wp2_with fail
    go_ret
    exact ⟨rfl, rfl⟩
theorem clean_cmp (x y : SpT) (w : World) : Calls Try.prog 36 #[encS x, encS y] w fun e w' => e = .returned (.int .i64 (cmpS x y)) ∧ w = w' := by
  obtain ⟨⟨a, b⟩, h⟩ := x
  obtain ⟨⟨c, d⟩, h'⟩ := y
  simp only at h h'
  have HC := Lib.hid (fun W => compare_fl a c (by omega) (by omega) W)
  show Calls Try.prog 36 #[.complex .f64 (fl a) (fl b), .complex .f64 (fl c) (fl d)] w fun e w' => e = .returned (.int .i64 (cmpN a c)) ∧ w = w'
  generalize cmpN a c = r at *
  generalize fl a = x1 at *
  generalize fl b = x2 at *
  generalize fl c = y1 at *
  generalize fl d = y2 at *
  go_enter Try.func36, Try.ntmps36
  go_wp2_with fail
  refine (HC.out _).mono ?_
  rintro e w1 ⟨rfl, rfl⟩
  go_wp2_with fail
  go_ret
  exact ⟨rfl, rfl⟩

theorem ltS (x y : SpT) : Go.Proofs.ltOf cmpS x y = decide (x.1.1 < y.1.1) := by
  unfold Go.Proofs.ltOf cmpS cmpN
  by_cases h1 : x.1.1 < y.1.1
  · simp [h1]
  · by_cases h2 : y.1.1 < x.1.1 <;> simp [h1, h2]
theorem swoS : Sort.SWO (Go.Proofs.ltOf cmpS) where
  irrefl x := by rw [ltS]; simp
  trans x y z h1 h2 := by rw [ltS] at *; simp at *; omega
  ntrans x y z h1 h2 := by rw [ltS] at *; simp at *; omega

/-- rows as arrays of spans that may be -/
def lstS : (xs : List (Nat × Nat)) → (∀ p ∈ xs, p.1 + p.2 ≤ 1099511627776) → List SpT
  | [], _ => []
  | p :: xs, h => ⟨p, h p (List.mem_cons_self ..)⟩ :: lstS xs fun q hq => h q (List.mem_cons_of_mem _ hq)
theorem lstS_map : ∀ (xs : List (Nat × Nat)) (h : ∀ p ∈ xs, p.1 + p.2 ≤ 1099511627776), (lstS xs h).map (fun x : SpT => x.1) = xs
  | [], _ => rfl
  | p :: xs, h => congrArg (p :: ·) (lstS_map xs fun q hq => h q (List.mem_cons_of_mem _ hq))
theorem lstS_len (xs : List (Nat × Nat)) (h : ∀ p ∈ xs, p.1 + p.2 ≤ 1099511627776) : (lstS xs h).length = xs.length := by
  have := congrArg List.length (lstS_map xs h)
  rwa [List.length_map] at this
def arrS (xs : List (Nat × Nat)) (h : ∀ p ∈ xs, p.1 + p.2 ≤ 1099511627776) : Array SpT := (lstS xs h).toArray
theorem arrS_map (xs : List (Nat × Nat)) (h : ∀ p ∈ xs, p.1 + p.2 ≤ 1099511627776) : (arrS xs h).toList.map (fun x : SpT => x.1) = xs := lstS_map xs h
theorem arrS_size (xs : List (Nat × Nat)) (h : ∀ p ∈ xs, p.1 + p.2 ≤ 1099511627776) : (arrS xs h).size = xs.length := lstS_len xs h

open Go.Sort in
theorem heap_sortedS {w : World} {g n : Nat} {os : Array Obj} {cur : Array Value} {e : TypeId} {fr : Nat × Nat} (d : Array SpT) (hb : w.heap[g]? = some (.cells cur e fr)) :
    (grow (putRow encS (Sort.ahead w n) g 0 d) os).heap[g]? = some (.cells (putCells encS 0 d cur) e fr) := by
  have hg : g < w.heap.size := (Array.getElem?_eq_some_iff.1 hb).1
  rw [heap_grow_old _ _ (by simpa using hg)]
  simp [putRow, mapBlock, Sort.ahead, Array.getElem?_modify, hb, onCells]
open Go.Sort in
theorem grownBy_sortedS {w : World} {g n : Nat} {os : Array Obj} (d : Array SpT) : w.grownBy (grow (putRow encS (Sort.ahead w n) g 0 d) os) (some g) := by
  refine ⟨rfl, rfl, rfl, by simp, fun k hk hne => ?_⟩
  rw [heap_grow_old _ _ (by simpa using hk)]
  have : g ≠ k := fun e => hne (by rw [e])
  simp [putRow, mapBlock, Sort.ahead, Array.getElem?_modify, this]
open Go.Sort in
theorem take_putCellsS (cur : Array Value) (d : Array SpT) (h : d.size ≤ cur.size) : (putCells encS 0 d cur).toList.take d.size = d.toList.map encS := by
  apply List.ext_getElem?
  intro j
  by_cases hj : j < d.size
  · rw [List.getElem?_take_of_lt hj, Array.getElem?_toList]
    simp [putCells, hj, show j < cur.size by omega]
  · rw [List.getElem?_take_eq_none (by omega), List.getElem?_eq_none (by simp; omega)]

/-- told in order of their first places -/
def Asc (ys : List (Nat × Nat)) : Prop := ∀ i j (hi : i < ys.length) (hj : j < ys.length), i < j → ys[i].1 ≤ ys[j].1

open Go.Sort in
theorem sort_row (xs : List (Nat × Nat)) (hs : ∀ p ∈ xs, p.1 + p.2 ≤ 1099511627776) (hn : xs.length ≤ 1000) (A : Option Addr) (c base : Nat) (w : World) (hown : w.ownsRow base 24 1 (.slice A xs.length c) xs.length (xs.map spV)) (hbase : base ≤ w.heap.size) :
    Calls Try.prog 35 #[.slice A xs.length c, .func (.func 36) #[] #[]] w fun e w' => e = .returned (.tuple #[]) ∧ ∃ ys : List (Nat × Nat), ys.Perm xs ∧ Asc ys ∧ w'.ownsRow base 24 1 (.slice A xs.length c) xs.length (ys.map spV) ∧ Below base w w' := by
  rcases hown.2 with ⟨h1, h2⟩ | ⟨g, cap, cur, h1, hbg, hg, hnc, hcm, hcs, htake⟩
  · obtain rfl : xs = [] := List.eq_nil_of_length_eq_zero h2
    refine (Try.slices_SortFunc_none (α := SpT) A c _ w).mono ?_
    rintro e w1 ⟨rfl, rfl⟩
    exact ⟨rfl, [], .refl _, fun i j hi => absurd hi (by simp), hown, Below.refl _ _⟩
  · cases h1
    have hgl : g < w.heap.size := (Array.getElem?_eq_some_iff.1 hg).1
    have hsz := arrS_size xs hs
    have hH : Holds encS w g 0 (arrS xs hs) := by
      intro j hj
      rw [hsz] at hj
      refine ⟨?_, ?_⟩
      · rw [Nat.zero_add, hown.cellAt j (by omega), List.getElem?_map, List.getElem?_eq_getElem hj, getElem!_pos _ j (by rw [hsz]; exact hj)]
        refine congrArg some ?_
        have h1 := lstS_map xs hs
        have h2 : ((lstS xs hs).map (fun x : SpT => x.1))[j]'(by rw [h1]; exact hj) = xs[j] := by simp only [h1]
        rw [List.getElem_map] at h2
        exact congrArg spV h2.symm
      · rw [Nat.zero_add]
        exact hown.frozenAt j
    have eg : ∀ args w, (callFunc 36 args).run Try.prog w = .ok (.enter 36 args) w := enters_of Try.func36 (by kernel_rfl) rfl
    have hS := Try.slices_SortFunc encS (fun _ => rfl) cmpS swoS 36 #[] g 0 c (arrS xs hs) w eg (CmpReads.lays fun _ _ _ _ x y => (clean_cmp x y _).mono fun e w' ⟨he, hw⟩ => ⟨he, 0, hw ▸ rfl⟩) hH hgl (by rw [hsz]; omega)
    rw [hsz] at hS
    refine hS.mono ?_
    rintro e w' ⟨rfl, d, n, os, hp, hsrt, rfl⟩
    have hd : d.size = xs.length := by rw [hp.1, hsz]
    refine ⟨rfl, d.toList.map (fun x : SpT => x.1), ?_, ?_, ?_, ?_⟩
    · have h3 := hp.2.2
      rw [show (d.extract 0 xs.length) = d from by rw [← hd]; exact Array.extract_size, show (arrS xs hs).extract 0 xs.length = arrS xs hs from by rw [← hsz]; exact Array.extract_size] at h3
      have h4 := h3.map (fun x : SpT => x.1)
      rwa [arrS_map] at h4
    · intro i j hi hj hij
      simp only [List.length_map, Array.length_toList] at hi hj
      have := hsrt i j (Nat.zero_le _) hij (by omega)
      rw [ltS, decide_eq_false_iff_not, getElem!_pos d i hi, getElem!_pos d j hj] at this
      simp only [List.getElem_map, Array.getElem_toList]
      omega
    · refine ⟨by simp [hd], .inr ⟨g, c, _, rfl, hbg, heap_sortedS d hg, hnc, hcm, by simp [putCells, hcs], ?_⟩⟩
      rw [Nat.mul_one, ← hd, take_putCellsS cur d (by omega), List.map_map]
      rfl
    · exact (Below.refl base w).grown (grownBy_sortedS d) hbase (fun k hk => by injection hk with hk; omega)

theorem spOne (xs : List (Nat × Nat)) : ∀ u ∈ xs.map spV, u.oneCell' = true := by
  intro u hu
  obtain ⟨p, _, rfl⟩ := List.mem_map.1 hu
  rfl
/-- a row of spans, plainly placed -/
def Sps (w : World) (A : Option Addr) (c : Nat) (xs : List (Nat × Nat)) : Prop := (A = none ∨ ∃ b off, A = some ⟨b, off, none⟩) ∧ Sl w 1 (.slice A xs.length c) xs.length (xs.map spV)
theorem Sps.of_owns {w : World} {base : Nat} {A : Option Addr} {c : Nat} {xs : List (Nat × Nat)} (h : w.ownsRow base 24 1 (.slice A xs.length c) xs.length (xs.map spV)) : Sps w A c xs := by
  refine ⟨?_, Sl.of_owns h⟩
  rcases h.2 with ⟨h1, _⟩ | ⟨g, cap, cur, h1, _⟩
  · injection h1 with h1
    exact .inl h1
  · injection h1 with h1
    exact .inr ⟨_, _, h1⟩
theorem Sps.below {w w' : World} {A : Option Addr} {c : Nat} {xs : List (Nat × Nat)} (h : Sps w A c xs) (hb : Below w.heap.size w w') : Sps w' A c xs := ⟨h.1, h.2.below hb⟩
/-- rows of spans that are handed back -/
def RetSp (w : World) (ys : List (Nat × Nat)) (e : Ending) (w' : World) : Prop := ∃ A c, e = .returned (.slice A ys.length c) ∧ w'.ownsRow w.heap.size 24 1 (.slice A ys.length c) ys.length (ys.map spV) ∧ Below w.heap.size w w'
theorem clone_row (xs : List (Nat × Nat)) (hn : xs.length ≤ 1000) (A : Option Addr) (c : Nat) (w : World) (hs : Sps w A c xs) :
    Calls Try.prog 34 #[.slice A xs.length c] w (RetSp w xs) := by
  obtain ⟨hp, hr⟩ := hs
  rcases hp with rfl | ⟨b, off, rfl⟩
  · refine (Try.slices_Clone_nil _ c w).mono ?_
    rintro e w1 ⟨rfl, rfl⟩
    have h0 : xs.length = 0 := by
      rcases Nat.eq_zero_or_pos xs.length with h | h
      · exact h
      · obtain ⟨b, off, he, _⟩ := hr.at h
        cases he
    obtain rfl : xs = [] := List.eq_nil_of_length_eq_zero h0
    exact ⟨none, 0, rfl, World.ownsRow_nil _ _ _ _, Below.refl _ _⟩
  · obtain ⟨i, hi, hz, hsize, hby⟩ := info_of (P := Try.prog) (e := 24) (z := .complex .f64 0 0) (size := 1) (bytes := 16) (by kernel_rfl)
    have hsz : ∀ w, (Go.sizeOf 24).run Try.prog w = .ok 1 w := fun w => by simp [Go.sizeOf, typeInfo, hi, hsize]
    have hcl : ∀ j u, (xs.map spV)[j]? = some u → w.cell? ⟨b, off + j, none⟩ = some u := by
      intro j u hu
      have hj : j < xs.length := by
        have := (List.getElem?_eq_some_iff.1 hu).1
        simpa using this
      obtain ⟨b', off', he, _, _, _, hc⟩ := hr.at (by omega)
      cases he
      exact hc j u hu
    refine (Try.slices_Clone i _ 1 16 hi hz hsize hby rfl (by decide) hsz b off xs.length c (xs.map spV) w (by simp) (by unfold maxLen; omega) (by omega) hcl (spOne xs)).mono ?_
    rintro e w1 ⟨v', rfl, ho, hne, hb⟩
    obtain ⟨A', c', rfl, -, -⟩ := (Sl.of_owns ho).shape
    exact ⟨A', c', rfl, ho, hb⟩
end Go.Proofs.Ytcckbiaigcideaa
