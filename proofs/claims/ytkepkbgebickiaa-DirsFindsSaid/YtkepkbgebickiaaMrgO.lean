/- copyholdref06.Split, and the document's example: they answer as the document says; old memory is as it was. What the old contracts of names say as data: Find, Split of both sides. dirs.first, when, Dir, Look; ref10.Dir, Look. dirs.Look, ref10.Look. -/
import Derived.Test.YtkepkbgebickiaaMrgN
import Derived.Test.YtkepkbgebickiaaMrgM
set_option linter.unusedVariables false
namespace Go.Proofs.Ytkepkbgebickiaa
open Go.RowKit Copyhold Copyhold.Name
attribute [local go_sem] piece
def restAt (p s : List UInt8) (k : Nat) : List (List UInt8) := if k ≤ p.length then namesP (s ++ p.drop k) else []
theorem restAt_on {p s : List UInt8} {k : Nat} (hk : k < p.length) : restAt p (s ++ [p[k]]) (k + 1) = restAt p s k := by
  rw [restAt, restAt, if_pos (by omega), if_pos (by omega), List.append_assoc]
  congr 2
  rw [List.drop_eq_getElem_cons hk]
  rfl
theorem restAt_end {p s : List UInt8} {k : Nat} (hk : k ≤ p.length) (hs : (47 : UInt8) ∉ s) (h : ∀ hlt : k < p.length, p[k] = 47) : restAt p s k = (if counts s then [s] else []) ++ restAt p [] (k + 1) := by
  rw [restAt, if_pos hk, restAt]
  by_cases hlt : k < p.length
  · rw [if_pos (show k + 1 ≤ p.length from by omega), List.drop_eq_getElem_cons hlt, h hlt, names_cut hs, List.nil_append]
  · rw [if_neg (show ¬ k + 1 ≤ p.length from by omega), List.drop_eq_nil_of_le (by omega), List.append_nil, names_one hs, List.append_nil]
theorem byte_int {c d : UInt8} : (c.toNat : Int) = (d.toNat : Int) ↔ c = d := by
  constructor
  · intro h; exact UInt8.toNat_inj.1 (by omega)
  · rintro rfl; rfl
set_option maxHeartbeats 4000000 in
theorem ref06_Split (p : List UInt8) (hp : p.length ≤ 1000000) (w : World) : Calls Try.prog 34 #[.string ⟨p.toArray⟩] w (RetSp w (splitD p)) := by
  cases p with
  | nil =>
    have hsd : splitD [] = ([], 10) := rfl
    go_enter Try.func34, Try.ntmps34
    go_wp2_with fail
    go_ret2
    exact ⟨_, by rw [hsd]; rfl, ⟨by rw [hsd]; exact .inl ⟨none, 0, rfl, rfl⟩, by exact trivial⟩, Below.refl _ _⟩
  | cons a r =>
  obtain ⟨p, hpe⟩ : ∃ p, p = a :: r := ⟨_, rfl⟩
  have hpos : 0 < p.length := by rw [hpe]; simp
  have hlt2 : 0 < (⟨p.toArray⟩ : ByteArray).size := by simpa [ByteArray.size] using hpos
  have hx : (((⟨p.toArray⟩ : ByteArray)[0]'hlt2).toNat : Int) = (p[0].toNat : Int) := rfl
  have ha : p[0] = a := by simp [hpe]
  rw [ha] at hx
  by_cases h47 : a = 47
  · have hrest : namesP p = restAt p [] 1 := by
      rw [restAt, if_pos (by omega), hpe, h47]
      rw [show (47 : UInt8) :: r = [] ++ 47 :: r from rfl, names_cut (by simp)]
      rfl
    have hsd : splitD p = if (namesP p).all okN then (namesP p, 0) else ([], 10) := by
      rw [splitD, if_pos (by rw [hpe, h47]; rfl)]
    rw [← hpe] at hp ⊢
    have HSD := Lib.hid hsd
    have HREST := Lib.hid hrest
    have hx2 : (((⟨p.toArray⟩ : ByteArray)[0]'hlt2).toNat : Int) = 47 := by rw [hx, h47]; rfl
    have hd0 : ((p.length : Int) == 0) = false := by rw [beq_eq_false_iff_ne]; omega
    clear hx ha hrest hsd hpe h47
    go_enter Try.func34, Try.ntmps34
    go_wp2_with fail
    go_loopw [4, 5, 6] (fun so ss si wr => ∃ (k : Nat) (acc : List (List UInt8)) (s : List UInt8), si = .int .i64 k ∧ ss = .string ⟨s.toArray⟩ ∧ 1 ≤ k ∧ k ≤ p.length + 1 ∧ acc.length + s.length ≤ k ∧ (47 : UInt8) ∉ s ∧ (∀ x ∈ acc, okN x = true) ∧ acc ++ restAt p s k = namesP p ∧
      wr.ownsRow w.heap.size 9 1 so acc.length (acc.map strV) ∧ Below w.heap.size w wr) (fun _ _ si _ => p.length + 1 - (intOf si).toNat)
    case atStart => exact ⟨1, [], [], rfl, rfl, by omega, by omega, by simp, by simp, by simp, by rw [HREST.out]; rfl, by simpa using World.ownsRow_nil w w.heap.size 9 1, Below.refl _ _⟩
    case round =>
      obtain ⟨k, acc, s, rfl, rfl, hk1, hk2, hal, hs47, hok, hnm, hown, hb⟩ := hrel
      have HNM := Lib.hid hnm
      have HOK := Lib.hid hok
      have HOWN := Lib.hid hown
      have HB := Lib.hid hb
      have HS47 := Lib.hid hs47
      clear hnm hok hown hb hx2 hd0
      by_cases hkl : k ≤ p.length
      · by_cases hmid : ∃ hlt : k < p.length, p[k] ≠ 47
        · obtain ⟨hlt, hne⟩ := hmid
          have hlt3 : k < (⟨p.toArray⟩ : ByteArray).size := by simpa [ByteArray.size] using hlt
          have hx : (((⟨p.toArray⟩ : ByteArray)[k]'hlt3).toNat : Int) = (p[k].toNat : Int) := rfl
          have hn1 : ((p[k].toNat : Int) == 47) = false := by
            rw [beq_eq_false_iff_ne]
            exact fun h => hne ((byte_int (d := 47)).1 h)
          have hpc : (p.take (k + 1)).drop k = [p[k]] := by
            rw [List.take_succ_eq_append_getElem hlt, List.drop_append, List.drop_of_length_le (by simp; omega)]
            simp [Nat.min_eq_left (Nat.le_of_lt hlt)]
          have HPC := Lib.hid hpc
          have HR := Lib.hid (restAt_on (s := s) hlt)
          have hi1 : (k : Int) < (p.length : Int) := by omega
          have h47' : (47 : UInt8) ∉ s ++ [p[k]] := by
            intro h
            rcases List.mem_append.1 h with h | h
            · exact HS47.out h
            · simp at h; exact hne h.symm
          have H47 := Lib.hid h47'
          clear hpc h47' hne hs47
          generalize p[k] = c at *
          go_wp2_with fail
          go_roundw
          case rel => exact ⟨k + 1, acc, s ++ [c], by go_num, by rw [HPC.out], by omega, by omega, by simp; omega, H47.out, HOK.out, by rw [HR.out]; exact HNM.out, HOWN.out, HB.out⟩
          case measure => simp [intOf]; omega
        · have hend : ∀ hlt : k < p.length, p[k] = 47 := fun hlt => Classical.byContradiction fun h => hmid ⟨hlt, h⟩
          have hre := restAt_end hkl hs47 hend
          have HRE := Lib.hid hre
          have hin : ∀ x ∈ (if counts s then [s] else []), x ∈ namesP p := fun x hx => by
            rw [← HNM.out, HRE.out]
            simp only [List.mem_append]
            exact .inr (.inl hx)
          have HIN := Lib.hid hin
          have hway : (∃ hlt3 : k < (⟨p.toArray⟩ : ByteArray).size, k < p.length ∧ (((⟨p.toArray⟩ : ByteArray)[k]'hlt3).toNat : Int) = 47) ∨ decide (k < p.length) = false := by
            by_cases hlt : k < p.length
            · refine .inl ⟨by simpa [ByteArray.size] using hlt, hlt, ?_⟩
              show (p[k].toNat : Int) = 47
              rw [hend hlt]
              rfl
            · exact .inr (decide_eq_false hlt)
          clear hre hmid hend hs47 hin
          by_cases hc : counts s = true
          · have e1 : (s == []) = false := by
              cases s with
              | nil => simp [counts] at hc
              | cons x y => rfl
            have e2 : (s == [46]) = false := by
              rw [beq_eq_false_iff_ne]
              rintro rfl
              simp [counts] at hc
            rw [if_pos hc] at HRE HIN
            have HC := Lib.hid (fun W : World => ref06_Check s W (by omega))
            clear hc
            cases hk : okN s
            · rw [checkD, hk] at HC
              have hbad : splitD p = ([], 10) := by
                rw [HSD.out, if_neg]
                rw [List.all_eq_true]
                intro h
                have := h s (HIN.out s (by simp))
                rw [hk] at this
                cases this
              have HBAD := Lib.hid hbad
              clear hk hbad
              rcases hway with ⟨hlt3, hlt4, hx⟩ | hd
              all_goals
                go_wp2_with fail
                refine (HC.out _).mono ?_
                rintro e w1 ⟨rfl, rfl⟩
                go_wp2_with fail
                go_ret2
                exact ⟨_, by rw [HBAD.out]; rfl, ⟨by rw [HBAD.out]; exact .inl ⟨none, 0, rfl, rfl⟩, by exact trivial⟩, HB.out⟩
            · rw [checkD, hk] at HC
              have HK := Lib.hid hk
              clear hk
              obtain ⟨v', w', hrun, ho, hgr, _⟩ := append_sl textElem (wr.alloc (.cells #[strV s] 9)) w.heap.size 68 u4 acc.length _ (HOWN.out.alloc _) _ 1 [strV s] (sl1 _ _ _) (fun u hu => by simp at hu; subst hu; rfl) (by unfold maxLen; omega) (by omega) (by have := HB.out.size; simp; omega)
              have HO' := Lib.hid ho
              have HB' := Lib.hid ((HB.out.alloc HB.out.size (.cells #[strV s] 9)).grown hgr (by have := HB.out.size; simp; omega) (fun q hq => (own_block_ge HOWN.out q hq).1))
              have hspos : 1 ≤ s.length := by
                cases s with
                | nil => simp at e1
                | cons x y => simp
              clear ho hgr
              unfold strV at hrun
              rcases hway with ⟨hlt3, hlt4, hx⟩ | hd
              all_goals
                go_wp2_with fail
                refine (HC.out _).mono ?_
                rintro e w1 ⟨rfl, rfl⟩
                go_wp2_with (at_builtin; refine wpList_append_run rfl _ _ _ rfl _ _ _ _ rfl rfl hrun ?_)
                go_roundw
                case rel => exact ⟨k + 1, acc ++ [s], [], by go_num, rfl, by omega, by omega, by simp; omega, by simp, fun x hx => (List.mem_append.1 hx).elim (HOK.out x) (fun h => by simp at h; rw [h]; exact HK.out), by rw [List.append_assoc, ← HRE.out]; exact HNM.out, by rw [List.length_append, List.map_append]; exact HO'.out, HB'.out⟩
                case measure => simp [intOf]; omega
          · have hor : s = [] ∨ s = [46] := by
              have hca : counts s = false := by simpa using hc
              simp only [counts, Bool.and_eq_false_iff, Bool.not_eq_false', beq_iff_eq] at hca
              exact hca
            rw [if_neg hc, List.nil_append] at HRE
            clear hc HIN
            rcases hor with rfl | rfl
            all_goals
              rcases hway with ⟨hlt3, hlt4, hx⟩ | hd
              all_goals
                go_wp2_with fail
                go_roundw
                case rel => exact ⟨k + 1, acc, [], by go_num, rfl, by omega, by omega, by simp at hal ⊢; omega, by simp, HOK.out, by rw [← HRE.out]; exact HNM.out, HOWN.out, HB.out⟩
                case measure => simp [intOf]; omega
      · obtain rfl : k = p.length + 1 := by omega
        have hfin : acc = namesP p := by
          have := HNM.out
          rwa [restAt, if_neg (by omega), List.append_nil] at this
        have hgood : splitD p = (acc, 0) := by
          rw [HSD.out, ← hfin, if_pos]
          rw [List.all_eq_true]
          exact HOK.out
        have HG := Lib.hid hgood
        have hd : decide (((p.length : Int) + 1) ≤ (p.length : Int)) = false := by rw [decide_eq_false_iff_not]; omega
        clear hfin hgood hs47
        go_wp2_with fail
        go_ret2
        exact ⟨_, by rw [HG.out]; rfl, ⟨by rw [HG.out]; exact Row.of_owns HOWN.out, At.of_owns HOWN.out⟩, HB.out⟩
  · have hsd : splitD p = ([], 10) := by
      rw [splitD, if_neg]
      rw [hpe]
      simp [h47]
    rw [← hpe] at hp ⊢
    have HSD := Lib.hid hsd
    have hn1 : ((a.toNat : Int) == 47) = false := by
      rw [beq_eq_false_iff_ne]
      exact fun h => h47 ((byte_int (d := 47)).1 h)
    have hd0 : ((p.length : Int) == 0) = false := by rw [beq_eq_false_iff_ne]; omega
    clear ha hsd hpe h47
    go_enter Try.func34, Try.ntmps34
    go_wp2_with fail
    go_ret2
    exact ⟨_, by rw [HSD.out]; rfl, ⟨by rw [HSD.out]; exact .inl ⟨none, 0, rfl, rfl⟩, by exact trivial⟩, Below.refl _ _⟩
end Go.Proofs.Ytkepkbgebickiaa

set_option linter.unusedVariables false
set_option linter.unusedSimpArgs false
namespace Go.Proofs.Ytkepkbgebickiaa
open Go Go.RowKit Copyhold Copyhold.Name
abbrev NEnt := Copyhold.Name.Ent
def entO (x : NEnt) : Ent := ⟨x.1, x.2⟩
def lI (l : List Ent) : List NEnt := l.map fun e => ((e.name, e.ino) : NEnt)
theorem lI_O (l : List Ent) : (lI l).map entO = l := by
  unfold lI
  rw [List.map_map]
  have : (entO ∘ fun e : Ent => ((e.name, e.ino) : NEnt)) = id := by funext e; rfl
  rw [this, List.map_id]
theorem checkP_iff {s : Txt} : okN s = true ↔ checkP s := by
  simp only [okN, checkP, Bool.and_eq_true, Bool.not_eq_true', decide_eq_true_eq, beq_eq_false_iff_ne, ne_eq]
  constructor
  · rintro ⟨⟨⟨⟨⟨h1, h2⟩, h3⟩, h4⟩, h5⟩, h6⟩
    exact ⟨h1, h2, h3, h4, by simpa using h5, by simpa using h6⟩
  · rintro ⟨h1, h2, h3, h4, h5, h6⟩
    exact ⟨⟨⟨⟨⟨h1, h2⟩, h3⟩, h4⟩, by simpa using h5⟩, by simpa using h6⟩
theorem rowP_iff (l : List NEnt) : rightE l = true ↔ rowP (l.map entO) := by
  simp only [rightE, rowP, Bool.and_eq_true, decide_eq_true_eq, List.all_eq_true, List.mem_range, List.length_map]
  refine and_congr_right fun _ => ⟨fun h i e he => ?_, fun h i hi => ?_⟩
  · rw [List.getElem?_map] at he
    cases hx : l[i]? with
    | none => rw [hx] at he; cases he
    | some x =>
      rw [hx] at he
      obtain rfl := Option.some.inj he
      have := h i (lt_of_some hx)
      simp only [okAt, hx, Bool.and_eq_true, okE, decide_eq_true_eq] at this
      refine ⟨checkP_iff.1 this.1.1, this.1.2, fun d h0 hd => ?_⟩
      rw [List.getElem?_map] at hd
      cases hy : l[i - 1]? with
      | none => rw [hy] at hd; cases hd
      | some y =>
        rw [hy] at hd
        obtain rfl := Option.some.inj hd
        have hu := this.2
        simp only [upAt, hy, Bool.or_eq_true, beq_iff_eq, decide_eq_true_eq] at hu
        show Op.bytesLess y.1 x.1 = true
        rw [less_eq]
        exact decide_eq_true (hu.resolve_left (by omega))
  · have hx := List.getElem?_eq_getElem hi
    have := h i (entO l[i]) (by rw [List.getElem?_map, hx]; rfl)
    simp only [okAt, hx, Bool.and_eq_true, okE, decide_eq_true_eq]
    refine ⟨⟨checkP_iff.2 this.1, this.2.1⟩, ?_⟩
    simp only [upAt, Bool.or_eq_true, beq_iff_eq]
    by_cases h0 : i = 0
    · exact .inl h0
    · have hy := List.getElem?_eq_getElem (l := l) (i := i - 1) (by omega)
      right
      rw [hy]
      have h2 := this.2.2 (entO l[i - 1]) (by omega) (by rw [List.getElem?_map, hy]; rfl)
      have h3 : Op.bytesLess l[i - 1].1 l[i].1 = true := h2
      rw [less_eq] at h3
      exact h3
theorem vals_of {D : Nat → Prop} {w : World} {vals us : List Value} (hl : us.length = vals.length) (h : ∀ (j : Nat) (a : AV) (u : Value), (vals.map AV.val)[j]? = some a → us[j]? = some u → Ra D w a u) : us = vals := by
  apply List.ext_getElem?
  intro j
  by_cases hj : j < vals.length
  · have h1 := List.getElem?_eq_getElem hj
    have h2 := List.getElem?_eq_getElem (l := us) (i := j) (by omega)
    have := h j (.val vals[j]) us[j] (by rw [List.getElem?_map, h1]; rfl) h2
    rw [h1, h2]
    generalize us[j] = u at this
    cases this
    rfl
  · rw [List.getElem?_eq_none (by omega), List.getElem?_eq_none (by omega)]
theorem entA_flat (l : List Ent) : (l.map entA).flatten = ((l.map fun e => ((e.name, e.ino) : NEnt)).flatMap Copyhold.Name.entC).map AV.val := by
  induction l with
  | nil => rfl
  | cons e r ih =>
    simp only [List.map_cons, List.flatten_cons, List.flatMap_cons, List.map_append, ih]
    rfl
theorem row_srt {l : List Ent} (h : rowP l) : Srt (lI l) := right_srt ((rowP_iff (lI l)).2 (by rw [lI_O]; exact h))
def getI (l : List Ent) (s : Txt) : Int := (getE (lI l) s).getD 0
def isB (l : List Ent) (s : Txt) : Bool := isAt (lI l) s
theorem get_away {l : List Ent} {s : Txt} (h : isB l s = false) : getI l s = 0 := by
  unfold getI isB at *
  unfold isAt at h
  unfold getE
  rw [List.find?_eq_none.2 fun x hx => by simpa using List.any_eq_false.1 h x hx]
  rfl
theorem ents_of_ra {D : Nat → Prop} {w : World} {t : Bool} {l : List Ent} {v : Value} (h : Ra D w (.sl 2 t (l.map entA)) v) : ∃ A c, v = .slice A (lI l).length c ∧ Ents w v (lI l) := by
  obtain ⟨us, hsl, hus, hru⟩ := sl_of_ra h
  rw [entA_flat] at hru
  have hsl0 := hsl
  obtain ⟨A, cc, rfl, hc, hl, hh⟩ := hsl0
  have hlen : ∀ l : List NEnt, (l.flatMap Copyhold.Name.entC).length = l.length * 2 := fun l => by
    induction l with
    | nil => rfl
    | cons y r ih => simp only [List.flatMap_cons, List.length_append, ih, List.length_cons]; simp [Copyhold.Name.entC]; omega
  have e := vals_of (by rw [hlen, hl]; simp) hru
  subst e
  simp only [List.length_map] at hsl ⊢
  have hn : (lI l).length = l.length := by simp [lI]
  refine ⟨A, cc, by rw [hn], ?_⟩
  show Sl w 2 _ (lI l).length _
  rw [hn]
  exact hsl
theorem tup2_ra (a b : Value) (D : Nat → Prop) (w : World) : Ra D w (.tup [.val a, .val b]) (.tuple #[a, b]) := .tup _ _ rfl fun j x v hx hv => by
  match j, hx, hv with
  | 0, hx, hv => cases hx; cases hv; exact .val _
  | 1, hx, hv => cases hx; cases hv; exact .val _
  | j + 2, hx, _ => simp at hx
theorem fspec_plain {P : Program} {f : FuncId} {args : List AV} {r : AV} {v : Value} (hr : ∀ D w, Ra D w r v) (h : ∀ D w vs, RaAll D w args vs → Calls P f vs w (fun e w' => e = .returned v ∧ Below w.heap.size w w')) : FSpec P f args r := fun D w vs hD hv =>
  (h D w vs hv).mono fun e w' ⟨h1, h2⟩ => ⟨v, D, h1, h2, fun _ h => h, fun b hb => ⟨Nat.lt_of_lt_of_le (hD b hb) h2.size, .inl hb⟩, hr D w'⟩
theorem nfind_spec (l : List Ent) (s : Txt) (hl : l.length ≤ 1000000) (hr : Srt (lI l)) : FSpec Try.prog 27 [.sl 2 false (l.map entA), aS s] (.tup [aI (getI l s), aB (isB l s)]) := fspec_plain (tup2_ra _ _) fun D w vs h => by
  obtain ⟨u, v, rfl, hu, hv⟩ := RaAll.two h
  cases hv
  obtain ⟨A, c, rfl, he⟩ := ents_of_ra hu
  exact name_Find (lI l) s A c w he (by simp [lI]; omega) hr
theorem rnfind_spec (l : List Ent) (s : Txt) (hl : l.length ≤ 1000000) : FSpec Try.prog 32 [.sl 2 false (l.map entA), aS s] (.tup [aI (getI l s), aB (isB l s)]) := fspec_plain (tup2_ra _ _) fun D w vs h => by
  obtain ⟨u, v, rfl, hu, hv⟩ := RaAll.two h
  cases hv
  obtain ⟨A, c, rfl, he⟩ := ents_of_ra hu
  exact (ref06_Find (lI l) s A c w he (by simp [lI]; omega)).mono fun e w' ⟨g1, g2⟩ => ⟨g1, g2 ▸ Below.refl _ _⟩
theorem texts_ra {D : Nat → Prop} {w : World} {l : List Txt} {v : Value} (h : Row w v (l.map strV)) (hat : At D v) : Ra D w (.sl 1 false (l.map txA)) v := by
  rcases h with ⟨a, c, rfl, he⟩ | ⟨b, off, cap, rfl, h0, hc, hb, hcell⟩
  · have : l = [] := by simpa using he
    subst this
    exact .sl 1 false [] a c 0 0 (fun _ _ => undef) (Nat.zero_le _) (fun h => by cases h) (fun h => absurd h (by simp)) (fun i e h => by simp at h) (fun i e j x h => by simp at h) (fun i e j x h => by simp at h)
  · have key : ∀ (i : Nat) (e : List AV) (j : Nat) (x : AV), (l.map txA)[i]? = some e → e[j]? = some x → ∃ y, l[i]? = some y ∧ j = 0 ∧ x = aS y := by
      intro i e j x he hx
      rw [List.getElem?_map] at he
      cases hli : l[i]? with
      | none => rw [hli] at he; cases he
      | some y =>
        rw [hli] at he
        obtain rfl := Option.some.inj he
        match j, hx with
        | 0, hx => obtain rfl := Option.some.inj hx; exact ⟨y, rfl, rfl, rfl⟩
        | j + 1, hx => simp [txA] at hx
    have := Ra.sl (D := D) (w := w) 1 false (l.map txA) (some ⟨b, off, none⟩) cap b off (fun i _ => strV (l.getD i [])) (by simpa using hc) (fun h => by cases h) (fun _ => ⟨rfl, hat h0, hb⟩)
      (fun i e he => by
        rw [List.getElem?_map] at he
        cases hli : l[i]? with
        | none => rw [hli] at he; cases he
        | some y => rw [hli] at he; obtain rfl := Option.some.inj he; rfl)
      (fun i e j x he hx => by
        obtain ⟨y, h1, rfl, rfl⟩ := key i e j x he hx
        simp only [List.getD, h1, Option.getD_some]
        refine ⟨?_, rfl⟩
        have := hcell i (strV y) (by rw [List.getElem?_map, h1]; rfl)
        rw [show off + (i * 1 + 0) = off + i from by omega]
        exact this)
      (fun i e j x he hx => by
        obtain ⟨y, h1, rfl, rfl⟩ := key i e j x he hx
        simp only [List.getD, h1, Option.getD_some]
        exact .val _)
    simp only [List.length_map] at this ⊢
    exact this
theorem at_both {D1 D2 D3 : Nat → Prop} {v : Value} (h1 : At D1 v) (h2 : At D2 v) (h : ∀ b, D1 b → D2 b → D3 b) : At D3 v := by
  unfold At at h1 h2 ⊢
  split
  · exact fun h0 => h _ (h1 h0) (h2 h0)
  · trivial
theorem split_of {f : FuncId} {s : Txt} (h : ∀ w, Calls Try.prog f #[.string ⟨s.toArray⟩] w (RetSp w (splitD s))) : FSpec Try.prog f [aS s] (.tup [.sl 1 false ((splitD s).1.map txA), aI (splitD s).2]) := by
  intro D w vs hD hv
  obtain ⟨u, rfl, hu⟩ := RaAll.one hv
  cases hu
  refine (h w).mono ?_
  rintro e w' ⟨v, rfl, ⟨hrow, hat⟩, hb⟩
  refine ⟨_, fun b => D b ∨ (w.heap.size ≤ b ∧ b < w'.heap.size), rfl, hb, fun b h => .inl h, fun b h => ?_, ?_⟩
  · rcases h with h | ⟨h1, h2⟩
    · exact ⟨Nat.lt_of_lt_of_le (hD b h) hb.size, .inl h⟩
    · exact ⟨h2, .inr h1⟩
  · refine .tup _ _ rfl fun j x v' hx hv' => ?_
    match j, hx, hv' with
    | 0, hx, hv' => cases hx; cases hv'; exact texts_ra hrow (at_both hat hrow.lies fun b h1 h2 => .inr ⟨h1, h2⟩)
    | 1, hx, hv' => cases hx; cases hv'; exact .val _
    | j + 2, hx, _ => simp at hx
theorem split_spec (s : Txt) (hs : s.length ≤ 1000000) : FSpec Try.prog 33 [aS s] (.tup [.sl 1 false ((splitD s).1.map txA), aI (splitD s).2]) := split_of fun w => name_Split s hs w
theorem rsplit_spec (s : Txt) (hs : s.length ≤ 1000000) : FSpec Try.prog 34 [aS s] (.tup [.sl 1 false ((splitD s).1.map txA), aI (splitD s).2]) := split_of fun w => ref06_Split s hs w
end Go.Proofs.Ytkepkbgebickiaa

set_option linter.unusedVariables false
set_option linter.unusedSimpArgs false
namespace Go.Proofs.Ytkepkbgebickiaa
open Go Go.RowKit Copyhold
def firstE (l : List Int) : Int := (l.find? fun z => z != 0).getD 0
def whenE (b : Bool) (e : Int) : Int := if b then e else 0
theorem first_no {l : List Int} (h : AllQ (fun _ z => (z != 0) = false) l) : firstE l = 0 := by
  unfold firstE
  rw [List.find?_eq_none.2 fun x hx => by obtain ⟨j, hj⟩ := List.getElem?_of_mem hx; rw [h j x hj]; simp]
  rfl
theorem first_at : ∀ {l : List Int} {k : Nat} {x : Int}, AllTo (fun _ z => (z != 0) = false) l k → l[k]? = some x → (x != 0) = true → firstE l = x
  | y :: r, 0, x, _, hx, hp => by simp at hx; subst hx; simp [firstE, hp]
  | y :: r, k + 1, x, h, hx, hp => by
    have h1 := h 0 y (by omega) rfl
    have h2 := first_at (l := r) (k := k) (fun j e hj he => h (j + 1) e (by omega) (by simpa using he)) (by simpa using hx) hp
    unfold firstE at h2 ⊢
    rw [List.find?_cons, h1]
    exact h2
theorem first_lit {t : Bool} (a b c : Int) : Sub (.sl 1 t [[aI a], [aI b], [aI c]]) (.sl 1 false ([a, b, c].map intA)) := Sub.loose _ _ _
theorem first_lit2 {t : Bool} (a b : Int) : Sub (.sl 1 t [[aI a], [aI b]]) (.sl 1 false ([a, b].map intA)) := Sub.loose _ _ _
theorem first2 {a b : Int} : firstE [a, b] = if a = 0 then b else a := by
  unfold firstE
  by_cases h : a = 0
  · by_cases h2 : b = 0
    · simp [h, h2]
    · simp [h, h2]
  · simp [h]
theorem first3 {a b c : Int} : firstE [a, b, c] = if a = 0 then (if b = 0 then c else b) else a := by
  unfold firstE
  by_cases h : a = 0
  · by_cases h2 : b = 0
    · by_cases h3 : c = 0
      · simp [h, h2, h3]
      · simp [h, h2, h3]
    · simp [h, h2]
  · simp [h]
def dirE (f : Fsy) (i : Int) : Int := if findB f i = true then (if (findN f i).kind = 2 then 0 else 8) else 6
def dirN (f : Fsy) (i : Int) : Nod := if dirE f i = 0 then findN f i else nod0
theorem dirE_6 {f : Fsy} {i : Int} (h : findB f i = false) : dirE f i = 6 ∧ dirN f i = nod0 := by
  have e : dirE f i = 6 := by unfold dirE; rw [h]; rfl
  exact ⟨e, by unfold dirN; rw [e]; rfl⟩
theorem dirE_8 {f : Fsy} {i : Int} (h : findB f i = true) (h2 : ¬ (findN f i).kind = 2) : dirE f i = 8 ∧ dirN f i = nod0 := by
  have e : dirE f i = 8 := by unfold dirE; rw [if_pos h, if_neg h2]
  exact ⟨e, by unfold dirN; rw [e]; rfl⟩
theorem dirE_0 {f : Fsy} {i : Int} (h : findB f i = true) (h2 : (findN f i).kind = 2) : dirE f i = 0 ∧ dirN f i = findN f i := by
  have e : dirE f i = 0 := by unfold dirE; rw [if_pos h, if_pos h2]
  exact ⟨e, by unfold dirN; rw [e]; rfl⟩
theorem find_mem {f : Fsy} {i : Int} (h : findB f i = true) : findN f i ∈ f.l := by
  unfold findB at h
  unfold findN
  cases hf : f.l.find? (isNo i) with
  | none => rw [List.find?_eq_none] at hf; obtain ⟨x, hx, hi⟩ := List.any_eq_true.1 h; exact absurd hi (hf x hx)
  | some n => exact List.mem_of_find?_eq_some hf
theorem node_srt {n : Nod} (h : nodP n) : Name.Srt (lI n.l) ∧ n.l.length ≤ 256 := by
  rcases h.2.2.2 with ⟨_, _, h⟩ | ⟨_, _, h⟩
  · exact ⟨row_srt h, h.1⟩
  · rw [h]; exact ⟨List.Pairwise.nil, by decide⟩
theorem dir_srt {f : Fsy} (h : rowsP f) (i : Int) : Name.Srt (lI (dirN f i).l) ∧ (dirN f i).l.length ≤ 256 := by
  unfold dirN
  split
  · rename_i e
    by_cases hb : findB f i = true
    · exact node_srt ((rowsP_iff.1 h).2.2.1 _ (find_mem hb)).1
    · unfold dirE at e
      rw [if_neg hb] at e
      cases e
  · exact ⟨List.Pairwise.nil, by decide⟩
theorem find_0 {f : Fsy} (h : rowsP f) : findB f 0 = false := by
  unfold findB
  rw [List.any_eq_false]
  intro n hn
  have := ((rowsP_iff.1 h).2.2.1 n hn).1.1
  have hne : ¬ n.ino = 0 := by omega
  simp [isNo, hne]
def lookI (f : Fsy) (i : Int) (s : Txt) : Int := getI (dirN f i).l s
noncomputable def lookE (f : Fsy) (i : Int) (s : Txt) : Int := firstE [dirE f i, checkE s, whenE (!(findB f (lookI f i s))) 6]
noncomputable def lookN (f : Fsy) (i : Int) (s : Txt) : Nod := if lookE f i s = 0 then findN f (lookI f i s) else nod0
theorem look_no {f : Fsy} {i : Int} {s : Txt} (h : ¬ lookE f i s = 0) : lookN f i s = nod0 := if_neg h
theorem look_yes {f : Fsy} {i : Int} {s : Txt} (h : lookE f i s = 0) : lookN f i s = findN f (lookI f i s) := if_pos h
theorem nod0_sub {n : Nod} (h : n = nod0) : Sub (.agg [aI 0, aI 0, aI 0, aS [], aN]) (.agg (nodA n)) := by
  subst h
  exact Sub.aggs ⟨Sub.refl _, Sub.refl _, Sub.refl _, Sub.refl _, Sub.nil _ _, trivial⟩
set_option maxRecDepth 100000 in
set_option maxHeartbeats 4000000 in
theorem first_spec (l : List Int) (hl : l.length ≤ 100000) : FSpec Try.prog 28 [.sl 1 false (l.map intA)] (aI (firstE l)) := by
  exact spec_vc (F := Try.f28) 400 (
 .r 1 <| .r 2 <| .val 6 (show (aI ((l.map intA).length : Int) : AV) = aI (l.length : Int) from by rw [List.length_map]) <| .r 1 <| let L1 : Lp (Nat) := ⟨fun a1 => ⟨[(5, .sl 1 false (l.map intA)), (6, aI (l.length : Int)), (7, aI (a1 : Int))], []⟩, fun a1 => l.length - a1, fun a1 => AllTo (fun _ z => (z != 0) = false) l a1⟩
 .loop L1 0 (show AllTo (fun _ z => (z != 0) = false) l 0 from AllTo.zero _ _) ⟨[(5, .sl 1 false (l.map intA)), (6, aI (l.length : Int)), (7, aI 0)], []⟩ ⟨Sub.refl _, Sub.refl _, Sub.of_eq (congrArg aI (by first | omega | rfl)), trivial⟩ trivial fun a1 ha1 =>
 (fun (k : Nat) (hH1 : AllTo (fun _ z => (z != 0) = false) l k) => .r 1 <| .br 8 (decide ((k : Int) < (l.length : Int))) (fun q1 => have p1 := decT q1; .idxM l intA k (m := (k : Int)) rfl (by omega) fun x1 hx1 =>
 .r 2 <| .r 2 <| .br 12 (x1 != 0) (fun q2 => have p2 := bneT q2; .r 2 <| .fin (x := aI x1) (r := aI (firstE l)) [] trivial (by exact Sub.of_eq (congrArg aI (first_at hH1 hx1 (by assumption)).symm)))
 <| fun q2 => have p2 := bneF q2; .run 2 [rng .i64 ((k : Int) + 1)] ⟨rng64 (by omega) (by omega), trivial⟩ <|
 .back L1 k (k + 1) (show AllTo (fun _ z => (z != 0) = false) l (k + 1) from (hH1.step hx1 (by assumption))) (show l.length - (k + 1) < l.length - k from (by omega)) ⟨[(5, .sl 1 false (l.map intA)), (6, aI (l.length : Int)), (7, aI ((k : Int) + 1))], []⟩ ⟨Sub.refl _, Sub.refl _, Sub.of_eq (congrArg aI (by first | omega | rfl)), trivial⟩ trivial)
 <| fun q1 => have p1 := decF q1; .r 1 <| .fin (x := aI 0) (r := aI (firstE l)) [] trivial (by exact Sub.of_eq (congrArg aI (first_no (hH1.full (by omega))).symm))) a1 ha1) Try.func28 rfl (by kernel_rfl) (by kernel_rfl)
set_option maxRecDepth 100000 in
set_option maxHeartbeats 4000000 in
theorem when_spec (b : Bool) (e : Int) : FSpec Try.prog 30 [aB b, aI e] (aI (whenE b e)) := by
  exact spec_vc (F := Try.f30) 400 (
 .r 1 <| .r 1 <| .br 5 (b) (fun q1 => have p1 := booT q1; .r 2 <| .fin (x := aI e) (r := aI (whenE b e)) [] trivial (by exact Sub.of_eq (congrArg aI (by unfold whenE; simp [*]))))
 <| fun q1 => have p1 := booF q1; .r 1 <| .fin (x := aI 0) (r := aI (whenE b e)) [] trivial (by exact Sub.of_eq (congrArg aI (by unfold whenE; simp [*])))) Try.func30 rfl (by kernel_rfl) (by kernel_rfl)
set_option maxRecDepth 100000 in
set_option maxHeartbeats 4000000 in
theorem dir_spec (f : Fsy) (i : Int) (hp : rowsP f) : FSpec Try.prog 10 [.agg [.sl 5 false (f.l.map nodA), aI f.next], aI i] (.tup [.agg (nodA (dirN f i)), aI (dirE f i)]) := by
  have hl := hp.1
  have hr := rows_rise hp
  exact spec_vc (F := Try.f10) 400 (
 .new fun b1 => .new fun b2 => .r 1 <| .run 2 [b1 = b1] ⟨rfl, trivial⟩ <|
 .call (tfind_spec f i (by omega) hr) <|
 .r 3 <| .new fun b3 => .run 2 [b3 = b3] ⟨rfl, trivial⟩ <|
 .r 2 <| .br 15 (!(findB f i)) (fun q1 => have q1 := notT q1; have p1 := booF q1; .run 3 [b2 = b2] ⟨rfl, trivial⟩ <|
 .fin (x := .tup [.agg [aI 0, aI 0, aI 0, aS ([]), aN], aI 6]) (r := .tup [.agg (nodA (dirN f i)), aI (dirE f i)]) [b2 = b2] ⟨rfl, trivial⟩ (by
    obtain ⟨e1, e2⟩ := dirE_6 q1
    exact Sub.tups ⟨nod0_sub e2, Sub.of_eq (congrArg aI e1.symm), trivial⟩))
 <| fun q1 => have q1 := notF q1; have p1 := booT q1; .run 3 [b3 = b3] ⟨rfl, trivial⟩ <|
 .br 19 (((findN f i).kind) != 2) (fun q2 => have p2 := bneT q2; .run 3 [b2 = b2] ⟨rfl, trivial⟩ <|
 .fin (x := .tup [.agg [aI 0, aI 0, aI 0, aS ([]), aN], aI 8]) (r := .tup [.agg (nodA (dirN f i)), aI (dirE f i)]) [b2 = b2] ⟨rfl, trivial⟩ (by
    obtain ⟨e1, e2⟩ := dirE_8 q1 (by assumption)
    exact Sub.tups ⟨nod0_sub e2, Sub.of_eq (congrArg aI e1.symm), trivial⟩))
 <| fun q2 => have p2 := bneF q2; .run 3 [b3 = b3, b2 = b2] ⟨rfl, rfl, trivial⟩ <|
 .fin (x := .tup [.agg [aI ((findN f i).ino), aI ((findN f i).kind), aI ((findN f i).links), aS ((findN f i).text), .sl 2 false ((findN f i).l.map entA)], aI 0]) (r := .tup [.agg (nodA (dirN f i)), aI (dirE f i)]) [b2 = b2] ⟨rfl, trivial⟩ (by
    obtain ⟨e1, e2⟩ := dirE_0 q1 (by assumption)
    rw [e1, e2]
    exact Sub.refl _)) Try.func10 rfl (by kernel_rfl) (by kernel_rfl)
set_option maxRecDepth 100000 in
set_option maxHeartbeats 4000000 in
theorem rdir_spec (f : Fsy) (i : Int) (hp : rowsP f) : FSpec Try.prog 11 [.agg [.sl 5 false (f.l.map nodA), aI f.next], aI i] (.tup [.agg (nodA (dirN f i)), aI (dirE f i)]) := by
  have hl := hp.1
  have hr := rows_rise hp
  exact spec_vc (F := Try.f11) 400 (
 .new fun b1 => .new fun b2 => .r 1 <| .run 2 [b1 = b1] ⟨rfl, trivial⟩ <|
 .call (rfind_spec f i (by omega)) <|
 .r 3 <| .new fun b3 => .run 2 [b3 = b3] ⟨rfl, trivial⟩ <|
 .r 2 <| .br 15 (!(findB f i)) (fun q1 => have q1 := notT q1; have p1 := booF q1; .run 3 [b2 = b2] ⟨rfl, trivial⟩ <|
 .fin (x := .tup [.agg [aI 0, aI 0, aI 0, aS ([]), aN], aI 6]) (r := .tup [.agg (nodA (dirN f i)), aI (dirE f i)]) [b2 = b2] ⟨rfl, trivial⟩ (by
    obtain ⟨e1, e2⟩ := dirE_6 q1
    exact Sub.tups ⟨nod0_sub e2, Sub.of_eq (congrArg aI e1.symm), trivial⟩))
 <| fun q1 => have q1 := notF q1; have p1 := booT q1; .run 3 [b3 = b3] ⟨rfl, trivial⟩ <|
 .br 19 (((findN f i).kind) != 2) (fun q2 => have p2 := bneT q2; .run 3 [b2 = b2] ⟨rfl, trivial⟩ <|
 .fin (x := .tup [.agg [aI 0, aI 0, aI 0, aS ([]), aN], aI 8]) (r := .tup [.agg (nodA (dirN f i)), aI (dirE f i)]) [b2 = b2] ⟨rfl, trivial⟩ (by
    obtain ⟨e1, e2⟩ := dirE_8 q1 (by assumption)
    exact Sub.tups ⟨nod0_sub e2, Sub.of_eq (congrArg aI e1.symm), trivial⟩))
 <| fun q2 => have p2 := bneF q2; .run 3 [b3 = b3, b2 = b2] ⟨rfl, rfl, trivial⟩ <|
 .fin (x := .tup [.agg [aI ((findN f i).ino), aI ((findN f i).kind), aI ((findN f i).links), aS ((findN f i).text), .sl 2 false ((findN f i).l.map entA)], aI 0]) (r := .tup [.agg (nodA (dirN f i)), aI (dirE f i)]) [b2 = b2] ⟨rfl, trivial⟩ (by
    obtain ⟨e1, e2⟩ := dirE_0 q1 (by assumption)
    rw [e1, e2]
    exact Sub.refl _)) Try.func11 rfl (by kernel_rfl) (by kernel_rfl)
end Go.Proofs.Ytkepkbgebickiaa

set_option linter.unusedVariables false
set_option linter.unusedSimpArgs false
namespace Go.Proofs.Ytkepkbgebickiaa
open Go Go.RowKit Copyhold
set_option maxRecDepth 100000 in
set_option maxHeartbeats 4000000 in
theorem look_spec (f : Fsy) (i : Int) (s : Txt) (hp : rowsP f) (hs : s.length ≤ 1000000) : FSpec Try.prog 12 [.agg [.sl 5 false (f.l.map nodA), aI f.next], aI i, aS s] (.tup [.agg (nodA (lookN f i s)), aI (lookE f i s)]) := by
  have hl := hp.1
  have hr := rows_rise hp
  exact spec_vc (F := Try.f12) 400 (
 .new fun b1 => .new fun b2 => .r 1 <| .run 2 [b1 = b1] ⟨rfl, trivial⟩ <|
 .call (dir_spec f i hp) <|
 .r 3 <| .new fun b3 => .run 2 [b3 = b3] ⟨rfl, trivial⟩ <|
 .run 3 [b3 = b3] ⟨rfl, trivial⟩ <|
 .call (nfind_spec ((dirN f i).l) s (by have := (dir_srt hp i).2; omega) (dir_srt hp i).1) <|
 .r 5 <| .run 2 [b1 = b1] ⟨rfl, trivial⟩ <|
 .call (tfind_spec f (getI ((dirN f i).l) s) (by omega) hr) <|
 .r 3 <| .new fun b4 => .run 2 [b4 = b4] ⟨rfl, trivial⟩ <|
 .r 2 <| .call (check_spec s (by omega)) <|
 .r 2 <| .call (when_spec (!(findB f (getI ((dirN f i).l) s))) 6) <|
 .r 1 <| .callS (args0 := [.sl 1 true ([[aI (dirE f i)], [aI (checkE s)], [aI (whenE (!(findB f (getI ((dirN f i).l) s))) 6)]])]) (args := [.sl 1 false ([(dirE f i), (checkE s), (whenE (!(findB f (getI ((dirN f i).l) s))) 6)].map intA)]) ⟨first_lit (dirE f i) (checkE s) (whenE (!(findB f (getI ((dirN f i).l) s))) 6), trivial⟩ (first_spec [(dirE f i), (checkE s), (whenE (!(findB f (getI ((dirN f i).l) s))) 6)] (by simp)) <|
 .r 1 <| .r 2 <| .br 42 ((firstE [(dirE f i), (checkE s), (whenE (!(findB f (getI ((dirN f i).l) s))) 6)]) != 0) (fun q1 => have p1 := bneT q1; .run 4 [b2 = b2] ⟨rfl, trivial⟩ <|
 .fin (x := .tup [.agg [aI 0, aI 0, aI 0, aS ([]), aN], aI (firstE [(dirE f i), (checkE s), (whenE (!(findB f (getI ((dirN f i).l) s))) 6)])]) (r := .tup [.agg (nodA (lookN f i s)), aI (lookE f i s)]) [b2 = b2] ⟨rfl, trivial⟩ (by
    have e : ¬ lookE f i s = 0 := by assumption
    exact Sub.tups ⟨nod0_sub (look_no e), Sub.refl _, trivial⟩))
 <| fun q1 => have p1 := bneF q1; .run 3 [b4 = b4, b2 = b2] ⟨rfl, rfl, trivial⟩ <|
 .fin (x := .tup [.agg [aI ((findN f (getI ((dirN f i).l) s)).ino), aI ((findN f (getI ((dirN f i).l) s)).kind), aI ((findN f (getI ((dirN f i).l) s)).links), aS ((findN f (getI ((dirN f i).l) s)).text), .sl 2 false ((findN f (getI ((dirN f i).l) s)).l.map entA)], aI 0]) (r := .tup [.agg (nodA (lookN f i s)), aI (lookE f i s)]) [b2 = b2] ⟨rfl, trivial⟩ (by
    have e : lookE f i s = 0 := by assumption
    rw [look_yes e, e]
    exact Sub.refl _)) Try.func12 rfl (by kernel_rfl) (by kernel_rfl)
set_option maxRecDepth 100000 in
set_option maxHeartbeats 4000000 in
theorem rlook_spec (f : Fsy) (i : Int) (s : Txt) (hp : rowsP f) (hs : s.length ≤ 1000000) : FSpec Try.prog 13 [.agg [.sl 5 false (f.l.map nodA), aI f.next], aI i, aS s] (.tup [.agg (nodA (lookN f i s)), aI (lookE f i s)]) := by
  have hl := hp.1
  have hr := rows_rise hp
  exact spec_vc (F := Try.f13) 400 (
 .new fun b1 => .new fun b2 => .r 1 <| .run 2 [b1 = b1] ⟨rfl, trivial⟩ <|
 .call (rdir_spec f i hp) <|
 .r 3 <| .new fun b3 => .run 2 [b3 = b3] ⟨rfl, trivial⟩ <|
 .r 2 <| .br 22 ((dirE f i) != 0) (fun q1 => have p1 := bneT q1; .run 4 [b2 = b2] ⟨rfl, trivial⟩ <|
 .fin (x := .tup [.agg [aI 0, aI 0, aI 0, aS ([]), aN], aI (dirE f i)]) (r := .tup [.agg (nodA (lookN f i s)), aI (lookE f i s)]) [b2 = b2] ⟨rfl, trivial⟩ (by
    have e0 : lookE f i s = dirE f i := by
      unfold lookE
      rw [first3]
      simp_all [whenE, lookI]
    exact Sub.tups ⟨nod0_sub (look_no (by omega)), Sub.of_eq (congrArg aI e0.symm), trivial⟩))
 <| fun q1 => have p1 := bneF q1; .r 1 <| .call (rcheck_spec s (by omega)) <|
 .r 1 <| .r 2 <| .br 28 ((checkE s) != 0) (fun q2 => have p2 := bneT q2; .run 4 [b2 = b2] ⟨rfl, trivial⟩ <|
 .fin (x := .tup [.agg [aI 0, aI 0, aI 0, aS ([]), aN], aI (checkE s)]) (r := .tup [.agg (nodA (lookN f i s)), aI (lookE f i s)]) [b2 = b2] ⟨rfl, trivial⟩ (by
    have e0 : lookE f i s = checkE s := by
      unfold lookE
      rw [first3]
      simp_all [whenE, lookI]
    exact Sub.tups ⟨nod0_sub (look_no (by omega)), Sub.of_eq (congrArg aI e0.symm), trivial⟩))
 <| fun q2 => have p2 := bneF q2; .run 3 [b3 = b3] ⟨rfl, trivial⟩ <|
 .call (rnfind_spec ((dirN f i).l) s (by have := (dir_srt hp i).2; omega)) <|
 .r 5 <| .r 2 <| .br 39 (!(isB ((dirN f i).l) s)) (fun q3 => have q3 := notT q3; have p3 := booF q3; .run 3 [b2 = b2] ⟨rfl, trivial⟩ <|
 .fin (x := .tup [.agg [aI 0, aI 0, aI 0, aS ([]), aN], aI 6]) (r := .tup [.agg (nodA (lookN f i s)), aI (lookE f i s)]) [b2 = b2] ⟨rfl, trivial⟩ (by
    have e0 : lookE f i s = 6 := by
      have hz : lookI f i s = 0 := get_away (by assumption)
      have hz2 := find_0 hp
      unfold lookE
      rw [first3]
      simp_all [whenE, lookI]
    exact Sub.tups ⟨nod0_sub (look_no (by omega)), Sub.of_eq (congrArg aI e0.symm), trivial⟩))
 <| fun q3 => have q3 := notF q3; have p3 := booT q3; .run 2 [b1 = b1] ⟨rfl, trivial⟩ <|
 .call (rfind_spec f (getI ((dirN f i).l) s) (by omega)) <|
 .r 3 <| .new fun b4 => .run 2 [b4 = b4] ⟨rfl, trivial⟩ <|
 .r 2 <| .br 48 (!(findB f (getI ((dirN f i).l) s))) (fun q4 => have q4 := notT q4; have p4 := booF q4; .run 3 [b2 = b2] ⟨rfl, trivial⟩ <|
 .fin (x := .tup [.agg [aI 0, aI 0, aI 0, aS ([]), aN], aI 6]) (r := .tup [.agg (nodA (lookN f i s)), aI (lookE f i s)]) [b2 = b2] ⟨rfl, trivial⟩ (by
    have e0 : lookE f i s = 6 := by
      unfold lookE
      rw [first3]
      simp_all [whenE, lookI]
    exact Sub.tups ⟨nod0_sub (look_no (by omega)), Sub.of_eq (congrArg aI e0.symm), trivial⟩))
 <| fun q4 => have q4 := notF q4; have p4 := booT q4; .run 3 [b4 = b4, b2 = b2] ⟨rfl, rfl, trivial⟩ <|
 .fin (x := .tup [.agg [aI ((findN f (getI ((dirN f i).l) s)).ino), aI ((findN f (getI ((dirN f i).l) s)).kind), aI ((findN f (getI ((dirN f i).l) s)).links), aS ((findN f (getI ((dirN f i).l) s)).text), .sl 2 false ((findN f (getI ((dirN f i).l) s)).l.map entA)], aI 0]) (r := .tup [.agg (nodA (lookN f i s)), aI (lookE f i s)]) [b2 = b2] ⟨rfl, trivial⟩ (by
    have e0 : lookE f i s = 0 := by
      unfold lookE
      rw [first3]
      simp_all [whenE, lookI]
    rw [look_yes e0, e0]
    exact Sub.refl _)) Try.func13 rfl (by kernel_rfl) (by kernel_rfl)
end Go.Proofs.Ytkepkbgebickiaa
