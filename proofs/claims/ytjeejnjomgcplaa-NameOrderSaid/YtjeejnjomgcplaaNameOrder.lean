/- Proved: copyholdlaw06.NameOrder returns true for every texts, and leaves them as they were: what is entered in any order stands in one order; all names are found. No condition beyond the form's own reach. -/
import Derived.Test.YtjeejnjomgcplaaNameLawK
import Derived.Test.YtjeejnjomgcplaaRefStrings
namespace Go.Proofs.Ytjeejnjomgcplaa.nameOrder
open Go.ChangeShapes Go.WideShapes Go.ChangeAt Go.RowKit Copyhold Copyhold.Name
open Go.ChangeMaps (open_string shut_string)
set_option linter.unusedVariables false

/-- what is entered, one behind the other -/
def entAll : List (List UInt8) → List Ent → List Ent
  | [], a => a
  | s :: r, a => entAll r (enterF a s 7).1
def inAll (ls : List (List UInt8)) (k : Nat) : List Ent := entAll (ls.take k) []
theorem entAll_app (a b : List (List UInt8)) (l : List Ent) : entAll (a ++ b) l = entAll b (entAll a l) := by
  induction a generalizing l with
  | nil => rfl
  | cons s r ih => rw [List.cons_append, entAll, entAll, ih]
theorem inAll_step {ls : List (List UInt8)} {k : Nat} (h : k < ls.length) : inAll ls (k + 1) = (enterF (inAll ls k) ls[k] 7).1 := by
  rw [inAll, List.take_succ_eq_append_getElem h, entAll_app]
  rfl
/-- a row of names that all are the seventh -/
def Sev (l : List Ent) (n : Nat) : Prop := Srt l ∧ l.length ≤ n ∧ (∀ x ∈ l, okN x.1 = true ∧ x.2 = 7)
theorem sev_enter {l : List Ent} {n : Nat} (h : Sev l n) (s : List UInt8) (hn : n < 256) : Sev (enterF l s 7).1 (n + 1) ∧ ∀ t, isAt (enterF l s 7).1 t = (isAt l t || (okN s && s == t)) := by
  obtain ⟨h1, h2, h3⟩ := h
  rcases enter_cases' l s 7 with ⟨a, hr⟩ | ⟨a, b, hr⟩ | ⟨a, b, c, hr⟩ | ⟨a, b, c, d, hr⟩ | ⟨a, b, c, d, hr⟩
  · rw [hr]; exact ⟨⟨h1, by simp only; omega, h3⟩, fun t => by simp [a]⟩
  · omega
  · rw [hr]
    refine ⟨⟨h1, by simp only; omega, h3⟩, fun t => ?_⟩
    by_cases e : s = t
    · subst e; simp [c]
    · have : (s == t) = false := by simpa using e
      simp [this]
  · omega
  · rw [hr]
    refine ⟨⟨srt_ins h1 c, by simp only [len_ins]; omega, fun x hx => ?_⟩, fun t => ?_⟩
    · rcases (mem_ins l _ x).1 hx with rfl | hx
      · exact ⟨a, rfl⟩
      · exact h3 x hx
    · simp only
      rw [get_some (l := insE l (s, 7)), get_ins c, get_some (l := l), a]
      by_cases e : t = s
      · subst e; simp
      · have : (s == t) = false := by simpa using Ne.symm e
        rw [if_neg e, this]; simp
theorem sev_all (ls : List (List UInt8)) (l : List Ent) (n : Nat) (h : Sev l n) (hn : n + ls.length ≤ 256) : Sev (entAll ls l) (n + ls.length) ∧ ∀ t, isAt (entAll ls l) t = (isAt l t || ls.any fun s => okN s && s == t) := by
  induction ls generalizing l n with
  | nil => exact ⟨h, fun t => by simp [entAll]⟩
  | cons s r ih =>
    have hn' : n + 1 + r.length ≤ 256 := by simp at hn; omega
    obtain ⟨h1, h2⟩ := sev_enter h s (by omega)
    obtain ⟨h3, h4⟩ := ih _ (n + 1) h1 hn'
    refine ⟨by rw [entAll, List.length_cons, show n + (r.length + 1) = n + 1 + r.length from by omega]; exact h3, fun t => ?_⟩
    rw [entAll, h4, h2, List.any_cons, Bool.or_assoc]
theorem sev_ext {a b : List Ent} {n m : Nat} (ha : Sev a n) (hb : Sev b m) (h : ∀ t, isAt a t = isAt b t) : a = b := by
  induction a generalizing b n m with
  | nil =>
    cases b with
    | nil => rfl
    | cons y b =>
      have := h y.1
      simp [isAt] at this
  | cons x a ih =>
    cases b with
    | nil =>
      have := h x.1
      simp [isAt] at this
    | cons y b =>
      have hx : isAt (y :: b) x.1 = true := by rw [← h]; simp [isAt]
      have hy : isAt (x :: a) y.1 = true := by rw [h]; simp [isAt]
      have hxy : x.1 = y.1 := by
        obtain ⟨u, hu, hue⟩ := isAt_mem.1 hx
        obtain ⟨v, hv, hve⟩ := isAt_mem.1 hy
        rcases List.mem_cons.1 hu with rfl | hu
        · exact hue.symm
        · rcases List.mem_cons.1 hv with rfl | hv
          · exact hve
          · have h1 := hb.1.head u hu
            have h2 := ha.1.head v hv
            rw [hue] at h1
            rw [hve] at h2
            exact absurd (ltT h1 h2) (fun h => ltI h)
      have he : x = y := Prod.ext hxy (by rw [(ha.2.2 x List.mem_cons_self).2, (hb.2.2 y List.mem_cons_self).2])
      subst he
      have ha' : Sev a n := ⟨ha.1.tail, by have := ha.2.1; simp at this; omega, fun z hz => ha.2.2 z (List.mem_cons_of_mem _ hz)⟩
      have hb' : Sev b m := ⟨hb.1.tail, by have := hb.2.1; simp at this; omega, fun z hz => hb.2.2 z (List.mem_cons_of_mem _ hz)⟩
      rw [ih ha' hb' fun t => ?_]
      have ht := h t
      rw [isAt_cons, isAt_cons] at ht
      cases hq : (x.1 == t)
      · rw [hq, Bool.false_or, Bool.false_or] at ht
        exact ht
      · have hq : x.1 = t := by simpa using hq
        have n1 : isAt a t = false := by
          rw [Bool.eq_false_iff]
          intro hi
          obtain ⟨u, hu, hue⟩ := isAt_mem.1 hi
          have h1 := ha.1.head u hu
          rw [hue, hq] at h1
          exact ltI h1
        have n2 : isAt b t = false := by
          rw [Bool.eq_false_iff]
          intro hi
          obtain ⟨u, hu, hue⟩ := isAt_mem.1 hi
          have h1 := hb.1.head u hu
          rw [hue, hq] at h1
          exact ltI h1
        rw [n1, n2]

theorem sev_nil : Sev [] 0 := ⟨List.Pairwise.nil, Nat.le_refl _, fun x hx => by cases hx⟩
theorem sev_in (ls : List (List UInt8)) (k : Nat) (hk : k ≤ ls.length) (hl : ls.length ≤ 30) : Sev (inAll ls k) k := by
  have := (sev_all (ls.take k) [] 0 sev_nil (by simp; omega)).1
  rw [List.length_take, Nat.min_eq_left hk, Nat.zero_add] at this
  exact this
theorem sev_right {l : List Ent} {n : Nat} (h : Sev l n) (hn : n ≤ 256) : rightE l = true := by
  rw [rightE_iff]
  refine ⟨Nat.le_trans h.2.1 hn, fun x hx => ?_, h.1⟩
  have := h.2.2 x hx
  simp [okE, this.1, this.2]
theorem sev_get {l : List Ent} {n : Nat} (h : Sev l n) (s : List UInt8) : isAt l s = true → (getE l s).getD 0 = 7 := by
  intro hi
  obtain ⟨x, h1, h2, h3⟩ := get_pos h.1 hi
  rw [h3]
  exact (h.2.2 x (List.mem_of_getElem? h1)).2
theorem sev_ok {l : List Ent} {n : Nat} (h : Sev l n) : OkEnts l := fun x hx => by
  have := h.2.2 x hx
  have h2 := okN_len this.1
  exact ⟨by omega, by rw [this.2]; omega, by rw [this.2]; omega⟩
theorem all_same (ls : List (List UInt8)) (hl : ls.length ≤ 30) : inAll ls ls.length = inAll ls.reverse ls.length := by
  have h1 := sev_all ls [] 0 sev_nil (by omega)
  have h2 := sev_all ls.reverse [] 0 sev_nil (by simp; omega)
  rw [inAll, inAll, List.take_length, List.take_of_length_le (by simp)]
  refine sev_ext h1.1 h2.1 fun t => ?_
  rw [h1.2, h2.2, List.any_reverse]
theorem all_at (ls : List (List UInt8)) (hl : ls.length ≤ 30) (s : List UInt8) (hs : s ∈ ls) : isAt (inAll ls ls.length) s = okN s := by
  have h1 := sev_all ls [] 0 sev_nil (by omega)
  rw [inAll, List.take_length, h1.2]
  rw [show isAt [] s = false from rfl, Bool.false_or]
  cases h : okN s
  · rw [Bool.eq_false_iff]
    intro ha
    obtain ⟨t, ht, hh⟩ := List.any_eq_true.1 ha
    simp only [Bool.and_eq_true, beq_iff_eq] at hh
    rw [hh.2, h] at hh
    cases hh.1
  · rw [List.any_eq_true]
    exact ⟨s, hs, by simp [h]⟩

set_option maxRecDepth 100000 in
set_option maxHeartbeats 4000000 in
theorem walk (w : World) (lv : Value) (ls : List (List UInt8)) (hr : Row w lv (ls.map strV)) (z : ls.length ≤ 8796093022207 ∧ ∀ l ∈ ls, l.length ≤ 140737488351232) :
    Calls Try.prog 8 #[lv] w fun e w' => e = .returned (.bool true) ∧ Below w.heap.size w w' := by
  obtain ⟨A, c, rfl⟩ := hr.shape
  rw [List.length_map] at hr ⊢
  have HR := Lib.hid hr
  have HZ := Lib.hid z.2
  have hz := z.1
  clear hr z
  by_cases hl : ls.length ≤ 30
  · have hlr := longK_range ls (by omega) ls.length
    by_cases h2 : longK ls ls.length ≤ 2000
    · have HLG := Lib.hid (fun W (h : Row W (.slice A ls.length c) (ls.map strV)) => ref_LongAny (.slice A ls.length c) ls W h (by omega))
      generalize longK ls ls.length = lg at *
      have HSAME := Lib.hid (all_same ls hl)
      have hd2 : decide ((2000 : Int) < lg) = false := by rw [decide_eq_false_iff_not]; omega
      go_enter Try.func8, Try.ntmps8
      go_wp2_with fail
      refine (law_shown _).mono ?_
      rintro e w1 ⟨rfl, hb1⟩
      have HB1 := Lib.hid hb1
      clear hb1
      go_wp2_with fail
      refine (HLG.out w1 (HR.out.below HB1.out)).mono ?_
      rintro e w2 ⟨rfl, rfl⟩
      go_wp2_with fail
      go_loopw [4, 5, 6] (fun sa sb si wr => ∃ k : Nat, si = .int .i64 k ∧ k ≤ ls.length ∧ Ents wr sa (inAll ls k) ∧ Ents wr sb (inAll ls.reverse k) ∧ Below w.heap.size w wr) (fun _ _ si _ => ls.length - (intOf si).toNat)
      case atStart => exact ⟨0, rfl, Nat.zero_le _, Ents.nil _, Ents.nil _, HB1.out⟩
      case round =>
        obtain ⟨k, rfl, hk, hea, heb, hb⟩ := hrel
        have HEA := Lib.hid hea
        have HEB := Lib.hid heb
        have HB := Lib.hid hb
        obtain ⟨Aa, ca, rfl, -⟩ := hea.shape
        obtain ⟨Ab, cb, rfl, -⟩ := heb.shape
        have hsa := sev_in ls k hk hl
        have hsb := sev_in ls.reverse k (by simp; omega) (by simp; omega)
        clear hea heb hb
        by_cases hlt : k < ls.length
        · have hst1 := inAll_step hlt
          have hst2 := inAll_step (ls := ls.reverse) (k := k) (by simp; omega)
          have hrg : ls.reverse[k]'(by simp; omega) = ls[ls.length - 1 - k] := by simp
          rw [hrg] at hst2
          obtain ⟨b, off, rfl, hbk, hlen, hcl⟩ := (HR.out.below HB.out).at k (x := strV ls[k]) (by rw [List.getElem?_map, List.getElem?_eq_getElem hlt]; rfl)
          have c1 : wr.cell? ⟨b, off + k, none⟩ = some (.string ⟨(ls[k]).toArray⟩) := hcl k (strV ls[k]) (by rw [List.getElem?_map, List.getElem?_eq_getElem hlt]; rfl)
          have c2 : wr.cell? ⟨b, off + (ls.length - 1 - k), none⟩ = some (.string ⟨(ls[ls.length - 1 - k]).toArray⟩) := hcl (ls.length - 1 - k) (strV ls[ls.length - 1 - k]) (by rw [List.getElem?_map, List.getElem?_eq_getElem (by omega)]; rfl)
          have l1 := HZ.out ls[k] (List.getElem_mem _)
          have l2 := HZ.out ls[ls.length - 1 - k] (List.getElem_mem _)
          have HST1 := Lib.hid hst1
          have HST2 := Lib.hid hst2
          have HSA := Lib.hid hsa
          have HSB := Lib.hid hsb
          have hkz1 := hsa.2.1
          have hkz2 := hsb.2.1
          have HC2 := Lib.hid c2
          clear hcl hst1 hst2 hrg hsa hsb c2
          generalize inAll ls k = a0 at *
          generalize inAll ls.reverse k = b0 at *
          generalize ls[k] = s1 at *
          generalize ls[ls.length - 1 - k] = s2 at *
          go_wp2_with fail
          refine (enter_b _ a0 s1 7 wr HEA.out (by omega) HSA.out.1 l1 (by omega) (by omega)).mono ?_
          rintro e w3 ⟨v3, rfl, hE3, hb3⟩
          have HB3 := below_step HB hb3
          have HE3 := Lib.hid hE3
          have HEB3 := Lib.hid (HEB.out.below hb3)
          have c3 := cell_keep hb3 HC2.out
          obtain ⟨A3, c3', rfl, -⟩ := hE3.shape
          have e1 : ((ls.length : Int) - 1 - (k : Int)) = ((ls.length - 1 - k : Nat) : Int) := by omega
          generalize ls.length - 1 - k = m at *
          have hm : m < ls.length := by have := congrArg Int.toNat e1; omega
          clear hb3 hE3
          go_wp2_with fail
          refine (enter_b _ b0 s2 7 w3 HEB3.out (by omega) HSB.out.1 l2 (by omega) (by omega)).mono ?_
          rintro e w4 ⟨v4, rfl, hE4, hb4⟩
          have HB4 := below_step HB3 hb4
          have HE4 := Lib.hid hE4
          have HE34 := Lib.hid (HE3.out.below hb4)
          obtain ⟨A4, c4', rfl, -⟩ := hE4.shape
          clear hb4 hE4
          go_wp2_with fail
          go_roundw
          case rel => exact ⟨k + 1, by go_num, by omega, by rw [HST1.out]; exact HE34.out, by rw [HST2.out]; exact HE4.out, HB4.out⟩
          case measure => simp [intOf]; omega
        · obtain rfl : k = ls.length := by omega
          rw [← HSAME.out] at HEB
          have HSA := Lib.hid hsa
          have HAT := Lib.hid (fun s hs => all_at ls hl s hs)
          have hal := hsa.2.1
          clear hsa hsb
          generalize inAll ls ls.length = a at *
          rw [← HSAME.out]
          have hdd : decide (ls.length < ls.length) = false := by simp
          go_wp2_with fail
          obtain ⟨wo, rfl⟩ : ∃ wo : World, wo = wr := ⟨_, rfl⟩
          go_loopw [7] (fun si wr => ∃ j : Nat, si = .int .i64 j ∧ j ≤ ls.length ∧ Below wo.heap.size wo wr) (fun si _ => ls.length - (intOf si).toNat)
          case atStart => exact ⟨0, rfl, Nat.zero_le _, Below.refl _ _⟩
          case round =>
            obtain ⟨j, rfl, hj, hbq⟩ := hrel
            have HBQ := Lib.hid hbq
            clear hdd
            by_cases hlt : j < ls.length
            · obtain ⟨b, off, rfl, hbk, hlen, hcl⟩ := ((HR.out.below HB.out).below HBQ.out).at j (x := strV ls[j]) (by rw [List.getElem?_map, List.getElem?_eq_getElem hlt]; rfl)
              have c1 : wr.cell? ⟨b, off + j, none⟩ = some (.string ⟨(ls[j]).toArray⟩) := hcl j (strV ls[j]) (by rw [List.getElem?_map, List.getElem?_eq_getElem hlt]; rfl)
              have l1 := HZ.out ls[j] (List.getElem_mem _)
              have HA := Lib.hid (HAT.out ls[j] (List.getElem_mem _))
              have HGET := Lib.hid (sev_get HSA.out ls[j])
              have HC1 := Lib.hid c1
              clear hcl hbq
              generalize ls[j] = s1 at *
              go_wp2_with fail
              refine (find_b _ a s1 wr (HEA.out.below HBQ.out) (by omega) HSA.out.1).mono ?_
              rw [HA.out]
              rintro e w3 ⟨rfl, hb3⟩
              have HB3 := Lib.hid (below_trans HBQ.out hb3 HBQ.out.size)
              have c3 := cell_keep hb3 HC1.out
              clear hb3 c1
              cases hok : okN s1
              · have HCD : Hid (checkD s1 = 10) := Lib.hid (by rw [checkD, hok]; rfl)
                clear hok
                go_wp2_with fail
                refine (name_Check s1 w3 l1).mono ?_
                rw [HCD.out]
                rintro e w4 ⟨rfl, rfl⟩
                go_wp2_with fail
                go_roundw
                case rel => exact ⟨j + 1, by go_num, by omega, HB3.out⟩
                case measure => simp [intOf]; omega
              · have HCD : Hid (checkD s1 = 0) := Lib.hid (by rw [checkD, hok]; rfl)
                have h7 : (getE a s1).getD 0 = 7 := HGET.out (by rw [HA.out, hok])
                rw [h7]
                clear hok h7
                go_wp2_with fail
                refine (name_Check s1 w3 l1).mono ?_
                rw [HCD.out]
                rintro e w4 ⟨rfl, rfl⟩
                go_wp2_with fail
                go_roundw
                case rel => exact ⟨j + 1, by go_num, by omega, HB3.out⟩
                case measure => simp [intOf]; omega
            · have hdq : decide (j < ls.length) = false := decide_eq_false hlt
              clear hbq
              go_wp2_with fail
              refine (same_b _ _ a a wr (HEA.out.below HBQ.out) (HEB.out.below HBQ.out) (by omega) (by omega)).mono ?_
              rw [beq_self_eq_true]
              rintro e w5 ⟨rfl, hb5⟩
              have HB5 := Lib.hid (below_trans HBQ.out hb5 HBQ.out.size)
              clear hb5
              go_wp2_with fail
              refine (nright_b _ a w5 (HEA.out.below HB5.out) (sev_ok HSA.out) (by omega)).mono ?_
              rw [sev_right HSA.out (by omega)]
              rintro e w6 ⟨rfl, hb6⟩
              have HB6 := Lib.hid (below_trans HB5.out hb6 HB5.out.size)
              clear hb6
              go_wp2_with fail
              refine (names_b _ a w6 (HEA.out.below HB6.out) (by omega)).mono ?_
              rintro e w7 ⟨v7, rfl, hE7, hb7⟩
              have HB7 := Lib.hid (below_trans HB6.out hb7 HB6.out.size)
              obtain ⟨A7, c7, rfl⟩ := hE7.shape
              clear hb7 hE7
              go_wp2_with fail
              go_ret
              exact ⟨rfl, below_trans HB.out HB7.out HB.out.size⟩
    · have HLG := Lib.hid (fun W (h : Row W (.slice A ls.length c) (ls.map strV)) => ref_LongAny (.slice A ls.length c) ls W h (by omega))
      generalize longK ls ls.length = lg at *
      have hd2 : decide ((2000 : Int) < lg) = true := by rw [decide_eq_true_iff]; omega
      go_enter Try.func8, Try.ntmps8
      go_wp2_with fail
      refine (law_shown _).mono ?_
      rintro e w1 ⟨rfl, hb1⟩
      have HB1 := Lib.hid hb1
      clear hb1
      go_wp2_with fail
      refine (HLG.out w1 (HR.out.below HB1.out)).mono ?_
      rintro e w2 ⟨rfl, rfl⟩
      go_wp2_with fail
      go_ret
      exact ⟨rfl, HB1.out⟩
  · have hd : decide ((30 : Int) < (ls.length : Int)) = true := by rw [decide_eq_true_iff]; omega
    go_enter Try.func8, Try.ntmps8
    go_wp2_with fail
    refine (law_shown _).mono ?_
    rintro e w1 ⟨rfl, hb1⟩
    have HB1 := Lib.hid hb1
    clear hb1
    go_wp2_with fail
    go_ret
    exact ⟨rfl, HB1.out⟩

theorem own : ownKnob Try.prog.godebug = none := by kernel_rfl
theorem laidOut : laidOutB Try.prog = true := by kernel_rfl

set_option maxRecDepth 100000 in
set_option maxHeartbeats 1000000 in
theorem lifted (os : Os) (started : os.Started) (H : Type) (enc : TypeId × Value → H) :
    ReturnsInHanded {} Try.checked os 8 .any (Rows.nameOrderSpec.pre6 enc Try.prog Try.f8 Rows.nameOrderRow.domain false) (Rows.nameOrderSpec.post enc Try.prog Try.f8 false true false false) := by
  refine returnsInHanded_of_change_sized (C := Try.checked) own started (by kernel_rfl) Try.func8
    (ChangeSpec.witness6 (enc := enc) (C := Try.checked) false ⟨#[], #[.slice none 0 0], []⟩ 8 (by kernel_rfl) (by kernel_rfl) (by kernel_rfl) (by kernel_rfl)) ?_
  intro W base args ds gs before hval0 hW hcnd hsz0 _
  have hsz : (DataW.weightsEach Try.prog (Try.f8.params.toList ++ []) (ds ++ gs)).all (· ≤ reachBytes) = true := hsz0
  clear hsz0
  have hval : ∀ (j : Nat) t v, Try.f8.params[j]? = some t → args[j]? = some v → Value.okWide Try.prog W .any base t v := hval0
  have hW' := hW
  have hlt := hW.lt
  obtain ⟨p, q, hA0, hV, rfl, hfz, hnd⟩ := hW
  have hA : DataW.TrodAll enc Try.prog W 0 (fun _ => true) true Try.f8.params.toList args.toList ds p := hA0
  rw [Try.params8] at hA hval
  obtain ⟨v0, vs0, d0, ds0, p0, q0, hargs, rfl, rfl, h0, r0⟩ := trodAll_cons hA
  obtain ⟨rfl, rfl, rfl⟩ := trodAll_nil r0
  obtain rfl : args = #[v0] := by cases args; simp_all
  obtain ⟨rfl, rfl⟩ := trodVars_none hV
  have hw0 : ∀ n ∈ DataW.weights Try.prog 25 d0, n ≤ 140737488351232 := fun n hn => sized_deep hsz (by rw [Try.params8]; simp [DataW.weightsEach, hn])
  obtain ⟨a0, w0, e0⟩ := open_texts Try.underlying25 Try.underlying9 (by kernel_rfl) (hval 0 25 v0 rfl rfl) h0 (fun x hx => hlt x (by simp [hx]))
  have z0 := texts_sized Try.underlying25 (by kernel_rfl) e0 hw0
  refine (walk W v0 a0 w0 z0).mono fun e W' ⟨he, hg⟩ => ?_
  subst he
  exact ⟨_, rfl, Copyhold.law_post laidOut (by kernel_rfl) (by kernel_rfl) Try.underlying4 rfl rfl rfl rfl hW' hg⟩

theorem over : Rows.nameOrderRow.holds Try.pinned (OpenSpec.ofChange Rows.nameOrderSpec) :=
  OpenClaim.holds_of_wide 8 Try.f8 rfl rfl rfl rfl rfl rfl rfl ⟨rfl, rfl, rfl, rfl, rfl⟩ rfl rfl rfl rfl rfl (by kernel_rfl) Try.func8 (by kernel_rfl)
    (of_decide_eq_true (by kernel_rfl)) (by unfold Func.isWrapper; first | (rw [if_pos (by decide +kernel)]; kernel_rfl) | (rw [if_neg (by decide +kernel)]; exact ⟨rfl, rfl⟩))
    (fun os started H enc _ => lifted os started H enc)

theorem proved : Rows.NameOrderSaid :=
  over
end Go.Proofs.Ytjeejnjomgcplaa.nameOrder
