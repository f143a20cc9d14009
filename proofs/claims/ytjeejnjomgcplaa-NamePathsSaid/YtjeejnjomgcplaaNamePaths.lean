/- Proved: copyholdlaw06.NamePaths returns true for every texts, and leaves them as they were: a path of right names is split into them; with a name behind it it has one more. No condition beyond the form's own reach. -/
import Derived.Test.YtjeejnjomgcplaaNameLawK
import Derived.Test.YtjeejnjomgcplaaRefStrings
namespace Go.Proofs.Ytjeejnjomgcplaa.namePaths
open Go.ChangeShapes Go.WideShapes Go.ChangeAt Go.RowKit Copyhold Copyhold.Name
open Go.ChangeMaps (open_string shut_string)
set_option linter.unusedVariables false
@[local go_sem] theorem cat1 (x : List UInt8) (c : UInt8) : (⟨x.toArray⟩ : ByteArray) ++ ⟨#[c]⟩ = ⟨(x ++ [c]).toArray⟩ := cat x [c]

theorem path_len (ls : List (List UInt8)) (h : ∀ l ∈ ls, okN l = true) : (pathOf ls).length ≤ 33 * ls.length := by
  induction ls with
  | nil => simp [pathOf]
  | cons l r ih =>
    have h1 := (okN_len (h l List.mem_cons_self)).1
    have h2 := ih fun x hx => h x (List.mem_cons_of_mem _ hx)
    unfold pathOf at h2 ⊢
    rw [List.map_cons, List.flatten_cons, List.length_append, List.length_cons, List.length_cons]
    omega
theorem path_step (ls : List (List UInt8)) (k : Nat) (h : k < ls.length) : pathOf (ls.take (k + 1)) = pathOf (ls.take k) ++ 47 :: ls[k] := by
  unfold pathOf
  rw [List.take_succ_eq_append_getElem h, List.map_append, List.flatten_append]
  simp
theorem path_split (ls : List (List UInt8)) (h : ∀ l ∈ ls, okN l = true) : splitD (pathOf ls ++ [47]) = (ls, 0) := by
  have h1 := names_path ls h []
  rw [show namesP [] = [] from rfl, List.append_nil] at h1
  have h2 : (pathOf ls ++ [47]).head? = some 47 := by
    cases ls with
    | nil => rfl
    | cons l r => simp [pathOf]
  rw [splitD, if_pos h2, h1, if_pos (List.all_eq_true.2 h)]
theorem path_more (ls : List (List UInt8)) (h : ∀ l ∈ ls, okN l = true) (m : List UInt8) (hm : okN m = true) : splitD (pathOf ls ++ 47 :: m) = (ls ++ [m], 0) := by
  have h1 := names_path ls h m
  rw [names_one (okN_slash hm), if_pos (okN_counts hm)] at h1
  have h2 : (pathOf ls ++ 47 :: m).head? = some 47 := by
    cases ls with
    | nil => rfl
    | cons l r => simp [pathOf]
  rw [splitD, if_pos h2, h1, if_pos]
  rw [List.all_eq_true]
  intro x hx
  rcases List.mem_append.1 hx with hx | hx
  · exact h x hx
  · simp at hx; rw [hx]; exact hm

set_option maxRecDepth 100000 in
set_option maxHeartbeats 4000000 in
theorem walk (w : World) (lv : Value) (ls : List (List UInt8)) (hr : Row w lv (ls.map strV)) (z : ls.length ≤ 8796093022207 ∧ ∀ l ∈ ls, l.length ≤ 140737488351232) (m : List UInt8) (z1 : m.length ≤ 140737488351232) :
    Calls Try.prog 7 #[lv, .string ⟨m.toArray⟩] w fun e w' => e = .returned (.bool true) ∧ Below w.heap.size w w' := by
  obtain ⟨A, c, rfl⟩ := hr.shape
  rw [List.length_map] at hr ⊢
  have HR := Lib.hid hr
  have HZ := Lib.hid z.2
  have hz := z.1
  clear hr z
  by_cases hl : ls.length ≤ 20 ∧ m.length ≤ 100
  · obtain ⟨hl, hm⟩ := hl
    go_enter Try.func7, Try.ntmps7
    go_wp2_with fail
    refine (law_shown _).mono ?_
    rintro e w1 ⟨rfl, hb1⟩
    have HB1 := Lib.hid hb1
    clear hb1
    go_wp2_with fail
    go_loopw [6, 7] (fun sp si wr => ∃ k : Nat, si = .int .i64 k ∧ k ≤ ls.length ∧ sp = .string ⟨(pathOf (ls.take k)).toArray⟩ ∧ (∀ l ∈ ls.take k, okN l = true) ∧ wr = w1) (fun _ si _ => ls.length - (intOf si).toNat)
    case atStart => exact ⟨0, rfl, Nat.zero_le _, rfl, by simp, rfl⟩
    case round =>
      obtain ⟨k, rfl, hk, rfl, hok, rfl⟩ := hrel
      have HOK := Lib.hid hok
      clear hok
      by_cases hlt : k < ls.length
      · obtain ⟨b, off, rfl, hbk, hlen, hcl⟩ := (HR.out.below HB1.out).at k (x := strV ls[k]) (by rw [List.getElem?_map, List.getElem?_eq_getElem hlt]; rfl)
        have c1 : wr.cell? ⟨b, off + k, none⟩ = some (.string ⟨(ls[k]).toArray⟩) := hcl k (strV ls[k]) (by rw [List.getElem?_map, List.getElem?_eq_getElem hlt]; rfl)
        have l1 := HZ.out ls[k] (List.getElem_mem _)
        have HST := Lib.hid (path_step ls k hlt)
        have HNX : Hid (okN ls[k] = true → ∀ l ∈ ls.take (k + 1), okN l = true) := Lib.hid fun h x hx => by
          rw [List.take_succ_eq_append_getElem hlt] at hx
          rcases List.mem_append.1 hx with hx | hx
          · exact HOK.out x hx
          · simp at hx; rw [hx]; exact h
        have hpl : (pathOf (ls.take k)).length ≤ 660 := by
          have := path_len (ls.take k) HOK.out
          simp at this
          omega
        clear hcl
        generalize ls[k] = s at *
        generalize hpe : pathOf (ls.take k) = p at *
        clear hpe
        cases hs : okN s
        · have HCD : Hid (checkD s = 10) := Lib.hid (by rw [checkD, hs]; rfl)
          clear hs
          go_wp2_with fail
          refine (ref06_Check s wr l1).mono ?_
          rw [HCD.out]
          rintro e w4 ⟨rfl, rfl⟩
          go_wp2_with fail
          go_ret
          exact ⟨rfl, HB1.out⟩
        · have HCD : Hid (checkD s = 0) := Lib.hid (by rw [checkD, hs]; rfl)
          have HN := Lib.hid (HNX.out hs)
          clear hs
          go_wp2_with fail
          refine (ref06_Check s wr l1).mono ?_
          rw [HCD.out]
          rintro e w4 ⟨rfl, rfl⟩
          go_wp2_with fail
          go_roundw
          case rel => exact ⟨k + 1, by go_num, by omega, by rw [HST.out], HN.out, trivial⟩
          case measure => simp [intOf]; omega
      · obtain rfl : k = ls.length := by omega
        have hok : ∀ l ∈ ls, okN l = true := by have := HOK.out; rwa [List.take_length] at this
        have hpl := path_len ls hok
        rw [List.take_length]
        have HS1 := Lib.hid (path_split ls hok)
        have HS2 := Lib.hid (fun hm => path_more ls hok m hm)
        have hdd : decide (ls.length < ls.length) = false := by simp
        have HL1 : Hid ((pathOf ls ++ [47]).length ≤ 1000000) := Lib.hid (by simp; omega)
        have HL2 : Hid ((pathOf ls ++ 47 :: m).length ≤ 1000000) := Lib.hid (by simp; omega)
        clear hok HOK
        generalize pathOf ls = p at *
        go_wp2_with fail
        refine (name_Split (p ++ [47]) HL1.out wr).mono ?_
        rw [HS1.out]
        rintro e w2 ⟨v2, rfl, hE2, hb2⟩
        have HB2 := below_step HB1 hb2
        have HE2 := Lib.hid hE2
        obtain ⟨A2, c2, rfl⟩ := hE2.shape
        simp only [List.length_map] at HE2
        clear hb2 hE2
        cases hmk : okN m
        · have HCD : Hid (checkD m = 10) := Lib.hid (by rw [checkD, hmk]; rfl)
          clear hmk
          go_wp2_with fail
          refine (name_Split (p ++ 47 :: m) HL2.out w2).mono ?_
          generalize splitD (p ++ 47 :: m) = r at *
          rintro e w3 ⟨v3, rfl, hE3, hb3⟩
          have HB3 := below_step HB2 hb3
          have HE23 := Lib.hid (HE2.out.below hb3)
          obtain ⟨A3, c3, rfl⟩ := hE3.shape
          clear hb3 hE3
          go_wp2_with fail
          refine (ref_Strings _ _ ls ls w3 HE23.out (HR.out.below HB3.out) (by omega) (by omega)).mono ?_
          rw [show sameTexts ls ls = true from by simp [sameTexts]]
          rintro e w4 ⟨rfl, hb4⟩
          have HB4 := below_step HB3 hb4
          clear hb4
          go_wp2_with fail
          refine (ref06_Check m w4 z1).mono ?_
          rw [HCD.out]
          rintro e w5 ⟨rfl, rfl⟩
          go_wp2_with fail
          go_ret
          exact ⟨rfl, HB4.out⟩
        · have HCD : Hid (checkD m = 0) := Lib.hid (by rw [checkD, hmk]; rfl)
          have HSM := Lib.hid (HS2.out hmk)
          clear hmk HS2
          go_wp2_with fail
          refine (name_Split (p ++ 47 :: m) HL2.out w2).mono ?_
          rw [HSM.out]
          rintro e w3 ⟨v3, rfl, hE3, hb3⟩
          have HB3 := below_step HB2 hb3
          have HE3 := Lib.hid hE3
          have HE23 := Lib.hid (HE2.out.below hb3)
          obtain ⟨A3, c3, rfl⟩ := hE3.shape
          simp only [List.length_map, List.length_append, List.length_cons, List.length_nil] at HE3
          clear hb3 hE3
          go_wp2_with fail
          refine (ref_Strings _ _ ls ls w3 HE23.out (HR.out.below HB3.out) (by omega) (by omega)).mono ?_
          rw [show sameTexts ls ls = true from by simp [sameTexts]]
          rintro e w4 ⟨rfl, hb4⟩
          have HB4 := below_step HB3 hb4
          obtain ⟨b, off, rfl, hbk, hlen, hcl⟩ := (HE3.out.below hb4).at ls.length (x := strV m) (by simp)
          have c1 : w4.cell? ⟨b, off + ls.length, none⟩ = some (.string ⟨m.toArray⟩) := hcl ls.length (strV m) (by simp)
          clear hb4 hcl hlen
          go_wp2_with fail
          refine (ref06_Check m w4 z1).mono ?_
          rw [HCD.out]
          rintro e w5 ⟨rfl, rfl⟩
          go_wp2_with fail
          go_ret
          exact ⟨rfl, HB4.out⟩
  · rcases (show 20 < ls.length ∨ ls.length ≤ 20 ∧ 100 < m.length from by omega) with h | ⟨h1, h2⟩
    all_goals
      clear hl
      go_enter Try.func7, Try.ntmps7
      go_wp2_with fail
      refine (law_shown _).mono ?_
      rintro e w1 ⟨rfl, hb1⟩
      have HB1 := Lib.hid hb1
      clear hb1
      go_wp2_with fail
      go_ret
      exact ⟨rfl, HB1.out⟩

theorem own : ownKnob Try.prog.godebug = none := by kernel_rfl
theorem laidOut : laidOutB Try.prog = true := by kernel_rfl

set_option maxRecDepth 100000 in
set_option maxHeartbeats 1000000 in
theorem lifted (os : Os) (started : os.Started) (H : Type) (enc : TypeId × Value → H) :
    ReturnsInHanded {} Try.checked os 7 .any (Rows.namePathsSpec.pre6 enc Try.prog Try.f7 Rows.namePathsRow.domain false) (Rows.namePathsSpec.post enc Try.prog Try.f7 false true false false) := by
  refine returnsInHanded_of_change_sized (C := Try.checked) own started (by kernel_rfl) Try.func7
    (ChangeSpec.witness6 (enc := enc) (C := Try.checked) false ⟨#[], #[.slice none 0 0, .string ByteArray.empty], []⟩ 8 (by kernel_rfl) (by kernel_rfl) (by kernel_rfl) (by kernel_rfl)) ?_
  intro W base args ds gs before hval0 hW hcnd hsz0 _
  have hsz : (DataW.weightsEach Try.prog (Try.f7.params.toList ++ []) (ds ++ gs)).all (· ≤ reachBytes) = true := hsz0
  clear hsz0
  have hval : ∀ (j : Nat) t v, Try.f7.params[j]? = some t → args[j]? = some v → Value.okWide Try.prog W .any base t v := hval0
  have hW' := hW
  have hlt := hW.lt
  obtain ⟨p, q, hA0, hV, rfl, hfz, hnd⟩ := hW
  have hA : DataW.TrodAll enc Try.prog W 0 (fun _ => true) true Try.f7.params.toList args.toList ds p := hA0
  rw [Try.params7] at hA hval
  obtain ⟨v0, vs0, d0, ds0, p0, q0, hargs, rfl, rfl, h0, r0⟩ := trodAll_cons hA
  obtain ⟨v1, vs1, d1, ds1, p1, q1, rfl, rfl, rfl, h1, r1⟩ := trodAll_cons r0
  obtain ⟨rfl, rfl, rfl⟩ := trodAll_nil r1
  obtain rfl : args = #[v0, v1] := by cases args; simp_all
  obtain ⟨rfl, rfl⟩ := trodVars_none hV
  have hw0 : ∀ n ∈ DataW.weights Try.prog 25 d0, n ≤ 140737488351232 := fun n hn => sized_deep hsz (by rw [Try.params7]; simp [DataW.weightsEach, hn])
  obtain ⟨a0, w0, e0⟩ := open_texts Try.underlying25 Try.underlying9 (by kernel_rfl) (hval 0 25 v0 rfl rfl) h0 (fun x hx => hlt x (by simp [hx]))
  have z0 := texts_sized Try.underlying25 (by kernel_rfl) e0 hw0
  obtain ⟨s1, rfl, rfl, rfl, w1⟩ := open_string Try.underlying9 (hval 1 9 v1 rfl rfl) h1
  have z1 : s1.data.toList.length ≤ 140737488351232 := sized_string hsz (j := 1) (t := 9) (by rw [Try.params7]; rfl) rfl
  obtain ⟨a1, rfl⟩ : ∃ l : List UInt8, s1 = ⟨l.toArray⟩ := ⟨s1.data.toList, rfl⟩
  refine (walk W v0 a0 w0 z0 a1 z1).mono fun e W' ⟨he, hg⟩ => ?_
  subst he
  exact ⟨_, rfl, Copyhold.law_post laidOut (by kernel_rfl) (by kernel_rfl) Try.underlying4 rfl rfl rfl rfl hW' hg⟩

theorem over : Rows.namePathsRow.holds Try.pinned (OpenSpec.ofChange Rows.namePathsSpec) :=
  OpenClaim.holds_of_wide 7 Try.f7 rfl rfl rfl rfl rfl rfl rfl ⟨rfl, rfl, rfl, rfl, rfl⟩ rfl rfl rfl rfl rfl (by kernel_rfl) Try.func7 (by kernel_rfl)
    (of_decide_eq_true (by kernel_rfl)) (by unfold Func.isWrapper; first | (rw [if_pos (by decide +kernel)]; kernel_rfl) | (rw [if_neg (by decide +kernel)]; exact ⟨rfl, rfl⟩))
    (fun os started H enc _ => lifted os started H enc)

theorem proved : Rows.NamePathsSaid :=
  over
end Go.Proofs.Ytjeejnjomgcplaa.namePaths
