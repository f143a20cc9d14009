/- copyholdref06.Find, Same, Names: they answer as the document says; old memory is as it was. -/
import Derived.Test.YtjeejnjomgcplaaNameRight
import Derived.Test.YtjeejnjomgcplaaRefStrings
set_option linter.unusedVariables false
namespace Go.Proofs.Ytjeejnjomgcplaa
open Go.RowKit Copyhold Copyhold.Name

theorem entElem : Elem Try.prog 22 55 (.agg #[.string ⟨#[]⟩, .int .i64 0]) 2 24 :=
  ⟨Try.underlying22, by kernel_rfl, by kernel_rfl, by decide⟩
theorem textElem : Elem Try.prog 25 9 (.string ⟨#[]⟩) 1 16 :=
  ⟨Try.underlying25, by kernel_rfl, by kernel_rfl, by decide⟩

theorem sl1 (w : World) (x : Value) (t : TypeId) : Sl (w.alloc (.cells #[x] t)) 1 (.slice (some ⟨w.heap.size, 0, none⟩) 1 1) 1 [x] :=
  ⟨_, 1, rfl, Nat.le_refl _, rfl, fun _ => ⟨w.heap.size, 0, rfl, by simp, fun j y hj => by
    rw [Nat.zero_add, cell_new]
    cases j with
    | zero => simpa using hj
    | succ j => simp at hj⟩⟩
theorem slN (w : World) (cs : Array Value) (t : TypeId) : Sl (w.alloc (.cells cs t)) cs.size (.slice (some ⟨w.heap.size, 0, none⟩) 1 1) 1 cs.toList :=
  ⟨_, 1, rfl, Nat.le_refl _, by simp, fun _ => ⟨w.heap.size, 0, rfl, by simp, fun j y hj => by
    rw [Nat.zero_add, cell_new]
    simpa using hj⟩⟩
theorem isAt_take (l : List Ent) (s : List UInt8) (k : Nat) (hk : k < l.length) : isAt (l.take (k + 1)) s = (isAt (l.take k) s || l[k].1 == s) := by
  unfold isAt
  rw [List.take_succ_eq_append_getElem hk, List.any_append]
  simp
theorem getE_take (l : List Ent) (s : List UInt8) (k : Nat) (hk : k < l.length) (h : isAt (l.take k) s = false) (he : l[k].1 = s) : getE l s = some l[k].2 ∧ isAt l s = true := by
  have hg : getE l s = some l[k].2 := by
    unfold getE
    have hs : l = l.take k ++ l[k] :: l.drop (k + 1) := by rw [← List.drop_eq_getElem_cons hk, List.take_append_drop]
    have hn : (l.take k).find? (fun x => x.1 == s) = none := by
      rw [List.find?_eq_none]
      intro x hx e
      rw [Bool.eq_false_iff] at h
      exact h (isAt_mem.2 ⟨x, hx, by simpa using e⟩)
    generalize l[k] = y at *
    rw [hs, List.find?_append, hn]
    simp [he]
  exact ⟨hg, by rw [get_some, hg]; rfl⟩

set_option maxHeartbeats 2000000 in
theorem ref06_Find (l : List Ent) (s : List UInt8) (A : Option Addr) (c : Nat) (w : World) (hl : Ents w (.slice A l.length c) l) (hn : l.length ≤ 1000000) :
    Calls Try.prog 19 #[.slice A l.length c, .string ⟨s.toArray⟩] w fun e w' => e = .returned (findR l s) ∧ w = w' := by
  have HL := Lib.hid hl
  clear hl
  go_enter Try.func19, Try.ntmps19
  go_wp2_with fail
  go_loop [6] (fun si => ∃ k : Nat, si = .int .i64 k ∧ k ≤ l.length ∧ isAt (l.take k) s = false) (fun si => l.length - (intOf si).toNat)
  case atStart => exact ⟨0, rfl, Nat.zero_le _, by simp [isAt]⟩
  case round =>
    obtain ⟨k, rfl, hk, hp⟩ := hrel
    have HP := Lib.hid hp
    clear hp
    by_cases hlt : k < l.length
    · obtain ⟨b, off, rfl, hbk, hc, hc1, hc2⟩ := HL.out.at k hlt
      have hst := isAt_take l s k hlt
      rw [HP.out, Bool.false_or] at hst
      have HG := Lib.hid (getE_take l s k hlt HP.out)
      have HST := Lib.hid hst
      clear hst
      generalize l[k] = x at *
      by_cases he : x.1 = s
      · obtain ⟨g1, g2⟩ := HG.out he
        have HF : Hid (findR l s = .tuple #[.int .i64 x.2, .bool true]) := Lib.hid (by rw [findR, g1, g2]; rfl)
        rw [he] at hc1
        clear g1 g2 he
        go_wp2_with fail
        go_ret2
        exact ⟨by rw [HF.out]; rfl, rfl⟩
      · have hq : (x.1 == s) = false := by simpa using he
        have HS := Lib.hid (HST.out.trans hq)
        clear he
        go_wp2_with fail
        go_round
        case rel => exact ⟨k + 1, by go_num, by omega, HS.out⟩
        case measure => simp [intOf]; omega
    · have hfin : isAt l s = false := by have := HP.out; rwa [List.take_of_length_le (by omega)] at this
      have HF : Hid (findR l s = .tuple #[.int .i64 0, .bool false]) := Lib.hid (by rw [findR, hfin, get_none hfin]; rfl)
      clear hfin
      go_wp2_with fail
      go_ret2
      exact ⟨by rw [HF.out]; rfl, rfl⟩

set_option maxHeartbeats 4000000 in
theorem ref06_Same (a b : List Ent) (A B : Option Addr) (c d : Nat) (w : World) (ha : Ents w (.slice A a.length c) a) (hb : Ents w (.slice B b.length d) b) (hn : a.length ≤ 1000000) (hm : b.length ≤ 1000000) :
    Calls Try.prog 26 #[.slice A a.length c, .slice B b.length d] w fun e w' => e = .returned (.bool (a == b)) ∧ ∃ n, w' = w.drewN n := by
  have HA := Lib.hid ha
  have HB := Lib.hid hb
  clear ha hb
  by_cases hle : a.length = b.length
  · have hl1 : ((a.length : Int) != (b.length : Int)) = false := by rw [hle]; simp
    have HLE := Lib.hid hle
    clear hle
    go_enter Try.func26, Try.ntmps26
    go_wp2_with fail
    go_loopw [5] (fun si wr => ∃ k n : Nat, si = .int .i64 k ∧ k ≤ a.length ∧ a.take k = b.take k ∧ wr = w.drewN n) (fun si _ => a.length - (intOf si).toNat)
    case atStart => exact ⟨0, 0, rfl, Nat.zero_le _, by simp, rfl⟩
    case round =>
      obtain ⟨k, n, rfl, hk, hp, rfl⟩ := hrel
      have HP := Lib.hid hp
      clear hp
      by_cases hlt : k < a.length
      · have hlt' : k < b.length := by have := HLE.out; omega
        obtain ⟨b1, o1, rfl, _, _, c1, c2⟩ := HA.out.at k hlt
        obtain ⟨b2, o2, rfl, _, _, c3, c4⟩ := HB.out.at k hlt'
        have hi1 : (k : Int) < (a.length : Int) := by omega
        have hi2 : (k : Int) < (b.length : Int) := by omega
        have hst : a[k] = b[k] → a.take (k + 1) = b.take (k + 1) := fun h => by
          rw [List.take_succ_eq_append_getElem hlt, List.take_succ_eq_append_getElem hlt', HP.out, h]
        have hno : a[k] ≠ b[k] → (a == b) = false := fun h => by
          rw [beq_eq_false_iff_ne]
          rintro rfl
          exact h rfl
        have HST := Lib.hid hst
        have HNO := Lib.hid hno
        clear hst hno
        generalize a[k] = x at *
        generalize b[k] = y at *
        obtain ⟨x1, x2⟩ := x
        obtain ⟨y1, y2⟩ := y
        simp only at c1 c2 c3 c4
        by_cases h1 : x1 = y1
        · subst h1
          by_cases h2 : x2 = y2
          · subst h2
            have HS := Lib.hid (HST.out rfl)
            go_wp2_with fail
            go_quiet (fail)
            go_wp2_with fail
            go_roundw
            case rel => exact ⟨k + 1, _, by go_num, by omega, HS.out, rfl⟩
            case measure => simp [intOf]; omega
          · have HS := Lib.hid (HNO.out (by simpa using h2))
            have hq : (x2 == y2) = false := by simpa using h2
            clear h2
            go_wp2_with fail
            go_quiet (fail)
            go_wp2_with fail
            go_ret
            exact ⟨by rw [HS.out]; rfl, _, World.drewN_drewN _ _ _⟩
        · have HS := Lib.hid (HNO.out (by simp [h1]))
          have hq : (x1 == y1) = false := by simpa using h1
          clear h1
          go_wp2_with fail
          go_quiet (fail)
          go_wp2_with fail
          go_ret
          exact ⟨by rw [HS.out]; rfl, _, World.drewN_drewN _ _ _⟩
      · have hfin : (a == b) = true := by
          have := HP.out
          rw [List.take_of_length_le (by omega), List.take_of_length_le (by have := HLE.out; omega)] at this
          simpa using this
        have HF := Lib.hid hfin
        clear hfin
        go_wp2_with fail
        go_ret
        exact ⟨by rw [HF.out]; rfl, _, rfl⟩
  · have hl1 : ((a.length : Int) != (b.length : Int)) = true := by rw [bne_iff_ne]; omega
    have hfin : (a == b) = false := by
      rw [beq_eq_false_iff_ne]
      rintro rfl
      exact hle rfl
    have HF := Lib.hid hfin
    clear hfin hle
    go_enter Try.func26, Try.ntmps26
    go_wp2_with fail
    go_ret
    exact ⟨by rw [HF.out]; rfl, 0, rfl⟩

set_option maxHeartbeats 2000000 in
theorem ref06_Names (l : List Ent) (A : Option Addr) (c : Nat) (w : World) (hl : Ents w (.slice A l.length c) l) (hn : l.length ≤ 1000000) :
    Calls Try.prog 21 #[.slice A l.length c] w fun e w' => ∃ v, e = .returned v ∧ Row w' v (l.map fun x => strV x.1) ∧ Below w.heap.size w w' := by
  have HL := Lib.hid hl
  clear hl
  go_enter Try.func21, Try.ntmps21
  go_wp2_with fail
  go_loopw [3, 4] (fun so si wr => ∃ k : Nat, si = .int .i64 k ∧ k ≤ l.length ∧ wr.ownsRow w.heap.size 9 1 so k ((l.take k).map fun x => strV x.1) ∧ Below w.heap.size w wr) (fun _ si _ => l.length - (intOf si).toNat)
  case atStart => exact ⟨0, rfl, Nat.zero_le _, by simpa using World.ownsRow_nil w w.heap.size 9 1, Below.refl _ _⟩
  case round =>
    obtain ⟨k, rfl, hk, hown, hb⟩ := hrel
    have HO := Lib.hid hown
    have HB := Lib.hid hb
    clear hown hb
    by_cases hlt : k < l.length
    · obtain ⟨b, off, rfl, hbk, hc, hc1, hc2⟩ := (HL.out.below HB.out).at k hlt
      have hst : (l.take (k + 1)).map (fun x => strV x.1) = (l.take k).map (fun x => strV x.1) ++ [strV l[k].1] := by
        rw [List.take_succ_eq_append_getElem hlt, List.map_append]
        rfl
      have HST := Lib.hid hst
      clear hst hc2
      generalize l[k] = x at *
      obtain ⟨v', w', hrun, ho, hgr, _⟩ := append_sl textElem (wr.alloc (.cells #[strV x.1] 9)) w.heap.size 25 u3 k _ (HO.out.alloc _) _ 1 [strV x.1] (sl1 _ _ _) (fun u hu => by simp at hu; subst hu; rfl) (by unfold maxLen; omega) (by omega) (by have := HB.out.size; simp; omega)
      have HO' := Lib.hid ho
      have HB' := Lib.hid ((HB.out.alloc HB.out.size (.cells #[strV x.1] 9)).grown hgr (by have := HB.out.size; simp; omega) (fun q hq => (own_block_ge HO.out q hq).1))
      clear ho hgr
      unfold strV at hrun
      go_wp2_with (at_builtin; refine wpList_append_run rfl _ _ _ rfl _ _ _ _ rfl rfl hrun ?_)
      go_roundw
      case rel => exact ⟨k + 1, by go_num, by omega, by rw [HST.out]; exact HO'.out, HB'.out⟩
      case measure => simp [intOf]; omega
    · have hfin : (l.take k).map (fun x => strV x.1) = l.map fun x => strV x.1 := by rw [List.take_of_length_le (by omega)]
      have HF := Lib.hid hfin
      clear hfin
      go_wp2_with fail
      go_ret
      exact ⟨_, rfl, by rw [← HF.out]; exact Row.of_owns HO.out, HB.out⟩
end Go.Proofs.Ytjeejnjomgcplaa
