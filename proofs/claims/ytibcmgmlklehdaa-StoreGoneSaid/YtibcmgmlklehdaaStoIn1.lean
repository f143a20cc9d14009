/- slices.Clone of chains as a row anew; store.Install. -/
import Derived.Test.YtibcmgmlklehdaaStoWi
import Derived.Test.YtibcmgmlklehdaaStoIdle
set_option linter.unusedVariables false
set_option linter.unusedSimpArgs false
namespace Go.Proofs.Ytibcmgmlklehdaa
open Go Go.RowKit Copyhold
set_option maxRecDepth 100000 in
set_option maxHeartbeats 4000000 in
theorem cloneH_row (xs : List (List AV)) (hl : xs.length ≤ 100000) (hx : ∀ l ∈ xs, l.length = 2) : RowSpecD Try.prog 49 [.sl 2 false xs] 53 2 (xs) := by
  exact specRow_vc (F := Try.f49) 400 (
 .r 1 <| .r 1 <| .isNil xs fun b1 hnb1 =>
 .br 4 (b1) (fun q1 => have p1 := booT q1; .r 1 <| .rowNil 199 2 53 2 <| .finRow (x := []) (r := xs) [] trivial 199 53 2 (0) (.slice none 0 0) (by exact (hnb1 (by assumption)).symm))
 <| fun q1 => have p1 := booF q1; .lit0 fun V1 => .r 1 <| .app 32 V1 ([] : List (List AV)) xs (by simp <;> omega) (by simp <;> omega) fun V2 =>
 .r 1 <| .finRow (x := ([] : List (List AV)) ++ xs) (r := xs) [] trivial 5 53 2 (([] : List (List AV)).length + xs.length) V2 (by simp)) Try.func49 rfl (by kernel_rfl) (by kernel_rfl)
theorem there_some {l : List Chn} {n : Int} (h : thereD l n = true) : ∃ c, l[placeD l n]? = some c ∧ c.ino = n := by
  unfold thereD at h
  split at h
  · rename_i c hc
    exact ⟨c, hc, by simpa using h⟩
  · cases h
theorem there_lt {l : List Chn} {n : Int} (h : thereD l n = true) : placeD l n < l.length := by
  obtain ⟨c, hc, _⟩ := there_some h
  exact lt_of_some hc
theorem place_le (l : List Chn) (n : Int) : placeD l n ≤ l.length := by
  have h := congrArg List.length (List.takeWhile_append_dropWhile (p := fun c : Chn => decide (c.ino < n)) (l := l))
  rw [List.length_append] at h
  unfold placeD; omega
def baseD (r : List Ver) (st : Int) : List Ver := match r[r.length - 1]? with
  | some v => if v.stamp = st then r.take (r.length - 1) else r
  | none => r
theorem base_nil (st : Int) : baseD [] st = [] := rfl
theorem base_yes {r : List Ver} {st : Int} {v : Ver} (h : r[r.length - 1]? = some v) (e : v.stamp = st) : baseD r st = r.take (r.length - 1) := by unfold baseD; rw [h]; exact if_pos e
theorem base_no {r : List Ver} {st : Int} {v : Ver} (h : r[r.length - 1]? = some v) (e : ¬ v.stamp = st) : baseD r st = r := by unfold baseD; rw [h]; exact if_neg e
theorem base_le (r : List Ver) (st : Int) : (baseD r st).length ≤ r.length := by
  unfold baseD
  split
  · split
    · rw [List.length_take]; omega
    · exact Nat.le_refl _
  · exact Nat.le_refl _
def putD (l : List Chn) (st n : Int) (v : Ver) : List Chn :=
  if thereD l n then (match l[placeD l n]? with | some c => l.set (placeD l n) ⟨c.ino, baseD c.l st ++ [v]⟩ | none => l)
  else l.take (placeD l n) ++ ⟨n, [v]⟩ :: l.drop (placeD l n)
theorem put_there {l : List Chn} {st n : Int} {v : Ver} {c : Chn} (h : thereD l n = true) (hc : l[placeD l n]? = some c) : putD l st n v = l.set (placeD l n) ⟨c.ino, baseD c.l st ++ [v]⟩ := by
  unfold putD; rw [if_pos h, hc]
theorem put_anew {l : List Chn} {st n : Int} {v : Ver} (h : thereD l n = false) : putD l st n v = l.take (placeD l n) ++ ⟨n, [v]⟩ :: l.drop (placeD l n) := by
  unfold putD; rw [if_neg (by rw [h]; simp)]
theorem put_len (l : List Chn) (st n : Int) (v : Ver) : (putD l st n v).length ≤ l.length + 1 := by
  unfold putD
  split
  · split
    · simp
    · omega
  · have := place_le l n
    simp; omega
def instL (l : List Chn) (st : Int) (cs : List Chg) (k : Nat) : List Chn := (cs.take k).foldl (fun l c => putD l st c.ino (versionD c st)) l
theorem instL_step {l : List Chn} {st : Int} {cs : List Chg} {k : Nat} {c : Chg} (h : cs[k]? = some c) : instL l st cs (k + 1) = putD (instL l st cs k) st c.ino (versionD c st) := by
  unfold instL; rw [take_step h, List.foldl_append]; rfl
theorem instL_len (l : List Chn) (st : Int) (cs : List Chg) : ∀ k, (instL l st cs k).length ≤ l.length + k
  | 0 => by simp [instL]
  | k + 1 => by
    have ih := instL_len l st cs k
    cases hc : cs[k]? with
    | none =>
      have e : instL l st cs (k + 1) = instL l st cs k := by
        have hk := List.getElem?_eq_none_iff.1 hc
        unfold instL
        rw [List.take_of_length_le (by omega), List.take_of_length_le hk]
      rw [e]; omega
    | some c =>
      rw [instL_step hc]
      have := put_len (instL l st cs k) st c.ino (versionD c st)
      omega
end Go.Proofs.Ytibcmgmlklehdaa
