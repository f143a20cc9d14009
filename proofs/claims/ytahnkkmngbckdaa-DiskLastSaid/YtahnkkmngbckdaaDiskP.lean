/- Disks, as plain mathematics: sectors, writes, what is done. -/
import Derived.Test.YtahnkkmngbckdaaKit
set_option linter.unusedVariables false
namespace Copyhold.Disk
open Go Go.RowKit Copyhold

abbrev PutW := Int × List UInt8
structure DiskW where
  kept : List (List UInt8)
  w : List PutW
  off : Bool
deriving DecidableEq

def padL (s : List UInt8) : List UInt8 := s ++ List.replicate (64 - s.length) 0
theorem padL_len (s : List UInt8) (h : s.length ≤ 64) : (padL s).length = 64 := by simp [padL]; omega
def thereB (n : Nat) (i : Int) : Bool := decide (0 ≤ i) && decide (i < n)
theorem thereB_iff (n : Nat) (i : Int) : thereB n i = true ↔ 0 ≤ i ∧ i < n := by simp [thereB]
/-- the writes that a rule lets through, from place i on -/
def lets (n : Nat) (p : Nat → PutW → Bool) : Nat → List PutW → List PutW
  | _, [] => []
  | i, w :: ws => if thereB n w.1 && p i w then w :: lets n p (i + 1) ws else lets n p (i + 1) ws
theorem lets_append (n : Nat) (p : Nat → PutW → Bool) (a b : List PutW) (i : Nat) : lets n p i (a ++ b) = lets n p i a ++ lets n p (i + a.length) b := by
  induction a generalizing i with
  | nil => simp [lets]
  | cons w ws ih =>
    simp only [List.cons_append, lets, ih, List.length_cons]
    rw [show i + 1 + ws.length = i + (ws.length + 1) from by omega]
    split <;> rfl
theorem lets_step (n : Nat) (p : Nat → PutW → Bool) (ws : List PutW) (k : Nat) (h : k < ws.length) :
    lets n p 0 (ws.take (k + 1)) = lets n p 0 (ws.take k) ++ (if thereB n ws[k].1 && p k ws[k] then [ws[k]] else []) := by
  rw [List.take_succ_eq_append_getElem h, lets_append, Nat.zero_add, List.length_take, Nat.min_eq_left (by omega)]
  simp only [lets]
theorem lets_len (n : Nat) (p : Nat → PutW → Bool) (ws : List PutW) (i : Nat) : (lets n p i ws).length ≤ ws.length := by
  induction ws generalizing i with
  | nil => simp [lets]
  | cons w ws ih =>
    simp only [lets]
    split
    · simp; exact ih _
    · have := ih (i + 1); simp; omega
theorem lets_there (n : Nat) (p : Nat → PutW → Bool) (ws : List PutW) (i : Nat) : ∀ x ∈ lets n p i ws, 0 ≤ x.1 ∧ x.1 < n := by
  induction ws generalizing i with
  | nil => simp [lets]
  | cons w ws ih =>
    intro x hx
    simp only [lets] at hx
    split at hx
    · rename_i hw
      rcases List.mem_cons.1 hx with rfl | hx
      · simp only [Bool.and_eq_true] at hw; exact (thereB_iff _ _).1 hw.1
      · exact ih _ x hx
    · exact ih _ x hx
theorem lets_prefix (n : Nat) (p : Nat → PutW → Bool) (ws : List PutW) (k : Nat) : lets n p 0 (ws.take k) <+: lets n p 0 ws := by
  have h := lets_append n p (ws.take k) (ws.drop k) 0
  rw [List.take_append_drop] at h
  rw [h]
  exact List.prefix_append _ _
/-- writes are done -/
def doneL (l : List (List UInt8)) (ws : List PutW) : List (List UInt8) := ws.foldl (fun l p => l.set p.1.toNat p.2) l
theorem doneL_append (l : List (List UInt8)) (a b : List PutW) : doneL l (a ++ b) = doneL (doneL l a) b := by simp [doneL]
theorem doneL_len (l : List (List UInt8)) (ws : List PutW) : (doneL l ws).length = l.length := by
  induction ws generalizing l with
  | nil => rfl
  | cons w ws ih => show (doneL _ ws).length = _; rw [ih]; simp
/-- a disk that is right -/
def Right (d : DiskW) : Prop := (1 ≤ d.kept.length ∧ d.kept.length ≤ 4096) ∧ (∀ l ∈ d.kept, l.length = 64) ∧ ∀ p ∈ d.w, (0 ≤ p.1 ∧ p.1 < d.kept.length) ∧ p.2.length = 64
instance (d : DiskW) : Decidable (Right d) := inferInstanceAs (Decidable (_ ∧ _ ∧ _))
def imageL (d : DiskW) : List (List UInt8) := doneL d.kept (lets d.kept.length (fun _ _ => true) 0 d.w)
def keepP (keep : List Bool) (i : Nat) (_ : PutW) : Bool := keep.getD i false
def crashL (d : DiskW) (keep : List Bool) : List (List UInt8) := doneL d.kept (lets d.kept.length (keepP keep) 0 d.w)
theorem lets_all {n : Nat} {ws : List PutW} (h : ∀ p ∈ ws, 0 ≤ p.1 ∧ p.1 < n) (i : Nat) : lets n (fun _ _ => true) i ws = ws := by
  induction ws generalizing i with
  | nil => rfl
  | cons w ws ih =>
    have h1 := (thereB_iff _ _).2 (h w List.mem_cons_self)
    rw [lets, if_pos (by rw [h1]; rfl), ih (fun p hp => h p (List.mem_cons_of_mem _ hp))]
theorem Right.there {d : DiskW} (h : Right d) : ∀ p ∈ d.w, 0 ≤ p.1 ∧ p.1 < d.kept.length := fun p hp => (h.2.2 p hp).1
theorem Right.image {d : DiskW} (h : Right d) : imageL d = doneL d.kept d.w := by rw [imageL, lets_all h.there]
/-- what lies at a place behind writes: as it was, or written -/
theorem doneL_at (l : List (List UInt8)) (ws : List PutW) (k : Nat) (hk : k < l.length) :
    (doneL l ws)[k]? = l[k]? ∨ ∃ p ∈ ws, p.1.toNat = k ∧ (doneL l ws)[k]? = some p.2 := by
  induction ws generalizing l with
  | nil => exact .inl rfl
  | cons w ws ih =>
    rcases ih (l.set w.1.toNat w.2) (by simpa using hk) with h | ⟨p, hp, h1, h2⟩
    · by_cases hw : w.1.toNat = k
      · right
        refine ⟨w, List.mem_cons_self, hw, ?_⟩
        show (doneL (l.set w.1.toNat w.2) ws)[k]? = _
        rw [h, hw, List.getElem?_set_self hk]
      · left
        show (doneL (l.set w.1.toNat w.2) ws)[k]? = _
        rw [h, List.getElem?_set_ne hw]
    · exact .inr ⟨p, List.mem_cons_of_mem _ hp, h1, h2⟩
theorem doneL_all64 {l : List (List UInt8)} {ws : List PutW} (h : ∀ x ∈ l, x.length = 64) (hw : ∀ p ∈ ws, p.2.length = 64) : ∀ x ∈ doneL l ws, x.length = 64 := by
  induction ws generalizing l with
  | nil => exact h
  | cons w ws ih =>
    show ∀ x ∈ doneL (l.set w.1.toNat w.2) ws, x.length = 64
    refine ih (fun x hx => ?_) fun p hp => hw p (List.mem_cons_of_mem _ hp)
    rcases List.mem_or_eq_of_mem_set hx with hx | rfl
    · exact h x hx
    · exact hw w List.mem_cons_self
theorem lets_mem {n : Nat} {p : Nat → PutW → Bool} {ws : List PutW} {i : Nat} : ∀ x ∈ lets n p i ws, x ∈ ws := by
  induction ws generalizing i with
  | nil => simp [lets]
  | cons w ws ih =>
    intro x hx
    simp only [lets] at hx
    split at hx
    · rcases List.mem_cons.1 hx with rfl | hx
      · exact List.mem_cons_self
      · exact List.mem_cons_of_mem _ (ih x hx)
    · exact List.mem_cons_of_mem _ (ih x hx)
end Copyhold.Disk
