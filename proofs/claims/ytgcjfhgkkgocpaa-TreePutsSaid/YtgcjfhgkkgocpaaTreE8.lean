/- tree.place, at, Find. -/
import Derived.Test.YtgcjfhgkkgocpaaTreC8
set_option linter.unusedVariables false
set_option linter.unusedSimpArgs false
namespace Go.Proofs.Ytgcjfhgkkgocpaa
open Go Go.RowKit Copyhold
set_option maxRecDepth 100000 in
set_option maxHeartbeats 4000000 in
theorem at1_spec (x : Nod) : FSpec Try.prog 55 [.agg [aI x.ino, aI x.kind, aI x.links, aS x.text, .sl 2 false (x.l.map entA)]] (aI x.ino) := by
  exact spec_vc (F := Try.f55) 400 (
 .new fun b1 => .r 1 <| .run 3 [b1 = b1] ⟨rfl, trivial⟩ <|
 .fin (x := aI x.ino) (r := aI x.ino) [] trivial (by exact Sub.refl _)) Try.func55 rfl (by kernel_rfl) (by kernel_rfl)
set_option maxRecDepth 100000 in
set_option maxHeartbeats 4000000 in
theorem cmp_spec (x : Nod) (n : Int) : FSpec Try.prog 66 [.agg [aI x.ino, aI x.kind, aI x.links, aS x.text, .sl 2 false (x.l.map entA)], aI n, .dptr [.val (.func (.func 55) #[] #[])]] (aI (cmpD x.ino n)) := by
  exact spec_vc (F := Try.f66) 400 (
 .new fun b1 => .r 1 <| .run 2 [b1 = b1] ⟨rfl, trivial⟩ <|
 .call (at1_spec x) <|
 .r 1 <| .r 4 <| .br 10 (decide (x.ino < n)) (fun q1 => have p1 := decT q1; .r 1 <| .fin (x := aI (-1)) (r := aI (cmpD x.ino n)) [] trivial (by exact Sub.of_eq (congrArg aI (cmp1 (by omega)).symm)))
 <| fun q1 => have p1 := decF q1; .r 4 <| .br 14 (decide (x.ino > n)) (fun q2 => have p2 := decT q2; .r 1 <| .fin (x := aI 1) (r := aI (cmpD x.ino n)) [] trivial (by exact Sub.of_eq (congrArg aI (cmp2 (by omega) (by omega)).symm)))
 <| fun q2 => have p2 := decF q2; .r 1 <| .fin (x := aI 0) (r := aI (cmpD x.ino n)) [] trivial (by exact Sub.of_eq (congrArg aI (cmp3 (by omega) (by omega)).symm))) Try.func66 rfl (by kernel_rfl) (by kernel_rfl)
def BsH (l : List Nod) (n : Int) (i j : Nat) : Prop := i ≤ j ∧ j ≤ l.length ∧ AllTo (fun _ c => c.ino < n) l i ∧ ∀ k c, j ≤ k → l[k]? = some c → ¬ c.ino < n
theorem bs0 (l : List Nod) (n : Int) : BsH l n 0 l.length := ⟨Nat.zero_le _, Nat.le_refl _, AllTo.zero _ _, fun k c hk hc => by have := lt_of_some hc; omega⟩
theorem bs_up {l : List Nod} {n : Int} {i j h : Nat} {x : Nod} (hr : RiseN l) (H : BsH l n i j) (hx : l[h]? = some x) (q : decide (cmpD x.ino n < 0) = true) (hi : i ≤ h := by omega) (hj : h < j := by omega) : BsH l n (h + 1) j := by
  rw [cmp_lt] at q
  have q := of_decide_eq_true q
  refine ⟨hj, H.2.1, fun k c hk hc => ?_, H.2.2.2⟩
  have := hr.le hc hx (by omega)
  show c.ino < n
  omega
theorem bs_dn {l : List Nod} {n : Int} {i j h : Nat} {x : Nod} (hr : RiseN l) (H : BsH l n i j) (hx : l[h]? = some x) (q : decide (cmpD x.ino n < 0) = false) (hi : i ≤ h := by omega) (hj : h < j := by omega) : BsH l n i h := by
  rw [cmp_lt] at q
  have q := of_decide_eq_false q
  refine ⟨hi, by have := H.2.1; omega, H.2.2.1, fun k c hk hc => ?_⟩
  have := hr.le hx hc hk
  omega
theorem bs_end {l : List Nod} {n : Int} {i j : Nat} (H : BsH l n i j) (hij : ¬ i < j) : plN l n = i :=
  placeF_eq (by have := H.1; have := H.2.1; omega) H.2.2.1 (fun x hx => H.2.2.2 i x (by omega) hx)
end Go.Proofs.Ytgcjfhgkkgocpaa
