/- Layer 15, without a program: messages and answers that are taken, number by number. -/
import Derived.Test.YtpojhcpkmpbflaaWireP4
set_option linter.unusedVariables false
namespace Go.Proofs.Ytpojhcpkmpbflaa
open Copyhold

theorem callSt_bad {s : List UInt8} {e : Int} (h : e ≠ 0) : (callSt s e).2.2 = e := by
  unfold callSt CallT.out callT
  dsimp only
  simp only [numSt, textSt, stP_bad h]
def endMsg (r : List UInt8) : MsgW × Int :=
  if (numsT 6 r).2.2 ≠ 0 then (msg0, (numsT 6 r).2.2) else if (takeCall (numsT 6 r).2.1).2.2 ≠ 0 then (msg0, (takeCall (numsT 6 r).2.1).2.2) else if (takeCall (numsT 6 r).2.1).2.1 ≠ [] then (msg0, 3)
  else (⟨(numsT 6 r).1.getD 0 0, (numsT 6 r).1.getD 1 0, (numsT 6 r).1.getD 2 0, (numsT 6 r).1.getD 3 0, (numsT 6 r).1.getD 4 0, (numsT 6 r).1.getD 5 0, (takeCall (numsT 6 r).2.1).1⟩, 0)
theorem endMsg_st (r : List UInt8) : endMsg r = if (msgSt r 0).2.2 ≠ 0 then (msg0, (msgSt r 0).2.2) else if (msgSt r 0).2.1 ≠ [] then (msg0, 3) else ((msgSt r 0).1, 0) := by
  have h0 : stL 6 r 0 = ([(msgT r 0).a.1, (msgT r 0).b.1, (msgT r 0).c.1, (msgT r 0).d.1, (msgT r 0).e.1, (msgT r 0).f.1], (msgT r 0).f.2) := rfl
  have hg : (msgT r 0).g = callSt (msgT r 0).f.2.1 (msgT r 0).f.2.2 := rfl
  unfold endMsg
  rw [numsT_st, h0]
  unfold msgSt MsgT.out
  dsimp only
  clear h0
  generalize msgT r 0 = t at *
  obtain ⟨a, b, c, d, e, f, g⟩ := t
  dsimp only at *
  subst hg
  by_cases h : f.2.2 = 0
  · simp only [h, if_true]
    simp only [ne_eq, not_true_eq_false, if_false, List.getD_cons_zero, List.getD_cons_succ]
    rw [takeCall_st]
    by_cases h2 : (callSt f.2.1 0).2.2 = 0
    · simp only [h2, if_true]
    · simp only [h2, if_false]
      simp
  · simp only [h, if_false]
    rw [callSt_bad h]
    simp [h]
theorem takeMsg_nums (l : List UInt8) : takeMsg l = if (takeS l).2 ≠ 0 then (msg0, (takeS l).2) else match behindL 109 (takeS l).1 with
    | none => (msg0, 3)
    | some r => endMsg r := by
  unfold takeMsg openL
  by_cases h : (takeS l).2 ≠ 0
  · rw [if_pos h, if_pos h]
  · rw [if_neg h, if_neg h]
    cases behindL 109 (takeS l).1 with
    | none => rfl
    | some r => exact (endMsg_st r).symm

def endRsp (r : List UInt8) : RspW × Int :=
  if (numsT 9 r).2.2 ≠ 0 then (rsp0, (numsT 9 r).2.2) else if (takeText (numsT 9 r).2.1 4096).2.2 ≠ 0 then (rsp0, (takeText (numsT 9 r).2.1 4096).2.2)
  else if (takeList (takeText (numsT 9 r).2.1 4096).2.1 256 32).2.2 ≠ 0 then (rsp0, (takeList (takeText (numsT 9 r).2.1 4096).2.1 256 32).2.2)
  else if (takeList (takeText (numsT 9 r).2.1 4096).2.1 256 32).2.1 ≠ [] then (rsp0, 3)
  else (⟨(numsT 9 r).1.getD 0 0, (numsT 9 r).1.getD 1 0, (numsT 9 r).1.getD 2 0, (numsT 9 r).1.getD 3 0, (numsT 9 r).1.getD 4 0, (numsT 9 r).1.getD 5 0, (numsT 9 r).1.getD 6 0, (numsT 9 r).1.getD 7 0, (numsT 9 r).1.getD 8 0, (takeText (numsT 9 r).2.1 4096).1, (takeList (takeText (numsT 9 r).2.1 4096).2.1 256 32).1⟩, 0)
theorem endRsp_st (r : List UInt8) : endRsp r = if (rspSt r 0).2.2 ≠ 0 then (rsp0, (rspSt r 0).2.2) else if (rspSt r 0).2.1 ≠ [] then (rsp0, 3) else ((rspSt r 0).1, 0) := by
  have h0 : stL 9 r 0 = ([(rspT r 0).a.1, (rspT r 0).b.1, (rspT r 0).c.1, (rspT r 0).d.1, (rspT r 0).e.1, (rspT r 0).f.1, (rspT r 0).g.1, (rspT r 0).h.1, (rspT r 0).i.1], (rspT r 0).i.2) := rfl
  have hj : (rspT r 0).j = textSt (rspT r 0).i.2.1 (rspT r 0).i.2.2 := rfl
  have hk : (rspT r 0).k = namesSt (rspT r 0).j.2.1 (rspT r 0).j.2.2 := rfl
  unfold endRsp
  rw [numsT_st, h0]
  unfold rspSt RspT.out
  dsimp only
  clear h0
  generalize rspT r 0 = t at *
  obtain ⟨a, b, c, d, e, f, g, h, i, j, k⟩ := t
  dsimp only at *
  subst hk hj
  by_cases h : i.2.2 = 0
  · simp only [h, if_true]
    simp only [ne_eq, not_true_eq_false, if_false, List.getD_cons_zero, List.getD_cons_succ, textSt, namesSt, stP_zero]
    by_cases h2 : (takeText i.2.1 4096).2.2 = 0
    · simp only [h2, not_true_eq_false, if_false, stP_zero]
    · simp only [stP_bad h2, h2]
      simp
  · simp only [h, if_false]
    simp only [textSt, namesSt, stP_bad h]
    simp [h]
theorem takeRsp_nums (l : List UInt8) : takeRsp l = if (takeS l).2 ≠ 0 then (rsp0, (takeS l).2) else match behindL 114 (takeS l).1 with
    | none => (rsp0, 3)
    | some r => endRsp r := by
  unfold takeRsp openL
  by_cases h : (takeS l).2 ≠ 0
  · rw [if_pos h, if_pos h]
  · rw [if_neg h, if_neg h]
    cases behindL 114 (takeS l).1 with
    | none => rfl
    | some r => exact (endRsp_st r).symm
/-- what stands behind the letter of a sealed text -/
def begunT (b : UInt8) (l : List UInt8) : List UInt8 × Int :=
  if (takeS l).2 ≠ 0 then ([], (takeS l).2) else match behindL b (takeS l).1 with
    | none => ([], 3)
    | some r => (r, 0)
theorem takeMsg_begun (l : List UInt8) : takeMsg l = if (begunT 109 l).2 ≠ 0 then (msg0, (begunT 109 l).2) else endMsg (begunT 109 l).1 := by
  rw [takeMsg_nums]
  unfold begunT
  by_cases h : (takeS l).2 ≠ 0
  · rw [if_pos h, if_pos h, if_pos h]
  · rw [if_neg h, if_neg h]
    cases behindL 109 (takeS l).1 with
    | none => rfl
    | some r => rfl
theorem takeRsp_begun (l : List UInt8) : takeRsp l = if (begunT 114 l).2 ≠ 0 then (rsp0, (begunT 114 l).2) else endRsp (begunT 114 l).1 := by
  rw [takeRsp_nums]
  unfold begunT
  by_cases h : (takeS l).2 ≠ 0
  · rw [if_pos h, if_pos h, if_pos h]
  · rw [if_neg h, if_neg h]
    cases behindL 114 (takeS l).1 with
    | none => rfl
    | some r => rfl
theorem begunT_len (b : UInt8) (l : List UInt8) : (begunT b l).1.length ≤ l.length := by
  unfold begunT
  have := (takeS_bd l).2.2
  split
  · simp
  · split
    · simp
    · rename_i r h
      have : r.length ≤ (takeS l).1.length := by
        generalize (takeS l).1 = x at *
        cases x with
        | nil => cases h
        | cons y t =>
          unfold behindL at h
          dsimp only at h
          split at h
          · simp only [Option.some.injEq] at h
            subst h
            simp
          · cases h
      dsimp only
      omega
end Go.Proofs.Ytpojhcpkmpbflaa
