/- Layer 15, without a program: what is taken keeps its bounds. -/
import Derived.Test.YtpojhcpkmpbflaaWireTr
set_option linter.unusedVariables false
namespace Go.Proofs.Ytpojhcpkmpbflaa
open Copyhold

theorem rspSt_nums (s : List UInt8) (e : Int) : (I64 (rspSt s e).1.kind ∧ I64 (rspSt s e).1.client ∧ I64 (rspSt s e).1.epoch ∧ I64 (rspSt s e).1.seq ∧ I64 (rspSt s e).1.n ∧ I64 (rspSt s e).1.e ∧ I64 (rspSt s e).1.a ∧ I64 (rspSt s e).1.b ∧ I64 (rspSt s e).1.rn) ∧ (rspSt s e).1.text.length ≤ s.length := by
  unfold rspSt RspT.out rspT
  dsimp only
  have h1 := numSt_bd s e
  generalize numSt s e = a at *
  have h2 := numSt_bd a.2.1 a.2.2
  generalize numSt a.2.1 a.2.2 = b at *
  have h3 := numSt_bd b.2.1 b.2.2
  generalize numSt b.2.1 b.2.2 = c at *
  have h4 := numSt_bd c.2.1 c.2.2
  generalize numSt c.2.1 c.2.2 = d at *
  have h5 := numSt_bd d.2.1 d.2.2
  generalize numSt d.2.1 d.2.2 = f at *
  have h6 := numSt_bd f.2.1 f.2.2
  generalize numSt f.2.1 f.2.2 = g at *
  have h7 := numSt_bd g.2.1 g.2.2
  generalize numSt g.2.1 g.2.2 = h at *
  have h8 := numSt_bd h.2.1 h.2.2
  generalize numSt h.2.1 h.2.2 = i at *
  have h9 := numSt_bd i.2.1 i.2.2
  generalize numSt i.2.1 i.2.2 = j at *
  have h10 := textSt_bd j.2.1 j.2.2
  exact ⟨⟨h1.1, h2.1, h3.1, h4.1, h5.1, h6.1, h7.1, h8.1, h9.1⟩, by omega⟩
theorem rsp0_ok (m : Nat) : OkR m rsp0 := ⟨by simp [rsp0, I64], by simp [rsp0], by simp [rsp0]⟩
theorem takeRsp_ok (l : List UInt8) (hl : l.length ≤ 1000000000) : OkR 1000000000 (takeRsp l).1 := by
  by_cases h : (takeRsp l).2 = 0
  · obtain ⟨r, hr, hs⟩ := openL_laid h
    have hn := rspSt_nums r 0
    have h0 : (rspSt r 0).2.2 = 0 := by rw [hs]
    obtain ⟨_, h1⟩ := rspSt_laid h0
    have hq : openL rsp0 114 (fun s => rspSt s 0) l = takeRsp l := rfl
    rw [hq] at hs
    rw [hs] at hn h1
    simp only [List.append_nil] at hn h1
    have e1 : l.length = r.length + 1 + 4 := by rw [hr, putB_len]; rfl
    have e2 : r.length = (rspI (takeRsp l).1).length := by rw [← h1]
    unfold rspI at e2
    simp only [List.length_append] at e2
    have e3 := sum_le_listB (takeRsp l).1.names
    exact ⟨hn.1, by omega, by omega⟩
  · have : (takeRsp l).1 = rsp0 := openL_err h
    rw [this]
    exact rsp0_ok _
theorem takeCall_laid {l : List UInt8} (h : (takeCall l).2.2 = 0) : callB (takeCall l).1 ++ (takeCall l).2.1 = l ∧ OkC 4096 (takeCall l).1 := by
  unfold takeCall at h ⊢
  split at h
  · rename_i h0
    rw [if_pos h0]
    obtain ⟨_, h1, h2⟩ := callSt_laid h0
    exact ⟨h1.symm, h2⟩
  · rename_i h0
    exact absurd h h0
theorem takeCall_bds (l : List UInt8) : OkC l.length (takeCall l).1 ∧ (takeCall l).2.1.length ≤ l.length := by
  unfold takeCall
  split
  · exact ⟨(callT_bd l 0).2.1, callSt_len l 0⟩
  · exact ⟨⟨by simp [call0, I64], by simp [call0], by simp [call0], by simp [call0]⟩, by simp⟩
end Go.Proofs.Ytpojhcpkmpbflaa
