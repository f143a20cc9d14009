/- Layer 15, without a program: messages and answers that are taken. -/
import Derived.Test.YtpojhcpkmpbflaaWireLay2
set_option linter.unusedVariables false
namespace Go.Proofs.Ytpojhcpkmpbflaa
open Copyhold

def msg0 : MsgW := ⟨0, 0, 0, 0, 0, 0, call0⟩
structure MsgT where
  a : Int × List UInt8 × Int
  b : Int × List UInt8 × Int
  c : Int × List UInt8 × Int
  d : Int × List UInt8 × Int
  e : Int × List UInt8 × Int
  f : Int × List UInt8 × Int
  g : CallW × List UInt8 × Int
def msgT (s : List UInt8) (er : Int) : MsgT :=
  let a := numSt s er
  let b := numSt a.2.1 a.2.2
  let c := numSt b.2.1 b.2.2
  let d := numSt c.2.1 c.2.2
  let e := numSt d.2.1 d.2.2
  let f := numSt e.2.1 e.2.2
  ⟨a, b, c, d, e, f, callSt f.2.1 f.2.2⟩
def MsgT.out (t : MsgT) : MsgW × List UInt8 × Int := (⟨t.a.1, t.b.1, t.c.1, t.d.1, t.e.1, t.f.1, t.g.1⟩, t.g.2.1, t.g.2.2)
def msgSt (s : List UInt8) (e : Int) : MsgW × List UInt8 × Int := (msgT s e).out

theorem callSt_len (s : List UInt8) (e : Int) : (callSt s e).2.1.length ≤ s.length := (callT_bd s e).1.2.2.2.2.2.2.2
theorem msgT_bd (s : List UInt8) (er : Int) : ((msgT s er).a.2.1.length ≤ s.length ∧ (msgT s er).b.2.1.length ≤ s.length ∧ (msgT s er).c.2.1.length ≤ s.length ∧ (msgT s er).d.2.1.length ≤ s.length ∧ (msgT s er).e.2.1.length ≤ s.length ∧ (msgT s er).f.2.1.length ≤ s.length ∧ (msgT s er).g.2.1.length ≤ s.length) ∧
    OkM s.length (msgSt s er).1 ∧ ((0 ≤ er ∧ er ≤ 5) → 0 ≤ (msgSt s er).2.2 ∧ (msgSt s er).2.2 ≤ 5) := by
  unfold msgSt MsgT.out msgT
  dsimp only
  have h1 := numSt_bd s er
  generalize numSt s er = a at *
  have h2 := numSt_bd a.2.1 a.2.2
  generalize numSt a.2.1 a.2.2 = b at *
  have h3 := numSt_bd b.2.1 b.2.2
  generalize numSt b.2.1 b.2.2 = c at *
  have h4 := numSt_bd c.2.1 c.2.2
  generalize numSt c.2.1 c.2.2 = d at *
  have h5 := numSt_bd d.2.1 d.2.2
  generalize numSt d.2.1 d.2.2 = e at *
  have h6 := numSt_bd e.2.1 e.2.2
  generalize numSt e.2.1 e.2.2 = f at *
  have h7 := callT_bd f.2.1 f.2.2
  have h8 := callSt_len f.2.1 f.2.2
  generalize callSt f.2.1 f.2.2 = g at *
  obtain ⟨k1, k2, k3, k4⟩ := h7.2.1
  refine ⟨⟨by omega, by omega, by omega, by omega, by omega, by omega, by omega⟩, ⟨⟨h1.1, h2.1, h3.1, h4.1, h5.1, h6.1⟩, ⟨k1, by dsimp only; omega, by dsimp only; omega, by dsimp only; omega⟩⟩, fun hh => h7.2.2 (h6.2.2 (h5.2.2 (h4.2.2 (h3.2.2 (h2.2.2 (h1.2.2 hh))))))⟩
theorem numsB_cons (z : Int) (l : List Int) (more : List UInt8) : numsB (z :: l) ++ more = wholeB z ++ (numsB l ++ more) := by simp [numsB, List.append_assoc]
theorem numsB_nil (more : List UInt8) : numsB [] ++ more = more := rfl
theorem msgI_eq (x : MsgW) (more : List UInt8) : msgI x ++ more = wholeB x.kind ++ (wholeB x.client ++ (wholeB x.epoch ++ (wholeB x.seq ++ (wholeB x.n ++ (wholeB x.stamp ++ (callB x.c ++ more)))))) := by
  simp [msgI, numsB, List.append_assoc]
theorem msgSt_laid {s : List UInt8} {er : Int} (hz : (msgSt s er).2.2 = 0) : er = 0 ∧ s = msgI (msgSt s er).1 ++ (msgSt s er).2.1 ∧ OkM 4096 (msgSt s er).1 := by
  have hbd := (msgT_bd s er).2.1
  rw [msgI_eq]
  unfold msgSt MsgT.out msgT at hz hbd ⊢
  dsimp only at hz hbd ⊢
  obtain ⟨z7, l7, m7⟩ := callSt_laid hz
  obtain ⟨z6, l6⟩ := numSt_laid z7
  obtain ⟨z5, l5⟩ := numSt_laid z6
  obtain ⟨z4, l4⟩ := numSt_laid z5
  obtain ⟨z3, l3⟩ := numSt_laid z4
  obtain ⟨z2, l2⟩ := numSt_laid z3
  obtain ⟨z1, l1⟩ := numSt_laid z2
  refine ⟨z1, ?_, ⟨hbd.1, m7⟩⟩
  rw [← l7, ← l6, ← l5, ← l4, ← l3, ← l2]
  exact l1
theorem msgSt_lay (x : MsgW) (h : OkM 4096 x) (more : List UInt8) : msgSt (msgI x ++ more) 0 = (x, more, 0) := by
  obtain ⟨⟨h1, h2, h3, h4, h5, h6⟩, h7⟩ := h
  rw [msgI_eq]
  unfold msgSt MsgT.out msgT
  dsimp only
  rw [numSt_lay _ h1, numSt_lay _ h2, numSt_lay _ h3, numSt_lay _ h4, numSt_lay _ h5, numSt_lay _ h6, callSt_lay _ h7]

/-- what stands behind a letter, if it begins so -/
def behindL (b : UInt8) (l : List UInt8) : Option (List UInt8) := match l with
  | [] => none
  | x :: r => if x = b then some r else none
/-- a sealed text that begins with a letter, opened -/
def openL {α : Type} (bad : α) (b : UInt8) (st : List UInt8 → α × List UInt8 × Int) (l : List UInt8) : α × Int :=
  if (takeS l).2 ≠ 0 then (bad, (takeS l).2) else match behindL b (takeS l).1 with
    | none => (bad, 3)
    | some r => if (st r).2.2 ≠ 0 then (bad, (st r).2.2) else if (st r).2.1 ≠ [] then (bad, 3) else ((st r).1, 0)
def takeMsg (l : List UInt8) : MsgW × Int := openL msg0 109 (fun s => msgSt s 0) l

theorem openL_put {α : Type} (bad : α) (b : UInt8) (st : List UInt8 → α × List UInt8 × Int) (body : List UInt8) (x : α) (h : st body = (x, [], 0)) : openL bad b st (putB (b :: body)) = (x, 0) := by
  unfold openL
  rw [takeS_putB]
  simp [behindL, h]
theorem openL_other {α : Type} (bad : α) (b b' : UInt8) (hb : b' ≠ b) (st : List UInt8 → α × List UInt8 × Int) (body : List UInt8) : openL bad b st (putB (b' :: body)) = (bad, 3) := by
  unfold openL
  rw [takeS_putB]
  simp [behindL, hb]
theorem openL_laid {α : Type} {bad : α} {b : UInt8} {st : List UInt8 → α × List UInt8 × Int} {l : List UInt8} (h : (openL bad b st l).2 = 0) :
    ∃ r, l = putB (b :: r) ∧ st r = ((openL bad b st l).1, [], 0) := by
  unfold openL at h ⊢
  by_cases h1 : (takeS l).2 ≠ 0
  · rw [if_pos h1] at h; exact absurd h h1
  · rw [if_neg h1] at h ⊢
    obtain ⟨_, h2, _⟩ := takeS_laid l (by omega)
    cases hb : behindL b (takeS l).1 with
    | none => rw [hb] at h; exact absurd (show (3 : Int) = 0 from h) (by decide)
    | some r =>
      rw [hb] at h
      dsimp only at h ⊢
      have hl : (takeS l).1 = b :: r := by
        unfold behindL at hb
        split at hb
        · cases hb
        · split at hb
          · rename_i x r' he hx
            simp only [Option.some.injEq] at hb
            rw [he, hb, hx]
          · cases hb
      by_cases h3 : (st r).2.2 ≠ 0
      · rw [if_pos h3] at h; exact absurd h h3
      · rw [if_neg h3] at h ⊢
        by_cases h4 : (st r).2.1 ≠ []
        · rw [if_pos h4] at h; exact absurd (show (3 : Int) = 0 from h) (by decide)
        · rw [if_neg h4]
          refine ⟨r, by rw [← hl, h2], ?_⟩
          have e1 : (st r).2.2 = 0 := by omega
          have e2 : (st r).2.1 = [] := Classical.not_not.1 h4
          exact Prod.ext rfl (Prod.ext e2 e1)
theorem openL_err {α : Type} {bad : α} {b : UInt8} {st : List UInt8 → α × List UInt8 × Int} {l : List UInt8} (h : (openL bad b st l).2 ≠ 0) : (openL bad b st l).1 = bad := by
  unfold openL at h ⊢
  split
  · rfl
  · rename_i h1
    rw [if_neg h1] at h
    split
    · rfl
    · rename_i r hb
      rw [hb] at h
      dsimp only at h
      split
      · rfl
      · rename_i h3
        rw [if_neg h3] at h
        split
        · rfl
        · rename_i h4
          rw [if_neg h4] at h
          exact absurd rfl h
theorem takeMsg_back (x : MsgW) (h : OkM 4096 x) : takeMsg (msgB x) = (x, 0) :=
  openL_put _ _ _ _ _ (by have := msgSt_lay x h []; rwa [List.append_nil] at this)
theorem takeMsg_laid {l : List UInt8} (h : (takeMsg l).2 = 0) : msgB (takeMsg l).1 = l ∧ OkM 4096 (takeMsg l).1 := by
  obtain ⟨r, hl, hs⟩ := openL_laid h
  have h0 : (msgSt r 0).2.2 = 0 := by rw [hs]
  obtain ⟨_, h1, h2⟩ := msgSt_laid h0
  rw [hs] at h1 h2
  simp only [List.append_nil] at h1 h2
  refine ⟨?_, h2⟩
  have : msgI (takeMsg l).1 = r := h1.symm
  rw [msgB, this]
  exact hl.symm
theorem takeMsg_spoilt (x : MsgW) (k : Nat) (b : UInt8) (h : k < (msgB x).length) (hb : b ≠ (msgB x)[k]) : takeMsg ((msgB x).set k b) = (msg0, 4) := by
  unfold takeMsg openL
  have := takeS_spoilt (109 :: msgI x) k b h hb
  rw [msgB, this]
  rfl
theorem takeMsg_ok (l : List UInt8) : OkM 4096 (takeMsg l).1 := by
  by_cases h : (takeMsg l).2 = 0
  · exact (takeMsg_laid h).2
  · have : (takeMsg l).1 = msg0 := openL_err h
    rw [this]
    exact ⟨⟨by simp [msg0, I64], by simp [msg0, I64], by simp [msg0, I64], by simp [msg0, I64], by simp [msg0, I64], by simp [msg0, I64]⟩, ⟨by simp [msg0, call0, I64], by simp [msg0, call0], by simp [msg0, call0], by simp [msg0, call0]⟩⟩

def rep0 : List UInt8 := []
def rsp0 : RspW := ⟨0, 0, 0, 0, 0, 0, 0, 0, 0, [], []⟩
structure RspT where
  a : Int × List UInt8 × Int
  b : Int × List UInt8 × Int
  c : Int × List UInt8 × Int
  d : Int × List UInt8 × Int
  e : Int × List UInt8 × Int
  f : Int × List UInt8 × Int
  g : Int × List UInt8 × Int
  h : Int × List UInt8 × Int
  i : Int × List UInt8 × Int
  j : List UInt8 × List UInt8 × Int
  k : List (List UInt8) × List UInt8 × Int
def rspT (s : List UInt8) (er : Int) : RspT :=
  let a := numSt s er
  let b := numSt a.2.1 a.2.2
  let c := numSt b.2.1 b.2.2
  let d := numSt c.2.1 c.2.2
  let e := numSt d.2.1 d.2.2
  let f := numSt e.2.1 e.2.2
  let g := numSt f.2.1 f.2.2
  let h := numSt g.2.1 g.2.2
  let i := numSt h.2.1 h.2.2
  let j := textSt i.2.1 i.2.2
  ⟨a, b, c, d, e, f, g, h, i, j, namesSt j.2.1 j.2.2⟩
def RspT.out (t : RspT) : RspW × List UInt8 × Int := (⟨t.a.1, t.b.1, t.c.1, t.d.1, t.e.1, t.f.1, t.g.1, t.h.1, t.i.1, t.j.1, t.k.1⟩, t.k.2.1, t.k.2.2)
def rspSt (s : List UInt8) (e : Int) : RspW × List UInt8 × Int := (rspT s e).out
def takeRsp (l : List UInt8) : RspW × Int := openL rsp0 114 (fun s => rspSt s 0) l
theorem rspI_eq (x : RspW) (more : List UInt8) : rspI x ++ more = wholeB x.kind ++ (wholeB x.client ++ (wholeB x.epoch ++ (wholeB x.seq ++ (wholeB x.n ++ (wholeB x.e ++ (wholeB x.a ++ (wholeB x.b ++ (wholeB x.rn ++ (textB x.text ++ (listB x.names ++ more)))))))))) := by
  simp [rspI, numsB, List.append_assoc]
theorem rspSt_laid {s : List UInt8} {er : Int} (hz : (rspSt s er).2.2 = 0) : er = 0 ∧ s = rspI (rspSt s er).1 ++ (rspSt s er).2.1 := by
  rw [rspI_eq]
  unfold rspSt RspT.out rspT at hz ⊢
  dsimp only at hz ⊢
  obtain ⟨z11, l11⟩ := namesSt_laid hz
  obtain ⟨z10, l10, _⟩ := textSt_laid z11
  obtain ⟨z9, l9⟩ := numSt_laid z10
  obtain ⟨z8, l8⟩ := numSt_laid z9
  obtain ⟨z7, l7⟩ := numSt_laid z8
  obtain ⟨z6, l6⟩ := numSt_laid z7
  obtain ⟨z5, l5⟩ := numSt_laid z6
  obtain ⟨z4, l4⟩ := numSt_laid z5
  obtain ⟨z3, l3⟩ := numSt_laid z4
  obtain ⟨z2, l2⟩ := numSt_laid z3
  obtain ⟨z1, l1⟩ := numSt_laid z2
  refine ⟨z1, ?_⟩
  rw [← l11, ← l10, ← l9, ← l8, ← l7, ← l6, ← l5, ← l4, ← l3, ← l2]
  exact l1
def OkRT (x : RspW) : Prop := (I64 x.kind ∧ I64 x.client ∧ I64 x.epoch ∧ I64 x.seq ∧ I64 x.n ∧ I64 x.e ∧ I64 x.a ∧ I64 x.b ∧ I64 x.rn) ∧ x.text.length ≤ 4096 ∧ x.names.length ≤ 256 ∧ ∀ l ∈ x.names, l.length ≤ 32
theorem rspSt_lay (x : RspW) (h : OkRT x) (more : List UInt8) : rspSt (rspI x ++ more) 0 = (x, more, 0) := by
  obtain ⟨⟨h1, h2, h3, h4, h5, h6, h7, h8, h9⟩, h10, h11, h12⟩ := h
  rw [rspI_eq]
  unfold rspSt RspT.out rspT
  dsimp only
  rw [numSt_lay _ h1, numSt_lay _ h2, numSt_lay _ h3, numSt_lay _ h4, numSt_lay _ h5, numSt_lay _ h6, numSt_lay _ h7, numSt_lay _ h8, numSt_lay _ h9, textSt_lay _ h10, namesSt_lay _ h11 h12]
theorem takeRsp_back (x : RspW) (h : OkRT x) : takeRsp (rspB x) = (x, 0) :=
  openL_put _ _ _ _ _ (by have := rspSt_lay x h []; rwa [List.append_nil] at this)
theorem takeRsp_laid {l : List UInt8} (h : (takeRsp l).2 = 0) : rspB (takeRsp l).1 = l := by
  obtain ⟨r, hl, hs⟩ := openL_laid h
  have h0 : (rspSt r 0).2.2 = 0 := by rw [hs]
  obtain ⟨_, h1⟩ := rspSt_laid h0
  rw [hs] at h1
  simp only [List.append_nil] at h1
  have : rspI (takeRsp l).1 = r := h1.symm
  rw [rspB, this]
  exact hl.symm
theorem takeRsp_spoilt (x : RspW) (k : Nat) (b : UInt8) (h : k < (rspB x).length) (hb : b ≠ (rspB x)[k]) : takeRsp ((rspB x).set k b) = (rsp0, 4) := by
  unfold takeRsp openL
  have := takeS_spoilt (114 :: rspI x) k b h hb
  rw [rspB, this]
  rfl
theorem take_cross1 (x : MsgW) : takeRsp (msgB x) = (rsp0, 3) := openL_other _ _ _ (by decide) _ _
theorem take_cross2 (x : RspW) : takeMsg (rspB x) = (msg0, 3) := openL_other _ _ _ (by decide) _ _
theorem take_notboth (l : List UInt8) (h1 : (takeMsg l).2 = 0) (h2 : (takeRsp l).2 = 0) : False := by
  have e1 := (takeMsg_laid h1).1
  have h3 := take_cross1 (takeMsg l).1
  rw [e1] at h3
  rw [h3] at h2
  exact absurd h2 (by decide)
end Go.Proofs.Ytpojhcpkmpbflaa
