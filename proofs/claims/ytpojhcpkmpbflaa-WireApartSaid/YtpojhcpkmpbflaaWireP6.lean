/- Layer 15, without a program: unlike messages have unlike bytes; so have unlike answers. -/
import Derived.Test.YtpojhcpkmpbflaaWireP3
set_option linter.unusedVariables false
namespace Go.Proofs.Ytpojhcpkmpbflaa
open Copyhold

theorem parse_inj {α : Type} {t : List UInt8 → α × List UInt8 × Int} {A B : List UInt8} {x y : α} (h : Parses t A x) (k : Parses t B y) {s u : List UInt8} (e : A ++ s = B ++ u) : x = y ∧ s = u := by
  have h1 := h.1 s
  rw [e, k.1 u] at h1
  simp only [Prod.mk.injEq, and_true] at h1
  exact ⟨h1.1.symm, h1.2.symm⟩
theorem list_inj {a b : List (List UInt8)} (ha : a.length ≤ 300) (hb : b.length ≤ 300) (la : ∀ l ∈ a, l.length ≤ 1000000000) (lb : ∀ l ∈ b, l.length ≤ 1000000000) (e : listB a = listB b) : a = b := by
  have h1 := takeList_listB a 300 1000000000 [] (by omega) (by decide) (fun t ht => by have := la t ht; omega)
  have h2 := takeList_listB b 300 1000000000 [] (by omega) (by decide) (fun t ht => by have := lb t ht; omega)
  rw [List.append_nil, if_neg (by omega)] at h1 h2
  rw [e, h2] at h1
  simp only [Prod.mk.injEq, and_true] at h1
  exact h1.symm
theorem msg_inj {x y : MsgW} (hx : OkM 4096 x) (hy : OkM 4096 y) : msgB x = msgB y ↔ x = y := by
  constructor
  · intro h
    have h1 := takeMsg_back x hx
    rw [h, takeMsg_back y hy] at h1
    simp only [Prod.mk.injEq, and_true] at h1
    exact h1.symm
  · intro h; rw [h]
def OkR3 (x : RspW) : Prop := (I64 x.kind ∧ I64 x.client ∧ I64 x.epoch ∧ I64 x.seq ∧ I64 x.n ∧ I64 x.e ∧ I64 x.a ∧ I64 x.b ∧ I64 x.rn) ∧ x.text.length ≤ 1000000000 ∧ x.names.length ≤ 300 ∧ ∀ l ∈ x.names, l.length ≤ 1000000000
theorem rsp_inj {x y : RspW} (hx : OkR3 x) (hy : OkR3 y) : rspB x = rspB y ↔ x = y := by
  constructor
  · intro h
    have h1 := takeS_putB (114 :: rspI x)
    rw [show putB (114 :: rspI x) = rspB x from rfl, h, show rspB y = putB (114 :: rspI y) from rfl, takeS_putB] at h1
    simp only [Prod.mk.injEq, and_true, List.cons.injEq, true_and] at h1
    have h2 := rspI_eq x []
    have h3 := rspI_eq y []
    rw [List.append_nil] at h2 h3
    have e0 := h3.symm.trans (h1.trans h2)
    obtain ⟨⟨x1, x2, x3, x4, x5, x6, x7, x8, x9⟩, x10, x11, x12⟩ := hx
    obtain ⟨⟨y1, y2, y3, y4, y5, y6, y7, y8, y9⟩, y10, y11, y12⟩ := hy
    obtain ⟨f1, e1⟩ := parse_inj (takeWhole_parses _ y1) (takeWhole_parses _ x1) e0
    obtain ⟨f2, e2⟩ := parse_inj (takeWhole_parses _ y2) (takeWhole_parses _ x2) e1
    obtain ⟨f3, e3⟩ := parse_inj (takeWhole_parses _ y3) (takeWhole_parses _ x3) e2
    obtain ⟨f4, e4⟩ := parse_inj (takeWhole_parses _ y4) (takeWhole_parses _ x4) e3
    obtain ⟨f5, e5⟩ := parse_inj (takeWhole_parses _ y5) (takeWhole_parses _ x5) e4
    obtain ⟨f6, e6⟩ := parse_inj (takeWhole_parses _ y6) (takeWhole_parses _ x6) e5
    obtain ⟨f7, e7⟩ := parse_inj (takeWhole_parses _ y7) (takeWhole_parses _ x7) e6
    obtain ⟨f8, e8⟩ := parse_inj (takeWhole_parses _ y8) (takeWhole_parses _ x8) e7
    obtain ⟨f9, e9⟩ := parse_inj (takeWhole_parses _ y9) (takeWhole_parses _ x9) e8
    obtain ⟨f10, e10⟩ := parse_inj (takeText_parses _ 1000000000 (by omega) (by omega)) (takeText_parses _ 1000000000 (by omega) (by omega)) e9
    rw [List.append_nil, List.append_nil] at e10
    have f11 := list_inj y11 x11 y12 x12 e10
    obtain ⟨a1, a2, a3, a4, a5, a6, a7, a8, a9, a10, a11⟩ := x
    obtain ⟨b1, b2, b3, b4, b5, b6, b7, b8, b9, b10, b11⟩ := y
    simp only at f1 f2 f3 f4 f5 f6 f7 f8 f9 f10 f11
    subst f1 f2 f3 f4 f5 f6 f7 f8 f9 f10 f11
    rfl
  · intro h; rw [h]
end Go.Proofs.Ytpojhcpkmpbflaa
