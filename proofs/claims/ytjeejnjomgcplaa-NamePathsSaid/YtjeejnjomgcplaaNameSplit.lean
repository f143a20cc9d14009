/- name.parts and name.Split (a range over a function): they answer as the document says; old memory is as it was. -/
import Derived.Test.YtjeejnjomgcplaaNameIter
import Derived.Test.YtjeejnjomgcplaaNameCut
set_option linter.unusedVariables false
namespace Go.Proofs.Ytjeejnjomgcplaa
open Go.RowKit Go.Shelf Copyhold Copyhold.Name
attribute [local go_sem] Oper.semAt_some

abbrev Txt : Type := { x : List UInt8 // x.length ≤ 140737488351232 }

theorem abides_drewN {β : Type} {B : Nat} {J : β → World → Prop} (h : AbidesFrom B J) {s : β} {W : World} (n : Nat) (hs : J s W) : J s (W.drewN n) :=
  h s W _ none hs ⟨rfl, rfl, rfl, Nat.le_refl _, fun _ _ _ => rfl⟩ (fun r e => by cases e)

def leftOf (rest : List UInt8) (more : Bool) : List (List UInt8) := if more then namesP rest else []

set_option maxRecDepth 100000 in
set_option maxHeartbeats 4000000 in
theorem parts1_in (n : Nat) (hn : 1 ≤ n) (l Bs n₀ : Nat) (p : List UInt8) (hp : p.length ≤ 140737488351232) (J Jx : List Txt → World → Prop)
    (hY : ∀ pre x W, J pre W → pre.length < p.length + 1 → YieldAt Fence.wide (n - 1) Try.prog l #[.string ⟨x.1.toArray⟩] W fun e W' =>
      (e = .returned (.bool true) ∧ J (pre ++ [x]) W' ∧ Below n₀ W W') ∨ (e = .returned (.bool false) ∧ Jx (pre ++ [x]) W'))
    (hJd : ∀ pre W m, J pre W → J pre (W.drewN m))
    (W : World) (hBs : W.cell? ⟨Bs, 0, none⟩ = some (.string ⟨p.toArray⟩)) (h0 : J [] W) :
    CallsIn Fence.wide n Try.prog 34 #[.func (.yield l) #[] #[], .pointer (some ⟨Bs, 0, none⟩)] W fun e W' => (∃ v, e = .returned v) ∧
      ((∃ ys : List Txt, ys.map (·.1) = namesP p ∧ J ys W') ∨ (∃ pre : List Txt, pre.map (·.1) <+: namesP p ∧ Jx pre W')) := by
  refine callsIn_of_wp Try.func34 rfl trivial ?_ rfl
  simp only [Try.ntmps34, List.size_toArray, List.length_cons, List.length_nil, Nat.reduceAdd, Nat.reduceSub, Array.replicate_succ, Array.replicate_zero, List.push_toArray, List.append_toArray, List.nil_append, List.cons_append]
  gi_wp2
  gi_loopw [3, 4] (fun sr sm wr => ∃ (pre : List Txt) (rest : List UInt8) (more : Bool), sr = .string ⟨rest.toArray⟩ ∧ sm = .bool more ∧ rest.length ≤ p.length ∧ pre.map (·.1) ++ leftOf rest more = namesP p ∧ J pre wr)
    (fun sr sm _ => match sm, sr with | .bool true, .string s => s.size + 1 | _, _ => 0)
  case atStart => exact ⟨[], p, true, rfl, rfl, Nat.le_refl _, by simp [leftOf], h0⟩
  case round =>
    obtain ⟨pre, rest, more, rfl, rfl, hrl, hnm, hJs⟩ := hrel
    cases more
    · have hfin : pre.map (·.1) = namesP p := by simpa [leftOf] using hnm
      have HF := Lib.hid hfin
      clear hnm hfin
      gi_wp2
      go_end0
      exact ⟨⟨_, rfl⟩, .inl ⟨_, HF.out, hJs⟩⟩
    · have hst := names_step rest
      have hcl := cutAt_len rest
      have hsp := cutAt_spec rest
      have HCUT := Lib.hid (strings_Cut rest wr (by omega))
      unfold cutR at HCUT
      have hln := len_names p
      have HNM : Hid (pre.map (·.1) ++ namesP rest = namesP p) := Lib.hid (by simpa [leftOf] using hnm)
      have hJd' := fun m => hJd _ _ m hJs
      have HJD := Lib.hid hJd'
      generalize (cutAt rest).1 = a at *
      generalize (cutAt rest).2.1 = b at *
      generalize (cutAt rest).2.2 = t at *
      have HST := Lib.hid hst
      have HCL := Lib.hid hcl
      have hal : a.length ≤ 140737488351232 := by have := hcl.1; omega
      have hbl : b.length ≤ rest.length := by
        cases t
        · have := hsp.2; simp at this; rw [this.2]; simp
        · have := hcl.2 rfl; omega
      clear hst hcl hsp hnm hJd' hJs
      by_cases ha : counts a = true
      · have hapos : pre.length < p.length + 1 := by
          have h1 := congrArg List.length HNM.out
          rw [HST.out, if_pos ha] at h1
          simp at h1
          omega
        have e1 : (a == []) = false := by
          cases a with
          | nil => simp [counts] at ha
          | cons x y => rfl
        have e2 : (a == [46]) = false := by
          rw [beq_eq_false_iff_ne]
          rintro rfl
          simp [counts] at ha
        have HA : Hid (pre.map (·.1) ++ [a] ++ leftOf b t = namesP p) := Lib.hid (by rw [← HNM.out, HST.out, if_pos ha, leftOf, List.append_assoc])
        clear ha
        gi_wp2_with (refine ⟨trivial, ?_⟩; gi_at_call 35; refine (callsIn_wide.2 HCUT.out).mono ?_; rintro e w1 ⟨rfl, m, rfl⟩; obtain ⟨fn, tmps, assign, body, hy, hR⟩ := hY _ ⟨a, hal⟩ _ (HJD.out m) hapos; have HR := Lib.hid hR; clear hR)
        refine HR.out.mono ?_
        rintro e W3 (⟨rfl, hJ3, hk3⟩ | ⟨rfl, hJx3⟩)
        · gi_wp2
          go_roundw
          case rel => exact ⟨pre ++ [⟨a, hal⟩], b, t, rfl, rfl, by omega, by simpa using HA.out, hJ3⟩
          case measure =>
            have := HCL.out.2
            cases t
            · simp
            · have := this rfl
              simp [ByteArray.size]
              omega
        · gi_wp2
          refine bodyPost_ret (results_none rfl _ _ _) rfl ?_
          refine ⟨⟨_, rfl⟩, .inr ⟨pre ++ [⟨a, hal⟩], ?_, hJx3⟩⟩
          exact ⟨leftOf b t, by simpa using HA.out⟩
      · have hca : counts a = false := by simpa using ha
        have HA : Hid (pre.map (·.1) ++ leftOf b t = namesP p) := Lib.hid (by rw [← HNM.out, HST.out, if_neg ha, leftOf, List.nil_append])
        have hor : a = [] ∨ a = [46] := by
          simp only [counts, Bool.and_eq_false_iff, Bool.not_eq_false', beq_iff_eq] at hca
          exact hca
        clear ha hca
        rcases hor with rfl | rfl
        all_goals
          gi_wp2_with (refine ⟨trivial, ?_⟩; gi_at_call 35; refine (callsIn_wide.2 HCUT.out).mono ?_; rintro e w1 ⟨rfl, m, rfl⟩)
          refine ⟨fun _ h => (by cases h), ?_⟩
          gi_wp2
          go_roundw
          case rel => exact ⟨pre, b, t, rfl, rfl, by omega, HA.out, HJD.out m⟩
          case measure =>
            have := HCL.out.2
            cases t
            · simp
            · have := this rfl
              simp [ByteArray.size]
              omega

theorem parts_in (n : Nat) (p : List UInt8) (w : World) :
    CallsIn Fence.wide n Try.prog 29 #[.string ⟨p.toArray⟩] w fun e w' => e = .returned (.func (.func 34) #[] #[.pointer (some ⟨w.heap.size, 0, none⟩)]) ∧ w' = w.alloc (.cells #[.string ⟨p.toArray⟩] 9) := by
  refine callsIn_of_wp Try.func29 rfl trivial ?_ rfl
  simp only [Try.ntmps29, List.size_toArray, List.length_cons, List.length_nil, Nat.reduceAdd, Nat.reduceSub, Array.replicate_succ, Array.replicate_zero, List.push_toArray, List.append_toArray, List.nil_append, List.cons_append]
  gi_wp2
  go_ret
  exact ⟨rfl, rfl⟩

theorem parts_stops (n : Nat) (hn : 1 ≤ n) (Bs n₀ : Nat) (p : List UInt8) (hp : p.length ≤ 140737488351232) (w : World) (hBs : Bs < w.heap.size)
    (hc : w.cell? ⟨Bs, 0, none⟩ = some (.string ⟨p.toArray⟩)) :
    SeqStopsK Fence.wide n Try.prog 34 #[.pointer (some ⟨Bs, 0, none⟩)] (fun x : Txt => #[Value.string ⟨x.1.toArray⟩]) (Below n₀) (fun ys => ys.map (·.1) = namesP p) (fun pre => pre.map (·.1) <+: namesP p) (p.length + 1) w := fun l J Jx W hW hJ _ hY h0 =>
  parts1_in n hn l Bs n₀ p hp J Jx hY (fun pre W m h => abides_drewN hJ m h) W ((hW.cell (p := ⟨Bs, 0, none⟩) hBs).trans hc) h0
end Go.Proofs.Ytjeejnjomgcplaa
