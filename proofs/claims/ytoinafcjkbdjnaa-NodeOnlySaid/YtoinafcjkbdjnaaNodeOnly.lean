/- Proved: copyholdlaw07.NodeOnly returns true for every text, and leaves it as it was: what is taken is right, and told again it is what was taken. No condition beyond the form's own reach. -/
import Derived.Test.YtoinafcjkbdjnaaNodeTake
import Derived.Test.YtoinafcjkbdjnaaNodeShown
import Derived.Test.YtoinafcjkbdjnaaLaw
namespace Go.Proofs.Ytoinafcjkbdjnaa.nodeOnly
open Go.ChangeShapes Go.WideShapes Go.ChangeAt Go.RowKit Copyhold Copyhold.Name
open Go.ChangeMaps (open_string shut_string)
set_option linter.unusedVariables false

set_option maxRecDepth 100000 in
set_option maxHeartbeats 4000000 in
theorem walk (w : World) (l : List UInt8) (z0 : l.length ≤ 140737488351232) :
    Calls Try.prog 5 #[.string ⟨l.toArray⟩] w fun e w' => e = .returned (.bool true) ∧ Below w.heap.size w w' := by
  by_cases hlen : 6000 < l.length
  · go_enter Try.func5, Try.ntmps5
    go_wp2_with fail
    refine (law_shown _).mono ?_
    rintro e w1 ⟨rfl, hb1⟩
    have HB1 := Lib.hid hb1
    clear hb1
    go_wp2_with fail
    go_ret
    exact ⟨rfl, HB1.out⟩
  · have HT := Lib.hid (fun W => node_Take l W z0)
    have hlaid := takeNode_laid l
    have hok := takeNode_ok l
    generalize takeNode l = x at *
    obtain ⟨n, r, e⟩ := x
    simp only at hlaid hok
    have HLAID := Lib.hid hlaid
    have HOK := Lib.hid hok
    clear hlaid hok
    go_enter Try.func5, Try.ntmps5
    go_wp2_with fail
    refine (law_shown _).mono ?_
    rintro e1 w1 ⟨rfl, hb1⟩
    have HB1 := Lib.hid hb1
    clear hb1
    go_wp2_with fail
    refine (HT.out w1).mono ?_
    rintro e2 w2 ⟨v, rfl, hv, hb2⟩
    have HB2 := Lib.hid (below_trans HB1.out hb2 HB1.out.size)
    have HV0 := Lib.hid hv
    simp only at hv
    obtain ⟨A, c, rfl, hE⟩ := hv
    clear hb2
    by_cases he : e = 0
    · subst he
      obtain ⟨h1, h2, h3, h4, h5⟩ := HLAID.out rfl
      have ho := HOK.out
      obtain ⟨ino, kind, links, text, ents⟩ := n
      simp only at h1 h2 h3 h4 h5 ho hE ⊢
      have hlr : (nodeB ⟨ino, kind, links, text, ents⟩).length + r.length ≤ 6000 := by have := congrArg List.length h1; rw [List.length_append] at this; omega
      obtain ⟨W3, hW3⟩ : ∃ W3, W3 = w2.alloc (.cells #[.int .i64 ino, .int .i64 kind, .int .i64 links, .string ⟨text.toArray⟩, .slice A ents.length c] 24) := ⟨_, rfl⟩
      have hb3 : Below w2.heap.size w2 W3 := by rw [hW3]; exact (Below.refl _ _).alloc (Nat.le_refl _) _
      have c0 : W3.cell? ⟨w2.heap.size, 0, none⟩ = some (.int .i64 ino) := by rw [hW3]; exact cell_new _ _ _ 0
      have c1 : W3.cell? ⟨w2.heap.size, 1, none⟩ = some (.int .i64 kind) := by rw [hW3]; exact cell_new _ _ _ 1
      have c2 : W3.cell? ⟨w2.heap.size, 2, none⟩ = some (.int .i64 links) := by rw [hW3]; exact cell_new _ _ _ 2
      have c3 : W3.cell? ⟨w2.heap.size, 3, none⟩ = some (.string ⟨text.toArray⟩) := by rw [hW3]; exact cell_new _ _ _ 3
      have c4 : W3.cell? ⟨w2.heap.size, 4, none⟩ = some (.slice A ents.length c) := by rw [hW3]; exact cell_new _ _ _ 4
      have hv3 : NodeV W3 (.agg #[.int .i64 ino, .int .i64 kind, .int .i64 links, .string ⟨text.toArray⟩, .slice A ents.length c]) ⟨ino, kind, links, text, ents⟩ := ⟨A, c, rfl, hE.below hb3⟩
      have HR := Lib.hid (ref07_Right _ _ W3 hv3 ho)
      rw [h2] at HR
      have HTX := Lib.hid (fun W (h : Below W3.heap.size W3 W) => node_Text _ _ W (hv3.below h) ho (fun x hx => by have := (h4 x hx).1; omega) (by simp only; omega) (by simp only; omega))
      have HW3 := Lib.hid hW3
      have HB3 := Lib.hid (below_trans HB2.out hb3 HB2.out.size)
      have HC := Lib.hid (And.intro c0 (And.intro c1 (And.intro c2 (And.intro c3 c4))))
      have H1 := Lib.hid h1
      clear c0 c1 c2 c3 c4 hv3 hb3 hW3 h1 h2 h4 ho hE HLAID HOK HV0
      generalize nodeB ⟨ino, kind, links, text, ents⟩ = B at *
      go_wp2_with fail
      rw [← HW3.out]
      refine HR.out.mono ?_
      rintro e4 w4 ⟨rfl, hb4⟩
      have HB4 := Lib.hid (below_trans HB3.out hb4 HB3.out.size)
      have HB34 := Lib.hid hb4
      have d0 := cell_keep hb4 HC.out.1
      have d1 := cell_keep hb4 HC.out.2.1
      have d2 := cell_keep hb4 HC.out.2.2.1
      have d3 := cell_keep hb4 HC.out.2.2.2.1
      have d4 := cell_keep hb4 HC.out.2.2.2.2
      clear hb4
      go_wp2_with fail
      refine (HTX.out _ HB34.out).mono ?_
      rintro e5 w5 ⟨rfl, hb5⟩
      have HB5 := Lib.hid (below_trans HB4.out hb5 HB4.out.size)
      clear hb5 d0 d1 d2 d3 d4
      have hq : (B ++ r == l) = true := by rw [← H1.out]; exact beq_self_eq_true _
      go_wp2_with fail
      go_ret
      exact ⟨by first | rfl | exact ret_bool (by simp [H1.out.symm]), HB5.out⟩
    · have hne : (e == 0) = false := by simpa using he
      have hne2 : (e != 0) = true := by simpa using he
      clear he HLAID HOK HV0 hE
      obtain ⟨ino, kind, links, text, ents⟩ := n
      go_wp2_with fail
      go_ret
      exact ⟨rfl, HB2.out.alloc HB2.out.size _⟩
theorem own : ownKnob Try.prog.godebug = none := by kernel_rfl
theorem laidOut : laidOutB Try.prog = true := by kernel_rfl

set_option maxRecDepth 100000 in
set_option maxHeartbeats 1000000 in
theorem lifted (os : Os) (started : os.Started) (H : Type) (enc : TypeId × Value → H) :
    ReturnsInHanded {} Try.checked os 5 .any (Rows.nodeOnlySpec.pre6 enc Try.prog Try.f5 Rows.nodeOnlyRow.domain false) (Rows.nodeOnlySpec.post enc Try.prog Try.f5 false true false false) := by
  refine returnsInHanded_of_change_sized (C := Try.checked) own started (by kernel_rfl) Try.func5
    (ChangeSpec.witness6 (enc := enc) (C := Try.checked) false ⟨#[], #[.string ByteArray.empty], []⟩ 8 (by kernel_rfl) (by kernel_rfl) (by kernel_rfl) (by kernel_rfl)) ?_
  intro W base args ds gs before hval0 hW hcnd hsz0 _
  have hsz : (DataW.weightsEach Try.prog (Try.f5.params.toList ++ []) (ds ++ gs)).all (· ≤ reachBytes) = true := hsz0
  clear hsz0
  have hval : ∀ (j : Nat) t v, Try.f5.params[j]? = some t → args[j]? = some v → Value.okWide Try.prog W .any base t v := hval0
  have hW' := hW
  have hlt := hW.lt
  obtain ⟨p, q, hA0, hV, rfl, hfz, hnd⟩ := hW
  have hA : DataW.TrodAll enc Try.prog W 0 (fun _ => true) true Try.f5.params.toList args.toList ds p := hA0
  rw [Try.params5] at hA hval
  obtain ⟨v0, vs0, d0, ds0, p0, q0, hargs, rfl, rfl, h0, r0⟩ := trodAll_cons hA
  obtain ⟨rfl, rfl, rfl⟩ := trodAll_nil r0
  obtain rfl : args = #[v0] := by cases args; simp_all
  obtain ⟨rfl, rfl⟩ := trodVars_none hV
  obtain ⟨s0, rfl, rfl, rfl, w0⟩ := open_string Try.underlying9 (hval 0 9 v0 rfl rfl) h0
  have z0 : s0.data.toList.length ≤ 140737488351232 := sized_string hsz (j := 0) (t := 9) (by rw [Try.params5]; rfl) rfl
  obtain ⟨a0, rfl⟩ : ∃ l : List UInt8, s0 = ⟨l.toArray⟩ := ⟨s0.data.toList, rfl⟩
  refine (walk W a0 z0).mono fun e W' ⟨he, hg⟩ => ?_
  subst he
  exact ⟨_, rfl, Copyhold.law_post laidOut (by kernel_rfl) (by kernel_rfl) Try.underlying4 rfl rfl rfl rfl hW' hg⟩

theorem over : Rows.nodeOnlyRow.holds Try.pinned (OpenSpec.ofChange Rows.nodeOnlySpec) :=
  OpenClaim.holds_of_wide 5 Try.f5 rfl rfl rfl rfl rfl rfl rfl ⟨rfl, rfl, rfl, rfl, rfl⟩ rfl rfl rfl rfl rfl (by kernel_rfl) Try.func5 (by kernel_rfl)
    (of_decide_eq_true (by kernel_rfl)) (by unfold Func.isWrapper; first | (rw [if_pos (by decide +kernel)]; kernel_rfl) | (rw [if_neg (by decide +kernel)]; exact ⟨rfl, rfl⟩))
    (fun os started H enc _ => lifted os started H enc)

theorem proved : Rows.NodeOnlySaid :=
  over
end Go.Proofs.Ytoinafcjkbdjnaa.nodeOnly
