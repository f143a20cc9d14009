/- client.ears, meant, Hear; ref18.Hear. -/
import Derived.Test.YtpdedjbkfcaebaaCliN3
import Derived.Test.YtpdedjbkfcaebaaAbs13
set_option linter.unusedVariables false
set_option linter.unusedSimpArgs false
namespace Go.Proofs.Ytpdedjbkfcaebaa
open Go.RowKit Copyhold
def zN41 (r1 : Nat) : List (Nat × Bx) := [(1, .mp r1 [(.i 1, .val (.func (.func 49) #[] #[])), (.i 2, .val (.func (.func 50) #[] #[])), (.i 3, .val (.func (.func 51) #[] #[])), (.i 5, .val (.func (.func 51) #[] #[])), (.i 6, .val (.func (.func 52) #[] #[]))])]
def zN42 (r1 : Nat) : List (Nat × AV) := [(0, .val (.map none)), (1, .mref 1 r1)]
set_option maxRecDepth 100000 in
set_option maxHeartbeats 4000000 in
theorem ears_spec  : FSpec Try.prog 30 [] (.mp [(.i 1, .val (.func (.func 49) #[] #[])), (.i 2, .val (.func (.func 50) #[] #[])), (.i 3, .val (.func (.func 51) #[] #[])), (.i 5, .val (.func (.func 51) #[] #[])), (.i 6, .val (.func (.func 52) #[] #[]))]) := by
  refine spec_enter ⟨[], []⟩ Try.func30 rfl (by kernel_rfl) (by kernel_rfl) rfl (fun t => match t with | _ + 0 => rfl) (fun c hc => ?_)
  replace hc : c.n = 3 := hc
  refine awp_seq_k (fun K1 hK1 => ?_)
  refine awp_region [0] (by rw [hc]; kernel_rfl) (by kernel_rfl) ?_
  refine seq_run (r := []) [0] (s' := ⟨[(0, .val (.map none))], []⟩) (ps := []) (by kernel_rfl) trivial ?_
  refine hK1 _ ?_
  try clear hK1 K1
  refine awp_seq_k (fun K2 hK2 => ?_)
  refine awp_region [0, 1, 2, 3, 4, 5, 6, 7] (by rw [hc]; kernel_rfl) (by kernel_rfl) ?_
  refine seqMkMap (d := 1) (f := fun r1 => ⟨(zN42 r1), [(1, .mp r1 [])]⟩) (by kernel_rfl) (fun _ => rfl) (fun r1 => ?_)
  refine seqIns (kt := 3) (id := 1) (r := r1) (r' := r1) (k := .i 1) (x := .val (.func (.func 49) #[] #[])) (es := []) (s' := ⟨(zN42 r1), [(1, .mp r1 [(.i 1, .val (.func (.func 49) #[] #[]))])]⟩) (by kernel_rfl) rfl rfl (by kernel_rfl) (by kernel_rfl) (by rfl) (by kernel_rfl) ?_
  refine seqIns (kt := 3) (id := 1) (r := r1) (r' := r1) (k := .i 2) (x := .val (.func (.func 50) #[] #[])) (es := [(.i 1, .val (.func (.func 49) #[] #[]))]) (s' := ⟨(zN42 r1), [(1, .mp r1 [(.i 1, .val (.func (.func 49) #[] #[])), (.i 2, .val (.func (.func 50) #[] #[]))])]⟩) (by kernel_rfl) rfl rfl (by kernel_rfl) (by kernel_rfl) (by simp [mfind]) (by kernel_rfl) ?_
  refine seqIns (kt := 3) (id := 1) (r := r1) (r' := r1) (k := .i 3) (x := .val (.func (.func 51) #[] #[])) (es := [(.i 1, .val (.func (.func 49) #[] #[])), (.i 2, .val (.func (.func 50) #[] #[]))]) (s' := ⟨(zN42 r1), [(1, .mp r1 [(.i 1, .val (.func (.func 49) #[] #[])), (.i 2, .val (.func (.func 50) #[] #[])), (.i 3, .val (.func (.func 51) #[] #[]))])]⟩) (by kernel_rfl) rfl rfl (by kernel_rfl) (by kernel_rfl) (by simp [mfind]) (by kernel_rfl) ?_
  refine seqIns (kt := 3) (id := 1) (r := r1) (r' := r1) (k := .i 5) (x := .val (.func (.func 51) #[] #[])) (es := [(.i 1, .val (.func (.func 49) #[] #[])), (.i 2, .val (.func (.func 50) #[] #[])), (.i 3, .val (.func (.func 51) #[] #[]))]) (s' := ⟨(zN42 r1), [(1, .mp r1 [(.i 1, .val (.func (.func 49) #[] #[])), (.i 2, .val (.func (.func 50) #[] #[])), (.i 3, .val (.func (.func 51) #[] #[])), (.i 5, .val (.func (.func 51) #[] #[]))])]⟩) (by kernel_rfl) rfl rfl (by kernel_rfl) (by kernel_rfl) (by simp [mfind]) (by kernel_rfl) ?_
  refine seqIns (kt := 3) (id := 1) (r := r1) (r' := r1) (k := .i 6) (x := .val (.func (.func 52) #[] #[])) (es := [(.i 1, .val (.func (.func 49) #[] #[])), (.i 2, .val (.func (.func 50) #[] #[])), (.i 3, .val (.func (.func 51) #[] #[])), (.i 5, .val (.func (.func 51) #[] #[]))]) (s' := ⟨(zN42 r1), (zN41 r1)⟩) (by kernel_rfl) rfl rfl (by kernel_rfl) (by kernel_rfl) (by simp [mfind]) (by kernel_rfl) ?_
  refine seq_run (r := []) [6, 7] (s' := ⟨[(0, .mref 1 r1), (1, .mref 1 r1), (2, .mref 1 r1)], (zN41 r1)⟩) (ps := []) (by kernel_rfl) trivial ?_
  refine hK2 _ ?_
  try clear hK2 K2
  refine awp_less ⟨[(0, .mref 1 r1)], (zN41 r1)⟩ ⟨Sub.refl _, trivial⟩ ⟨⟨_, rfl, SubB.refl _⟩, trivial⟩ ?_
  refine awp_freeze 1 (.mp r1 [(.i 1, .val (.func (.func 49) #[] #[])), (.i 2, .val (.func (.func 50) #[] #[])), (.i 3, .val (.func (.func 51) #[] #[])), (.i 5, .val (.func (.func 51) #[] #[])), (.i 6, .val (.func (.func 52) #[] #[]))]) ⟨[(0, .mp [(.i 1, .val (.func (.func 49) #[] #[])), (.i 2, .val (.func (.func 50) #[] #[])), (.i 3, .val (.func (.func 51) #[] #[])), (.i 5, .val (.func (.func 51) #[] #[])), (.i 6, .val (.func (.func 52) #[] #[]))])], []⟩ rfl ⟨Fz.mref _ _ _, trivial⟩ trivial ?_
  refine awp_ret ?_
  refine fin_ret ⟨[], [.mp [(.i 1, .val (.func (.func 49) #[] #[])), (.i 2, .val (.func (.func 50) #[] #[])), (.i 3, .val (.func (.func 51) #[] #[])), (.i 5, .val (.func (.func 51) #[] #[])), (.i 6, .val (.func (.func 52) #[] #[]))]], by kernel_rfl, trivial, ?_⟩
  exact Sub.refl _
end Go.Proofs.Ytpdedjbkfcaebaa
