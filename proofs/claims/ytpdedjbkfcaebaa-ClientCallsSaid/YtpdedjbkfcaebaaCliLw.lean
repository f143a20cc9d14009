/- From a law over data to the call: what comes in, as data. -/
import Derived.Test.YtpdedjbkfcaebaaCliN9
import Derived.Test.YtpdedjbkfcaebaaCliOp
import Derived.Test.YtpdedjbkfcaebaaLaw14
set_option linter.unusedVariables false
set_option linter.unusedSimpArgs false
namespace Go.Proofs.Ytpdedjbkfcaebaa
open Go.RowKit Copyhold
theorem raAll2 {D : Nat → Prop} {w : World} {x y : AV} {v u : Value} (h : Ra D w x v) (h2 : Ra D w y u) : RaAll D w [x, y] #[v, u] := ⟨rfl, fun j a u ha hu => by
  match j, ha, hu with
  | 0, ha, hu => simp at ha hu; subst ha hu; exact h
  | 1, ha, hu => simp at ha hu; subst ha hu; exact h2
  | j + 2, ha, _ => simp at ha⟩
theorem law_calls {P : Program} {f : FuncId} {args : List AV} {vs : Array Value} {w : World} (h : FSpec P f args (aB true)) (hv : RaAll (· < w.heap.size) w args vs) :
    Calls P f vs w (fun e w' => e = .returned (.bool true) ∧ Below w.heap.size w w') := by
  refine (h _ w vs (fun _ h => h) hv).mono ?_
  rintro e w' ⟨v, D', rfl, hb, _, _, hr⟩
  cases hr
  exact ⟨rfl, hb⟩
theorem row_one {w : World} {nv : Value} {l : List Value} (h : Row w nv l) : nv.oneCell' = true := by
  unfold Row at h
  rcases h with ⟨c, n, rfl, _⟩ | ⟨A, n, c, rfl, _⟩ <;> rfl
theorem reply_to {w : World} {r : Rep} {nv : Value} (h : Row w nv (r.ns.map strV)) (D : Nat → Prop) (hD : ∀ b, b < w.heap.size → D b) : Ra D w (.agg (repA r)) (.agg (repC r nv).toArray) := by
  refine .agg _ _ rfl (fun j v hv => ?_) (fun j a v ha hv => ?_)
  · match j, hv with
    | 0, hv | 1, hv | 2, hv | 3, hv | 4, hv => simp [repC] at hv; subst hv; rfl
    | 5, hv => simp [repC] at hv; subst hv; exact row_one h
    | j + 6, hv => simp [repC] at hv
  · match j, ha, hv with
    | 0, ha, hv | 1, ha, hv | 2, ha, hv | 3, ha, hv | 4, ha, hv => simp [repC, repA] at ha hv; subst ha hv; exact .val _
    | 5, ha, hv => simp [repC, repA] at ha hv; subst ha hv; exact ra_of_row h D hD
    | j + 6, ha, hv => simp [repC] at hv
end Go.Proofs.Ytpdedjbkfcaebaa
