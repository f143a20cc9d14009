/- What a client is behind an answer: the definitions. -/
import Derived.Test.YtpdedjbkfcaebaaCliRt
set_option linter.unusedVariables false
namespace Go.Proofs.Ytpdedjbkfcaebaa
open Go.RowKit Copyhold
def idleD (x : Cli) : Cli := { x with n := 0, stamp := 0, now := [] }
def doneD (x : Cli) (yes : Bool) (e : Int) : Don := ⟨x.seq, yes, e, x.now⟩
def overD (x : Cli) (yes : Bool) (e : Int) : Cli := { x with told := x.told ++ [doneD x yes e], phase := 3, n := 0, stamp := 0, now := [] }
def OkRsp (r : Rsp) : Prop := (I64 r.kind ∧ I64 r.client ∧ I64 r.epoch ∧ I64 r.seq ∧ I64 r.n) ∧ OkRep r.r
def onwardD (x : Cli) : Int := if x.n = ((jobOf x).length : Int) then 2 else 1
def decidedD (x : Cli) (r : Rsp) : Cli := if r.r.e = 20 ∨ r.r.e = 12 ∨ r.r.e = 5 ∨ r.r.e = 19 then x else overD x (decide (r.r.e = 0)) r.r.e
def stampD (x : Cli) (a : Int) : Cli := { x with stamp := a }
def begunD (x : Cli) (r : Rsp) : Cli := if r.r.e = 0 then { stampD x r.r.a with phase := onwardD (stampD x r.r.a) } else if r.r.e = 7 ∨ r.r.e = 20 ∨ r.r.e = 12 then x else overD x false r.r.e
def nowD (x : Cli) (q : Rep) : Cli := { x with now := x.now ++ [q], n := x.n + 1 }
def calledD (x : Cli) (r : Rsp) : Cli := if r.n = -1 then overD x false r.r.e else { nowD x r.r with phase := onwardD (nowD x r.r) }
end Go.Proofs.Ytpdedjbkfcaebaa
