/-
  No cell of these rows narrows 'for every input' (looked for: loops, veiled, ifaces, maps, wideKeys, modest, calm, conditions, laid).
  DERIVED. THE GIVEN ROWS OF THIS SEAT. 7 by the template 'for every input the law returns true; each argument reads behind the call as it read before'; 0 by the template 'total and deterministic' (their statements: YtpdedjbkfcaebaaTotals.lean).
  GIVEN WITH THE SEED: the statements are not yours to turn. If you find one false, say at which input.
  Laid BY PROGRAM, IN A SANDBOX (cutbox-rows.mjs): the forced cells as the released guide's own fill.sh prints them over the translation 634bc443aa475b29… (all of the seat's roots in one cut). By AI agents, Wed Nov 11 2026. No macro, syntax, notation, axiom, sorry.
-/
import Derived.Test.YtpdedjbkfcaebaaChecked
import GoSem.Claim
import GoSem.ClaimJoined
import GoSem.ClaimMapViews
import Derived.JoinedTies
import Derived.KernelRfl
namespace Go.Proofs.Ytpdedjbkfcaebaa
/- THE CELL 'sum', in the pinned program and in every row, IS THE sha256 OF THE DUMP (.gsa) THAT YtpdedjbkfcaebaaProg.lean LOADS. Nothing in Lean hashes anything: it is a label: what it is worth is what the hold of that sum in a sandbox is worth. -/
noncomputable def Try.pinned : Pinned := { name := "ytpdedjbkfcaebaa", sum := "634bc443aa475b29724899155fdd07f41b99eed00bbd0a4251c6f76fc30b5662", checked := Try.checked }
namespace Rows
def none {H : Type} : Left H := { results := [], args := [] }

/-- 'copyholdlaw18.ClientHears': WHATEVER THE INPUT: true; the input reads as it did. -/
def clientHearsSpec : ChangeSpec := { name := "clientHears", fn := fun _ => fun
  | [d1, d2, d3] => { results := [.lit (.bool true)], args := [d1, d2, d3] }
  | _ => none }
def clientHearsRow : OpenClaim := { program := "ytpdedjbkfcaebaa", sum := "634bc443aa475b29724899155fdd07f41b99eed00bbd0a4251c6f76fc30b5662", func := "copyhold/copyholdlaw18.ClientHears", spec := "clientHears", unfollowed := true, recurses := true, apart := false }
def ClientHearsSaid : Prop := clientHearsRow.holds Try.pinned (OpenSpec.ofChange clientHearsSpec)

/-- ITS FALSE NEIGHBOUR: 'it returns false'. Refute it at one input. -/
def clientHearsWrong : ChangeSpec := { name := "clientHears", fn := fun _ => fun
  | [d1, d2, d3] => { results := [.lit (.bool false)], args := [d1, d2, d3] }
  | _ => none }
def ClientHearsWrongFalsely : Prop := clientHearsRow.holds Try.pinned (OpenSpec.ofChange clientHearsWrong)

/-- 'copyholdlaw18.ClientRights': WHATEVER THE INPUT: true; the input reads as it did. -/
def clientRightsSpec : ChangeSpec := { name := "clientRights", fn := fun _ => fun
  | [d1, d2, d3] => { results := [.lit (.bool true)], args := [d1, d2, d3] }
  | _ => none }
def clientRightsRow : OpenClaim := { program := "ytpdedjbkfcaebaa", sum := "634bc443aa475b29724899155fdd07f41b99eed00bbd0a4251c6f76fc30b5662", func := "copyhold/copyholdlaw18.ClientRights", spec := "clientRights", unfollowed := true, recurses := true, apart := false }
def ClientRightsSaid : Prop := clientRightsRow.holds Try.pinned (OpenSpec.ofChange clientRightsSpec)

/-- ITS FALSE NEIGHBOUR: 'it returns false'. Refute it at one input. -/
def clientRightsWrong : ChangeSpec := { name := "clientRights", fn := fun _ => fun
  | [d1, d2, d3] => { results := [.lit (.bool false)], args := [d1, d2, d3] }
  | _ => none }
def ClientRightsWrongFalsely : Prop := clientRightsRow.holds Try.pinned (OpenSpec.ofChange clientRightsWrong)

/-- 'copyholdlaw18.ClientStays': WHATEVER THE INPUT: true; the input reads as it did. -/
def clientStaysSpec : ChangeSpec := { name := "clientStays", fn := fun _ => fun
  | [d1, d2] => { results := [.lit (.bool true)], args := [d1, d2] }
  | _ => none }
def clientStaysRow : OpenClaim := { program := "ytpdedjbkfcaebaa", sum := "634bc443aa475b29724899155fdd07f41b99eed00bbd0a4251c6f76fc30b5662", func := "copyhold/copyholdlaw18.ClientStays", spec := "clientStays", unfollowed := true, recurses := true, apart := false }
def ClientStaysSaid : Prop := clientStaysRow.holds Try.pinned (OpenSpec.ofChange clientStaysSpec)

/-- ITS FALSE NEIGHBOUR: 'it returns false'. Refute it at one input. -/
def clientStaysWrong : ChangeSpec := { name := "clientStays", fn := fun _ => fun
  | [d1, d2] => { results := [.lit (.bool false)], args := [d1, d2] }
  | _ => none }
def ClientStaysWrongFalsely : Prop := clientStaysRow.holds Try.pinned (OpenSpec.ofChange clientStaysWrong)

/-- 'copyholdlaw18.ClientOthers': WHATEVER THE INPUT: true; the input reads as it did. -/
def clientOthersSpec : ChangeSpec := { name := "clientOthers", fn := fun _ => fun
  | [d1, d2] => { results := [.lit (.bool true)], args := [d1, d2] }
  | _ => none }
def clientOthersRow : OpenClaim := { program := "ytpdedjbkfcaebaa", sum := "634bc443aa475b29724899155fdd07f41b99eed00bbd0a4251c6f76fc30b5662", func := "copyhold/copyholdlaw18.ClientOthers", spec := "clientOthers", unfollowed := true, recurses := true, apart := false }
def ClientOthersSaid : Prop := clientOthersRow.holds Try.pinned (OpenSpec.ofChange clientOthersSpec)

/-- ITS FALSE NEIGHBOUR: 'it returns false'. Refute it at one input. -/
def clientOthersWrong : ChangeSpec := { name := "clientOthers", fn := fun _ => fun
  | [d1, d2] => { results := [.lit (.bool false)], args := [d1, d2] }
  | _ => none }
def ClientOthersWrongFalsely : Prop := clientOthersRow.holds Try.pinned (OpenSpec.ofChange clientOthersWrong)

/-- 'copyholdlaw18.ClientEnds': WHATEVER THE INPUT: true; the input reads as it did. -/
def clientEndsSpec : ChangeSpec := { name := "clientEnds", fn := fun _ => fun
  | [d1, d2, d3] => { results := [.lit (.bool true)], args := [d1, d2, d3] }
  | _ => none }
def clientEndsRow : OpenClaim := { program := "ytpdedjbkfcaebaa", sum := "634bc443aa475b29724899155fdd07f41b99eed00bbd0a4251c6f76fc30b5662", func := "copyhold/copyholdlaw18.ClientEnds", spec := "clientEnds", unfollowed := true, recurses := true, apart := false }
def ClientEndsSaid : Prop := clientEndsRow.holds Try.pinned (OpenSpec.ofChange clientEndsSpec)

/-- ITS FALSE NEIGHBOUR: 'it returns false'. Refute it at one input. -/
def clientEndsWrong : ChangeSpec := { name := "clientEnds", fn := fun _ => fun
  | [d1, d2, d3] => { results := [.lit (.bool false)], args := [d1, d2, d3] }
  | _ => none }
def ClientEndsWrongFalsely : Prop := clientEndsRow.holds Try.pinned (OpenSpec.ofChange clientEndsWrong)

/-- 'copyholdlaw18.ClientYes': WHATEVER THE INPUT: true; the input reads as it did. -/
def clientYesSpec : ChangeSpec := { name := "clientYes", fn := fun _ => fun
  | [d1, d2] => { results := [.lit (.bool true)], args := [d1, d2] }
  | _ => none }
def clientYesRow : OpenClaim := { program := "ytpdedjbkfcaebaa", sum := "634bc443aa475b29724899155fdd07f41b99eed00bbd0a4251c6f76fc30b5662", func := "copyhold/copyholdlaw18.ClientYes", spec := "clientYes", unfollowed := true, recurses := true, apart := false }
def ClientYesSaid : Prop := clientYesRow.holds Try.pinned (OpenSpec.ofChange clientYesSpec)

/-- ITS FALSE NEIGHBOUR: 'it returns false'. Refute it at one input. -/
def clientYesWrong : ChangeSpec := { name := "clientYes", fn := fun _ => fun
  | [d1, d2] => { results := [.lit (.bool false)], args := [d1, d2] }
  | _ => none }
def ClientYesWrongFalsely : Prop := clientYesRow.holds Try.pinned (OpenSpec.ofChange clientYesWrong)

/-- 'copyholdlaw18.ClientCalls': WHATEVER THE INPUT: true; the input reads as it did. -/
def clientCallsSpec : ChangeSpec := { name := "clientCalls", fn := fun _ => fun
  | [d1, d2] => { results := [.lit (.bool true)], args := [d1, d2] }
  | _ => none }
def clientCallsRow : OpenClaim := { program := "ytpdedjbkfcaebaa", sum := "634bc443aa475b29724899155fdd07f41b99eed00bbd0a4251c6f76fc30b5662", func := "copyhold/copyholdlaw18.ClientCalls", spec := "clientCalls", unfollowed := true, recurses := true, apart := false }
def ClientCallsSaid : Prop := clientCallsRow.holds Try.pinned (OpenSpec.ofChange clientCallsSpec)

/-- ITS FALSE NEIGHBOUR: 'it returns false'. Refute it at one input. -/
def clientCallsWrong : ChangeSpec := { name := "clientCalls", fn := fun _ => fun
  | [d1, d2] => { results := [.lit (.bool false)], args := [d1, d2] }
  | _ => none }
def ClientCallsWrongFalsely : Prop := clientCallsRow.holds Try.pinned (OpenSpec.ofChange clientCallsWrong)

/- THE SECOND FORM. 'bulk': how many values and letters a reading holds, each counted each time it is reached (what is shared counts as often as it is met; a slice's spare places count too). A statement '..UptoSaid' is the law's where the arguments, and the package variables that the reading takes, are together of bulk at most 1048576: NARROWER than '..Said'. Prove '..Said' where nothing that the law and all that it calls make is longer than what came in: it says more and counts as full. Else prove '..UptoSaid'. A law counts once. -/
mutual
def uptoBulk {H : Type} : DataW H → Nat
  | .lit (.string bytes) => bytes.length + 1
  | .lit _ => 1
  | .nil => 1
  | .ptr d => uptoBulk d + 1
  | .slice elems spare => uptoBulkAll elems + uptoBulkAll spare + 1
  | .agg parts => uptoBulkAll parts + 1
  | .iface _ d => uptoBulk d + 1
  | .map entries => uptoBulkEntries entries + 1
  | .held _ => 1
def uptoBulkAll {H : Type} : List (DataW H) → Nat
  | [] => 0
  | d :: r => uptoBulk d + uptoBulkAll r
def uptoBulkEntries {H : Type} : List (Lit × DataW H) → Nat
  | [] => 0
  | x :: r => uptoBulkEntry x + uptoBulkEntries r
def uptoBulkEntry {H : Type} : Lit × DataW H → Nat
  | (.string bytes, d) => bytes.length + uptoBulk d + 1
  | (_, d) => uptoBulk d + 1
 end
def uptoSmall : (H : Type) → List (DataW H) → Bool := fun _ ds => decide (uptoBulkAll ds ≤ 1048576)
def OpenSpec.upto (s : _root_.Go.ChangeSpec) : _root_.Go.OpenSpec := { _root_.Go.OpenSpec.ofChange s with cond := some uptoSmall }

/-- 'copyholdlaw18.ClientHears', WHERE WHAT IT READS IS OF BULK AT MOST 1048576: true; the input reads as it did. -/
def clientHearsUptoRow : OpenClaim := { program := "ytpdedjbkfcaebaa", sum := "634bc443aa475b29724899155fdd07f41b99eed00bbd0a4251c6f76fc30b5662", func := "copyhold/copyholdlaw18.ClientHears", spec := "clientHears", unfollowed := true, recurses := true, apart := false, narrowed := true }
def ClientHearsUptoSaid : Prop := clientHearsUptoRow.holds Try.pinned (OpenSpec.upto clientHearsSpec)

/-- 'copyholdlaw18.ClientRights', WHERE WHAT IT READS IS OF BULK AT MOST 1048576: true; the input reads as it did. -/
def clientRightsUptoRow : OpenClaim := { program := "ytpdedjbkfcaebaa", sum := "634bc443aa475b29724899155fdd07f41b99eed00bbd0a4251c6f76fc30b5662", func := "copyhold/copyholdlaw18.ClientRights", spec := "clientRights", unfollowed := true, recurses := true, apart := false, narrowed := true }
def ClientRightsUptoSaid : Prop := clientRightsUptoRow.holds Try.pinned (OpenSpec.upto clientRightsSpec)

/-- 'copyholdlaw18.ClientStays', WHERE WHAT IT READS IS OF BULK AT MOST 1048576: true; the input reads as it did. -/
def clientStaysUptoRow : OpenClaim := { program := "ytpdedjbkfcaebaa", sum := "634bc443aa475b29724899155fdd07f41b99eed00bbd0a4251c6f76fc30b5662", func := "copyhold/copyholdlaw18.ClientStays", spec := "clientStays", unfollowed := true, recurses := true, apart := false, narrowed := true }
def ClientStaysUptoSaid : Prop := clientStaysUptoRow.holds Try.pinned (OpenSpec.upto clientStaysSpec)

/-- 'copyholdlaw18.ClientOthers', WHERE WHAT IT READS IS OF BULK AT MOST 1048576: true; the input reads as it did. -/
def clientOthersUptoRow : OpenClaim := { program := "ytpdedjbkfcaebaa", sum := "634bc443aa475b29724899155fdd07f41b99eed00bbd0a4251c6f76fc30b5662", func := "copyhold/copyholdlaw18.ClientOthers", spec := "clientOthers", unfollowed := true, recurses := true, apart := false, narrowed := true }
def ClientOthersUptoSaid : Prop := clientOthersUptoRow.holds Try.pinned (OpenSpec.upto clientOthersSpec)

/-- 'copyholdlaw18.ClientEnds', WHERE WHAT IT READS IS OF BULK AT MOST 1048576: true; the input reads as it did. -/
def clientEndsUptoRow : OpenClaim := { program := "ytpdedjbkfcaebaa", sum := "634bc443aa475b29724899155fdd07f41b99eed00bbd0a4251c6f76fc30b5662", func := "copyhold/copyholdlaw18.ClientEnds", spec := "clientEnds", unfollowed := true, recurses := true, apart := false, narrowed := true }
def ClientEndsUptoSaid : Prop := clientEndsUptoRow.holds Try.pinned (OpenSpec.upto clientEndsSpec)

/-- 'copyholdlaw18.ClientYes', WHERE WHAT IT READS IS OF BULK AT MOST 1048576: true; the input reads as it did. -/
def clientYesUptoRow : OpenClaim := { program := "ytpdedjbkfcaebaa", sum := "634bc443aa475b29724899155fdd07f41b99eed00bbd0a4251c6f76fc30b5662", func := "copyhold/copyholdlaw18.ClientYes", spec := "clientYes", unfollowed := true, recurses := true, apart := false, narrowed := true }
def ClientYesUptoSaid : Prop := clientYesUptoRow.holds Try.pinned (OpenSpec.upto clientYesSpec)

/-- 'copyholdlaw18.ClientCalls', WHERE WHAT IT READS IS OF BULK AT MOST 1048576: true; the input reads as it did. -/
def clientCallsUptoRow : OpenClaim := { program := "ytpdedjbkfcaebaa", sum := "634bc443aa475b29724899155fdd07f41b99eed00bbd0a4251c6f76fc30b5662", func := "copyhold/copyholdlaw18.ClientCalls", spec := "clientCalls", unfollowed := true, recurses := true, apart := false, narrowed := true }
def ClientCallsUptoSaid : Prop := clientCallsUptoRow.holds Try.pinned (OpenSpec.upto clientCallsSpec)

end Rows
end Go.Proofs.Ytpdedjbkfcaebaa
