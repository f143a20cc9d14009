/-
  No cell of these rows narrows 'for every input' (looked for: loops, veiled, ifaces, maps, wideKeys, modest, calm, conditions, laid).
  DERIVED. THE GIVEN ROWS OF THIS SEAT. 7 by the template 'for every input the law returns true; each argument reads behind the call as it read before'; 0 by the template 'total and deterministic' (their statements: YtcckbiaigcideaaTotals.lean).
  GIVEN WITH THE SEED: the statements are not yours to turn. If you find one false, say at which input.
  Laid BY PROGRAM, IN A SANDBOX (cutbox-rows.mjs): the forced cells as the released guide's own fill.sh prints them over the translation c587107dca07d923… (all of the seat's roots in one cut). By AI agents, Wed Nov 11 2026. No macro, syntax, notation, axiom, sorry.
-/
import Derived.Test.YtcckbiaigcideaaChecked
import GoSem.Claim
import GoSem.ClaimJoined
import GoSem.ClaimMapViews
import Derived.JoinedTies
import Derived.KernelRfl
namespace Go.Proofs.Ytcckbiaigcideaa
/- THE CELL 'sum', in the pinned program and in every row, IS THE sha256 OF THE DUMP (.gsa) THAT YtcckbiaigcideaaProg.lean LOADS. Nothing in Lean hashes anything: it is a label: what it is worth is what the hold of that sum in a sandbox is worth. -/
noncomputable def Try.pinned : Pinned := { name := "ytcckbiaigcideaa", sum := "c587107dca07d923479e84f9b67c43d10af50fb86387504083f4e61dbffc098f", checked := Try.checked }
namespace Rows
def none {H : Type} : Left H := { results := [], args := [] }

/-- 'copyholdlaw03.SpanPairs': WHATEVER THE INPUT: true; the input reads as it did. -/
def spanPairsSpec : ChangeSpec := { name := "spanPairs", fn := fun _ => fun
  | [d1, d2, d3] => { results := [.lit (.bool true)], args := [d1, d2, d3] }
  | _ => none }
def spanPairsRow : OpenClaim := { program := "ytcckbiaigcideaa", sum := "c587107dca07d923479e84f9b67c43d10af50fb86387504083f4e61dbffc098f", func := "copyhold/copyholdlaw03.SpanPairs", spec := "spanPairs", inPlace := ["math.Float64bits", "math.archFloor", "math.Float64frombits", "math.archTrunc"], apart := false }
def SpanPairsSaid : Prop := spanPairsRow.holds Try.pinned (OpenSpec.ofChange spanPairsSpec)

/-- ITS FALSE NEIGHBOUR: 'it returns false'. Refute it at one input. -/
def spanPairsWrong : ChangeSpec := { name := "spanPairs", fn := fun _ => fun
  | [d1, d2, d3] => { results := [.lit (.bool false)], args := [d1, d2, d3] }
  | _ => none }
def SpanPairsWrongFalsely : Prop := spanPairsRow.holds Try.pinned (OpenSpec.ofChange spanPairsWrong)

/-- 'copyholdlaw03.SpanRights': WHATEVER THE INPUT: true; the input reads as it did. -/
def spanRightsSpec : ChangeSpec := { name := "spanRights", fn := fun _ => fun
  | [d] => { results := [.lit (.bool true)], args := [d] }
  | _ => none }
def spanRightsRow : OpenClaim := { program := "ytcckbiaigcideaa", sum := "c587107dca07d923479e84f9b67c43d10af50fb86387504083f4e61dbffc098f", func := "copyhold/copyholdlaw03.SpanRights", spec := "spanRights", inPlace := ["math.Float64bits", "math.archFloor", "math.Float64frombits", "math.archTrunc"], apart := false }
def SpanRightsSaid : Prop := spanRightsRow.holds Try.pinned (OpenSpec.ofChange spanRightsSpec)

/-- ITS FALSE NEIGHBOUR: 'it returns false'. Refute it at one input. -/
def spanRightsWrong : ChangeSpec := { name := "spanRights", fn := fun _ => fun
  | [d] => { results := [.lit (.bool false)], args := [d] }
  | _ => none }
def SpanRightsWrongFalsely : Prop := spanRightsRow.holds Try.pinned (OpenSpec.ofChange spanRightsWrong)

/-- 'copyholdlaw03.SpanClean': WHATEVER THE INPUT: true; the input reads as it did. -/
def spanCleanSpec : ChangeSpec := { name := "spanClean", fn := fun _ => fun
  | [d1, d2] => { results := [.lit (.bool true)], args := [d1, d2] }
  | _ => none }
def spanCleanRow : OpenClaim := { program := "ytcckbiaigcideaa", sum := "c587107dca07d923479e84f9b67c43d10af50fb86387504083f4e61dbffc098f", func := "copyhold/copyholdlaw03.SpanClean", spec := "spanClean", unfollowed := true, recurses := true, apart := false }
def SpanCleanSaid : Prop := spanCleanRow.holds Try.pinned (OpenSpec.ofChange spanCleanSpec)

/-- ITS FALSE NEIGHBOUR: 'it returns false'. Refute it at one input. -/
def spanCleanWrong : ChangeSpec := { name := "spanClean", fn := fun _ => fun
  | [d1, d2] => { results := [.lit (.bool false)], args := [d1, d2] }
  | _ => none }
def SpanCleanWrongFalsely : Prop := spanCleanRow.holds Try.pinned (OpenSpec.ofChange spanCleanWrong)

/-- 'copyholdlaw03.SpanBoths': WHATEVER THE INPUT: true; the input reads as it did. -/
def spanBothsSpec : ChangeSpec := { name := "spanBoths", fn := fun _ => fun
  | [d1, d2, d3] => { results := [.lit (.bool true)], args := [d1, d2, d3] }
  | _ => none }
def spanBothsRow : OpenClaim := { program := "ytcckbiaigcideaa", sum := "c587107dca07d923479e84f9b67c43d10af50fb86387504083f4e61dbffc098f", func := "copyhold/copyholdlaw03.SpanBoths", spec := "spanBoths", unfollowed := true, recurses := true, apart := false }
def SpanBothsSaid : Prop := spanBothsRow.holds Try.pinned (OpenSpec.ofChange spanBothsSpec)

/-- ITS FALSE NEIGHBOUR: 'it returns false'. Refute it at one input. -/
def spanBothsWrong : ChangeSpec := { name := "spanBoths", fn := fun _ => fun
  | [d1, d2, d3] => { results := [.lit (.bool false)], args := [d1, d2, d3] }
  | _ => none }
def SpanBothsWrongFalsely : Prop := spanBothsRow.holds Try.pinned (OpenSpec.ofChange spanBothsWrong)

/-- 'copyholdlaw03.SpanShifts': WHATEVER THE INPUT: true; the input reads as it did. -/
def spanShiftsSpec : ChangeSpec := { name := "spanShifts", fn := fun _ => fun
  | [d1, d2, d3] => { results := [.lit (.bool true)], args := [d1, d2, d3] }
  | _ => none }
def spanShiftsRow : OpenClaim := { program := "ytcckbiaigcideaa", sum := "c587107dca07d923479e84f9b67c43d10af50fb86387504083f4e61dbffc098f", func := "copyhold/copyholdlaw03.SpanShifts", spec := "spanShifts", apart := false }
def SpanShiftsSaid : Prop := spanShiftsRow.holds Try.pinned (OpenSpec.ofChange spanShiftsSpec)

/-- ITS FALSE NEIGHBOUR: 'it returns false'. Refute it at one input. -/
def spanShiftsWrong : ChangeSpec := { name := "spanShifts", fn := fun _ => fun
  | [d1, d2, d3] => { results := [.lit (.bool false)], args := [d1, d2, d3] }
  | _ => none }
def SpanShiftsWrongFalsely : Prop := spanShiftsRow.holds Try.pinned (OpenSpec.ofChange spanShiftsWrong)

/-- 'copyholdlaw03.SpanSizes': WHATEVER THE INPUT: true; the input reads as it did. -/
def spanSizesSpec : ChangeSpec := { name := "spanSizes", fn := fun _ => fun
  | [d1, d2] => { results := [.lit (.bool true)], args := [d1, d2] }
  | _ => none }
def spanSizesRow : OpenClaim := { program := "ytcckbiaigcideaa", sum := "c587107dca07d923479e84f9b67c43d10af50fb86387504083f4e61dbffc098f", func := "copyhold/copyholdlaw03.SpanSizes", spec := "spanSizes", unfollowed := true, recurses := true, apart := false }
def SpanSizesSaid : Prop := spanSizesRow.holds Try.pinned (OpenSpec.ofChange spanSizesSpec)

/-- ITS FALSE NEIGHBOUR: 'it returns false'. Refute it at one input. -/
def spanSizesWrong : ChangeSpec := { name := "spanSizes", fn := fun _ => fun
  | [d1, d2] => { results := [.lit (.bool false)], args := [d1, d2] }
  | _ => none }
def SpanSizesWrongFalsely : Prop := spanSizesRow.holds Try.pinned (OpenSpec.ofChange spanSizesWrong)

/-- 'copyholdlaw03.SpanAround': WHATEVER THE INPUT: true; the input reads as it did. -/
def spanAroundSpec : ChangeSpec := { name := "spanAround", fn := fun _ => fun
  | [d1, d2] => { results := [.lit (.bool true)], args := [d1, d2] }
  | _ => none }
def spanAroundRow : OpenClaim := { program := "ytcckbiaigcideaa", sum := "c587107dca07d923479e84f9b67c43d10af50fb86387504083f4e61dbffc098f", func := "copyhold/copyholdlaw03.SpanAround", spec := "spanAround", inPlace := ["math.Float64bits", "math.archFloor", "math.Float64frombits", "math.archTrunc"], apart := false }
def SpanAroundSaid : Prop := spanAroundRow.holds Try.pinned (OpenSpec.ofChange spanAroundSpec)

/-- ITS FALSE NEIGHBOUR: 'it returns false'. Refute it at one input. -/
def spanAroundWrong : ChangeSpec := { name := "spanAround", fn := fun _ => fun
  | [d1, d2] => { results := [.lit (.bool false)], args := [d1, d2] }
  | _ => none }
def SpanAroundWrongFalsely : Prop := spanAroundRow.holds Try.pinned (OpenSpec.ofChange spanAroundWrong)

/- THE SECOND FORM. 'bulk': how many values and letters a reading holds, each counted each time it is reached (what is shared counts as often as it is met; a slice's spare places count too). A statement '..UptoSaid' is the law's where the arguments, and the package variables that the reading takes, are together of bulk at most 1048576: NARROWER than '..Said'. Prove '..Said' where nothing that the law and all that it calls make is longer than what came in: it says more and counts as full. Else prove '..UptoSaid'. A law counts once. -/
mutual
def uptoBulk {H : Type} : DataW H → Nat
  | .lit (.string bytes) => bytes.length + 1
  | .lit _ => 1
  | .nil => 1
  | .ptr d => uptoBulk d + 1
  | .slice elems spare => uptoBulkAll elems + uptoBulkAll spare + 1
  | .agg parts => uptoBulkAll parts + 1
  | .iface _ d => uptoBulk d + 1
  | .map entries => uptoBulkEntries entries + 1
  | .held _ => 1
def uptoBulkAll {H : Type} : List (DataW H) → Nat
  | [] => 0
  | d :: r => uptoBulk d + uptoBulkAll r
def uptoBulkEntries {H : Type} : List (Lit × DataW H) → Nat
  | [] => 0
  | x :: r => uptoBulkEntry x + uptoBulkEntries r
def uptoBulkEntry {H : Type} : Lit × DataW H → Nat
  | (.string bytes, d) => bytes.length + uptoBulk d + 1
  | (_, d) => uptoBulk d + 1
 end
def uptoSmall : (H : Type) → List (DataW H) → Bool := fun _ ds => decide (uptoBulkAll ds ≤ 1048576)
def OpenSpec.upto (s : _root_.Go.ChangeSpec) : _root_.Go.OpenSpec := { _root_.Go.OpenSpec.ofChange s with cond := some uptoSmall }

/-- 'copyholdlaw03.SpanPairs', WHERE WHAT IT READS IS OF BULK AT MOST 1048576: true; the input reads as it did. -/
def spanPairsUptoRow : OpenClaim := { program := "ytcckbiaigcideaa", sum := "c587107dca07d923479e84f9b67c43d10af50fb86387504083f4e61dbffc098f", func := "copyhold/copyholdlaw03.SpanPairs", spec := "spanPairs", inPlace := ["math.Float64bits", "math.archFloor", "math.Float64frombits", "math.archTrunc"], apart := false, narrowed := true }
def SpanPairsUptoSaid : Prop := spanPairsUptoRow.holds Try.pinned (OpenSpec.upto spanPairsSpec)

/-- 'copyholdlaw03.SpanRights', WHERE WHAT IT READS IS OF BULK AT MOST 1048576: true; the input reads as it did. -/
def spanRightsUptoRow : OpenClaim := { program := "ytcckbiaigcideaa", sum := "c587107dca07d923479e84f9b67c43d10af50fb86387504083f4e61dbffc098f", func := "copyhold/copyholdlaw03.SpanRights", spec := "spanRights", inPlace := ["math.Float64bits", "math.archFloor", "math.Float64frombits", "math.archTrunc"], apart := false, narrowed := true }
def SpanRightsUptoSaid : Prop := spanRightsUptoRow.holds Try.pinned (OpenSpec.upto spanRightsSpec)

/-- 'copyholdlaw03.SpanClean', WHERE WHAT IT READS IS OF BULK AT MOST 1048576: true; the input reads as it did. -/
def spanCleanUptoRow : OpenClaim := { program := "ytcckbiaigcideaa", sum := "c587107dca07d923479e84f9b67c43d10af50fb86387504083f4e61dbffc098f", func := "copyhold/copyholdlaw03.SpanClean", spec := "spanClean", unfollowed := true, recurses := true, apart := false, narrowed := true }
def SpanCleanUptoSaid : Prop := spanCleanUptoRow.holds Try.pinned (OpenSpec.upto spanCleanSpec)

/-- 'copyholdlaw03.SpanBoths', WHERE WHAT IT READS IS OF BULK AT MOST 1048576: true; the input reads as it did. -/
def spanBothsUptoRow : OpenClaim := { program := "ytcckbiaigcideaa", sum := "c587107dca07d923479e84f9b67c43d10af50fb86387504083f4e61dbffc098f", func := "copyhold/copyholdlaw03.SpanBoths", spec := "spanBoths", unfollowed := true, recurses := true, apart := false, narrowed := true }
def SpanBothsUptoSaid : Prop := spanBothsUptoRow.holds Try.pinned (OpenSpec.upto spanBothsSpec)

/-- 'copyholdlaw03.SpanShifts', WHERE WHAT IT READS IS OF BULK AT MOST 1048576: true; the input reads as it did. -/
def spanShiftsUptoRow : OpenClaim := { program := "ytcckbiaigcideaa", sum := "c587107dca07d923479e84f9b67c43d10af50fb86387504083f4e61dbffc098f", func := "copyhold/copyholdlaw03.SpanShifts", spec := "spanShifts", apart := false, narrowed := true }
def SpanShiftsUptoSaid : Prop := spanShiftsUptoRow.holds Try.pinned (OpenSpec.upto spanShiftsSpec)

/-- 'copyholdlaw03.SpanSizes', WHERE WHAT IT READS IS OF BULK AT MOST 1048576: true; the input reads as it did. -/
def spanSizesUptoRow : OpenClaim := { program := "ytcckbiaigcideaa", sum := "c587107dca07d923479e84f9b67c43d10af50fb86387504083f4e61dbffc098f", func := "copyhold/copyholdlaw03.SpanSizes", spec := "spanSizes", unfollowed := true, recurses := true, apart := false, narrowed := true }
def SpanSizesUptoSaid : Prop := spanSizesUptoRow.holds Try.pinned (OpenSpec.upto spanSizesSpec)

/-- 'copyholdlaw03.SpanAround', WHERE WHAT IT READS IS OF BULK AT MOST 1048576: true; the input reads as it did. -/
def spanAroundUptoRow : OpenClaim := { program := "ytcckbiaigcideaa", sum := "c587107dca07d923479e84f9b67c43d10af50fb86387504083f4e61dbffc098f", func := "copyhold/copyholdlaw03.SpanAround", spec := "spanAround", inPlace := ["math.Float64bits", "math.archFloor", "math.Float64frombits", "math.archTrunc"], apart := false, narrowed := true }
def SpanAroundUptoSaid : Prop := spanAroundUptoRow.holds Try.pinned (OpenSpec.upto spanAroundSpec)

end Rows
end Go.Proofs.Ytcckbiaigcideaa
