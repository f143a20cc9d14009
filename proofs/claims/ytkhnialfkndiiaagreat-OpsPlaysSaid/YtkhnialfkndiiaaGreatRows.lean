/-
  No cell of these rows narrows 'for every input' (looked for: loops, veiled, ifaces, maps, wideKeys, modest, calm, conditions, laid).
  DERIVED. THE GIVEN ROWS OF THIS SEAT. 8 by the template 'for every input the law returns true; each argument reads behind the call as it read before'; 0 by the template 'total and deterministic' (their statements: YtkhnialfkndiiaaGreatTotals.lean).
  GIVEN WITH THE SEED: the statements are not yours to turn. If you find one false, say at which input.
  Laid BY PROGRAM, IN A SANDBOX (cutbox-rows.mjs): the forced cells as the released guide's own fill.sh prints them over the translation b097403f5abb13b8… (all of the seat's roots in one cut). By AI agents, Wed Nov 11 2026. No macro, syntax, notation, axiom, sorry.
-/
import Derived.Test.YtkhnialfkndiiaaGreatChecked
import GoSem.Claim
import GoSem.ClaimJoined
import GoSem.ClaimMapViews
import Derived.JoinedTies
import Derived.KernelRfl
namespace Go.Proofs.YtkhnialfkndiiaaGreat
/- THE CELL 'sum', in the pinned program and in every row, IS THE sha256 OF THE DUMP (.gsa) THAT YtkhnialfkndiiaaGreatProg.lean LOADS. Nothing in Lean hashes anything: it is a label: what it is worth is what the hold of that sum in a sandbox is worth. -/
noncomputable def Tryz.pinned : Pinned := { name := "ytkhnialfkndiiaagreat", sum := "b097403f5abb13b8a63689f54f17b62cd04bce05f82251310d19d563f4aa9850", checked := Tryz.checked }
namespace Rows
def none {H : Type} : Left H := { results := [], args := [] }

/-- 'copyholdlaw11.OpsDoes': WHATEVER THE INPUT: true; the input reads as it did. -/
def opsDoesSpec : ChangeSpec := { name := "opsDoes", fn := fun _ => fun
  | [d1, d2, d3] => { results := [.lit (.bool true)], args := [d1, d2, d3] }
  | _ => none }
def opsDoesRow : OpenClaim := { program := "ytkhnialfkndiiaagreat", sum := "b097403f5abb13b8a63689f54f17b62cd04bce05f82251310d19d563f4aa9850", func := "copyhold/copyholdlaw11.OpsDoes", spec := "opsDoes", inPlace := ["internal/bytealg.IndexByteString", "internal/bytealg.IndexString"], unfollowed := true, recurses := true, named := ["internal/bytealg.MaxLen"], apart := false }
def OpsDoesSaid : Prop := opsDoesRow.holds Tryz.pinned (OpenSpec.ofChange opsDoesSpec)

/-- ITS FALSE NEIGHBOUR: 'it returns false'. Refute it at one input. -/
def opsDoesWrong : ChangeSpec := { name := "opsDoes", fn := fun _ => fun
  | [d1, d2, d3] => { results := [.lit (.bool false)], args := [d1, d2, d3] }
  | _ => none }
def OpsDoesWrongFalsely : Prop := opsDoesRow.holds Tryz.pinned (OpenSpec.ofChange opsDoesWrong)

/-- 'copyholdlaw11.OpsPlays': WHATEVER THE INPUT: true; the input reads as it did. -/
def opsPlaysSpec : ChangeSpec := { name := "opsPlays", fn := fun _ => fun
  | [d] => { results := [.lit (.bool true)], args := [d] }
  | _ => none }
def opsPlaysRow : OpenClaim := { program := "ytkhnialfkndiiaagreat", sum := "b097403f5abb13b8a63689f54f17b62cd04bce05f82251310d19d563f4aa9850", func := "copyhold/copyholdlaw11.OpsPlays", spec := "opsPlays", inPlace := ["internal/bytealg.IndexByteString", "internal/bytealg.IndexString"], unfollowed := true, recurses := true, named := ["internal/bytealg.MaxLen"], apart := false }
def OpsPlaysSaid : Prop := opsPlaysRow.holds Tryz.pinned (OpenSpec.ofChange opsPlaysSpec)

/-- ITS FALSE NEIGHBOUR: 'it returns false'. Refute it at one input. -/
def opsPlaysWrong : ChangeSpec := { name := "opsPlays", fn := fun _ => fun
  | [d] => { results := [.lit (.bool false)], args := [d] }
  | _ => none }
def OpsPlaysWrongFalsely : Prop := opsPlaysRow.holds Tryz.pinned (OpenSpec.ofChange opsPlaysWrong)

/-- 'copyholdlaw11.OpsStays': WHATEVER THE INPUT: true; the input reads as it did. -/
def opsStaysSpec : ChangeSpec := { name := "opsStays", fn := fun _ => fun
  | [d1, d2] => { results := [.lit (.bool true)], args := [d1, d2] }
  | _ => none }
def opsStaysRow : OpenClaim := { program := "ytkhnialfkndiiaagreat", sum := "b097403f5abb13b8a63689f54f17b62cd04bce05f82251310d19d563f4aa9850", func := "copyhold/copyholdlaw11.OpsStays", spec := "opsStays", inPlace := ["internal/bytealg.IndexByteString", "internal/bytealg.IndexString"], unfollowed := true, recurses := true, named := ["internal/bytealg.MaxLen"], apart := false }
def OpsStaysSaid : Prop := opsStaysRow.holds Tryz.pinned (OpenSpec.ofChange opsStaysSpec)

/-- ITS FALSE NEIGHBOUR: 'it returns false'. Refute it at one input. -/
def opsStaysWrong : ChangeSpec := { name := "opsStays", fn := fun _ => fun
  | [d1, d2] => { results := [.lit (.bool false)], args := [d1, d2] }
  | _ => none }
def OpsStaysWrongFalsely : Prop := opsStaysRow.holds Tryz.pinned (OpenSpec.ofChange opsStaysWrong)

/-- 'copyholdlaw11.OpsApplies': WHATEVER THE INPUT: true; the input reads as it did. -/
def opsAppliesSpec : ChangeSpec := { name := "opsApplies", fn := fun _ => fun
  | [d1, d2] => { results := [.lit (.bool true)], args := [d1, d2] }
  | _ => none }
def opsAppliesRow : OpenClaim := { program := "ytkhnialfkndiiaagreat", sum := "b097403f5abb13b8a63689f54f17b62cd04bce05f82251310d19d563f4aa9850", func := "copyhold/copyholdlaw11.OpsApplies", spec := "opsApplies", inPlace := ["internal/bytealg.IndexByteString", "internal/bytealg.IndexString"], unfollowed := true, recurses := true, named := ["internal/bytealg.MaxLen"], apart := false }
def OpsAppliesSaid : Prop := opsAppliesRow.holds Tryz.pinned (OpenSpec.ofChange opsAppliesSpec)

/-- ITS FALSE NEIGHBOUR: 'it returns false'. Refute it at one input. -/
def opsAppliesWrong : ChangeSpec := { name := "opsApplies", fn := fun _ => fun
  | [d1, d2] => { results := [.lit (.bool false)], args := [d1, d2] }
  | _ => none }
def OpsAppliesWrongFalsely : Prop := opsAppliesRow.holds Tryz.pinned (OpenSpec.ofChange opsAppliesWrong)

/-- 'copyholdlaw11.OpsReads': WHATEVER THE INPUT: true; the input reads as it did. -/
def opsReadsSpec : ChangeSpec := { name := "opsReads", fn := fun _ => fun
  | [d] => { results := [.lit (.bool true)], args := [d] }
  | _ => none }
def opsReadsRow : OpenClaim := { program := "ytkhnialfkndiiaagreat", sum := "b097403f5abb13b8a63689f54f17b62cd04bce05f82251310d19d563f4aa9850", func := "copyhold/copyholdlaw11.OpsReads", spec := "opsReads", inPlace := ["internal/bytealg.IndexByteString", "internal/bytealg.IndexString"], unfollowed := true, recurses := true, named := ["internal/bytealg.MaxLen"], apart := false }
def OpsReadsSaid : Prop := opsReadsRow.holds Tryz.pinned (OpenSpec.ofChange opsReadsSpec)

/-- ITS FALSE NEIGHBOUR: 'it returns false'. Refute it at one input. -/
def opsReadsWrong : ChangeSpec := { name := "opsReads", fn := fun _ => fun
  | [d] => { results := [.lit (.bool false)], args := [d] }
  | _ => none }
def OpsReadsWrongFalsely : Prop := opsReadsRow.holds Tryz.pinned (OpenSpec.ofChange opsReadsWrong)

/-- 'copyholdlaw11.OpsSplit': WHATEVER THE INPUT: true; the input reads as it did. -/
def opsSplitSpec : ChangeSpec := { name := "opsSplit", fn := fun _ => fun
  | [d1, d2, d3] => { results := [.lit (.bool true)], args := [d1, d2, d3] }
  | _ => none }
def opsSplitRow : OpenClaim := { program := "ytkhnialfkndiiaagreat", sum := "b097403f5abb13b8a63689f54f17b62cd04bce05f82251310d19d563f4aa9850", func := "copyhold/copyholdlaw11.OpsSplit", spec := "opsSplit", inPlace := ["internal/bytealg.IndexByteString", "internal/bytealg.IndexString"], unfollowed := true, recurses := true, named := ["internal/bytealg.MaxLen"], apart := false }
def OpsSplitSaid : Prop := opsSplitRow.holds Tryz.pinned (OpenSpec.ofChange opsSplitSpec)

/-- ITS FALSE NEIGHBOUR: 'it returns false'. Refute it at one input. -/
def opsSplitWrong : ChangeSpec := { name := "opsSplit", fn := fun _ => fun
  | [d1, d2, d3] => { results := [.lit (.bool false)], args := [d1, d2, d3] }
  | _ => none }
def OpsSplitWrongFalsely : Prop := opsSplitRow.holds Tryz.pinned (OpenSpec.ofChange opsSplitWrong)

/-- 'copyholdlaw11.OpsHangs': WHATEVER THE INPUT: true; the input reads as it did. -/
def opsHangsSpec : ChangeSpec := { name := "opsHangs", fn := fun _ => fun
  | [d] => { results := [.lit (.bool true)], args := [d] }
  | _ => none }
def opsHangsRow : OpenClaim := { program := "ytkhnialfkndiiaagreat", sum := "b097403f5abb13b8a63689f54f17b62cd04bce05f82251310d19d563f4aa9850", func := "copyhold/copyholdlaw11.OpsHangs", spec := "opsHangs", inPlace := ["internal/bytealg.IndexByteString", "internal/bytealg.IndexString"], unfollowed := true, recurses := true, named := ["internal/bytealg.MaxLen"], apart := false }
def OpsHangsSaid : Prop := opsHangsRow.holds Tryz.pinned (OpenSpec.ofChange opsHangsSpec)

/-- ITS FALSE NEIGHBOUR: 'it returns false'. Refute it at one input. -/
def opsHangsWrong : ChangeSpec := { name := "opsHangs", fn := fun _ => fun
  | [d] => { results := [.lit (.bool false)], args := [d] }
  | _ => none }
def OpsHangsWrongFalsely : Prop := opsHangsRow.holds Tryz.pinned (OpenSpec.ofChange opsHangsWrong)

/-- 'copyholdlaw11.OpsTouched': WHATEVER THE INPUT: true; the input reads as it did. -/
def opsTouchedSpec : ChangeSpec := { name := "opsTouched", fn := fun _ => fun
  | [d1, d2] => { results := [.lit (.bool true)], args := [d1, d2] }
  | _ => none }
def opsTouchedRow : OpenClaim := { program := "ytkhnialfkndiiaagreat", sum := "b097403f5abb13b8a63689f54f17b62cd04bce05f82251310d19d563f4aa9850", func := "copyhold/copyholdlaw11.OpsTouched", spec := "opsTouched", inPlace := ["internal/bytealg.IndexByteString", "internal/bytealg.IndexString"], unfollowed := true, recurses := true, named := ["internal/bytealg.MaxLen"], apart := false }
def OpsTouchedSaid : Prop := opsTouchedRow.holds Tryz.pinned (OpenSpec.ofChange opsTouchedSpec)

/-- ITS FALSE NEIGHBOUR: 'it returns false'. Refute it at one input. -/
def opsTouchedWrong : ChangeSpec := { name := "opsTouched", fn := fun _ => fun
  | [d1, d2] => { results := [.lit (.bool false)], args := [d1, d2] }
  | _ => none }
def OpsTouchedWrongFalsely : Prop := opsTouchedRow.holds Tryz.pinned (OpenSpec.ofChange opsTouchedWrong)

/- THE SECOND FORM. 'bulk': how many values and letters a reading holds, each counted each time it is reached (what is shared counts as often as it is met; a slice's spare places count too). A statement '..UptoSaid' is the law's where the arguments, and the package variables that the reading takes, are together of bulk at most 1048576: NARROWER than '..Said'. Prove '..Said' where nothing that the law and all that it calls make is longer than what came in: it says more and counts as full. Else prove '..UptoSaid'. A law counts once. -/
mutual
def uptoBulk {H : Type} : DataW H → Nat
  | .lit (.string bytes) => bytes.length + 1
  | .lit _ => 1
  | .nil => 1
  | .ptr d => uptoBulk d + 1
  | .slice elems spare => uptoBulkAll elems + uptoBulkAll spare + 1
  | .agg parts => uptoBulkAll parts + 1
  | .iface _ d => uptoBulk d + 1
  | .map entries => uptoBulkEntries entries + 1
  | .held _ => 1
def uptoBulkAll {H : Type} : List (DataW H) → Nat
  | [] => 0
  | d :: r => uptoBulk d + uptoBulkAll r
def uptoBulkEntries {H : Type} : List (Lit × DataW H) → Nat
  | [] => 0
  | x :: r => uptoBulkEntry x + uptoBulkEntries r
def uptoBulkEntry {H : Type} : Lit × DataW H → Nat
  | (.string bytes, d) => bytes.length + uptoBulk d + 1
  | (_, d) => uptoBulk d + 1
 end
def uptoSmall : (H : Type) → List (DataW H) → Bool := fun _ ds => decide (uptoBulkAll ds ≤ 1048576)
def OpenSpec.upto (s : _root_.Go.ChangeSpec) : _root_.Go.OpenSpec := { _root_.Go.OpenSpec.ofChange s with cond := some uptoSmall }

/-- 'copyholdlaw11.OpsDoes', WHERE WHAT IT READS IS OF BULK AT MOST 1048576: true; the input reads as it did. -/
def opsDoesUptoRow : OpenClaim := { program := "ytkhnialfkndiiaagreat", sum := "b097403f5abb13b8a63689f54f17b62cd04bce05f82251310d19d563f4aa9850", func := "copyhold/copyholdlaw11.OpsDoes", spec := "opsDoes", inPlace := ["internal/bytealg.IndexByteString", "internal/bytealg.IndexString"], unfollowed := true, recurses := true, named := ["internal/bytealg.MaxLen"], apart := false, narrowed := true }
def OpsDoesUptoSaid : Prop := opsDoesUptoRow.holds Tryz.pinned (OpenSpec.upto opsDoesSpec)

/-- 'copyholdlaw11.OpsPlays', WHERE WHAT IT READS IS OF BULK AT MOST 1048576: true; the input reads as it did. -/
def opsPlaysUptoRow : OpenClaim := { program := "ytkhnialfkndiiaagreat", sum := "b097403f5abb13b8a63689f54f17b62cd04bce05f82251310d19d563f4aa9850", func := "copyhold/copyholdlaw11.OpsPlays", spec := "opsPlays", inPlace := ["internal/bytealg.IndexByteString", "internal/bytealg.IndexString"], unfollowed := true, recurses := true, named := ["internal/bytealg.MaxLen"], apart := false, narrowed := true }
def OpsPlaysUptoSaid : Prop := opsPlaysUptoRow.holds Tryz.pinned (OpenSpec.upto opsPlaysSpec)

/-- 'copyholdlaw11.OpsStays', WHERE WHAT IT READS IS OF BULK AT MOST 1048576: true; the input reads as it did. -/
def opsStaysUptoRow : OpenClaim := { program := "ytkhnialfkndiiaagreat", sum := "b097403f5abb13b8a63689f54f17b62cd04bce05f82251310d19d563f4aa9850", func := "copyhold/copyholdlaw11.OpsStays", spec := "opsStays", inPlace := ["internal/bytealg.IndexByteString", "internal/bytealg.IndexString"], unfollowed := true, recurses := true, named := ["internal/bytealg.MaxLen"], apart := false, narrowed := true }
def OpsStaysUptoSaid : Prop := opsStaysUptoRow.holds Tryz.pinned (OpenSpec.upto opsStaysSpec)

/-- 'copyholdlaw11.OpsApplies', WHERE WHAT IT READS IS OF BULK AT MOST 1048576: true; the input reads as it did. -/
def opsAppliesUptoRow : OpenClaim := { program := "ytkhnialfkndiiaagreat", sum := "b097403f5abb13b8a63689f54f17b62cd04bce05f82251310d19d563f4aa9850", func := "copyhold/copyholdlaw11.OpsApplies", spec := "opsApplies", inPlace := ["internal/bytealg.IndexByteString", "internal/bytealg.IndexString"], unfollowed := true, recurses := true, named := ["internal/bytealg.MaxLen"], apart := false, narrowed := true }
def OpsAppliesUptoSaid : Prop := opsAppliesUptoRow.holds Tryz.pinned (OpenSpec.upto opsAppliesSpec)

/-- 'copyholdlaw11.OpsReads', WHERE WHAT IT READS IS OF BULK AT MOST 1048576: true; the input reads as it did. -/
def opsReadsUptoRow : OpenClaim := { program := "ytkhnialfkndiiaagreat", sum := "b097403f5abb13b8a63689f54f17b62cd04bce05f82251310d19d563f4aa9850", func := "copyhold/copyholdlaw11.OpsReads", spec := "opsReads", inPlace := ["internal/bytealg.IndexByteString", "internal/bytealg.IndexString"], unfollowed := true, recurses := true, named := ["internal/bytealg.MaxLen"], apart := false, narrowed := true }
def OpsReadsUptoSaid : Prop := opsReadsUptoRow.holds Tryz.pinned (OpenSpec.upto opsReadsSpec)

/-- 'copyholdlaw11.OpsSplit', WHERE WHAT IT READS IS OF BULK AT MOST 1048576: true; the input reads as it did. -/
def opsSplitUptoRow : OpenClaim := { program := "ytkhnialfkndiiaagreat", sum := "b097403f5abb13b8a63689f54f17b62cd04bce05f82251310d19d563f4aa9850", func := "copyhold/copyholdlaw11.OpsSplit", spec := "opsSplit", inPlace := ["internal/bytealg.IndexByteString", "internal/bytealg.IndexString"], unfollowed := true, recurses := true, named := ["internal/bytealg.MaxLen"], apart := false, narrowed := true }
def OpsSplitUptoSaid : Prop := opsSplitUptoRow.holds Tryz.pinned (OpenSpec.upto opsSplitSpec)

/-- 'copyholdlaw11.OpsHangs', WHERE WHAT IT READS IS OF BULK AT MOST 1048576: true; the input reads as it did. -/
def opsHangsUptoRow : OpenClaim := { program := "ytkhnialfkndiiaagreat", sum := "b097403f5abb13b8a63689f54f17b62cd04bce05f82251310d19d563f4aa9850", func := "copyhold/copyholdlaw11.OpsHangs", spec := "opsHangs", inPlace := ["internal/bytealg.IndexByteString", "internal/bytealg.IndexString"], unfollowed := true, recurses := true, named := ["internal/bytealg.MaxLen"], apart := false, narrowed := true }
def OpsHangsUptoSaid : Prop := opsHangsUptoRow.holds Tryz.pinned (OpenSpec.upto opsHangsSpec)

/-- 'copyholdlaw11.OpsTouched', WHERE WHAT IT READS IS OF BULK AT MOST 1048576: true; the input reads as it did. -/
def opsTouchedUptoRow : OpenClaim := { program := "ytkhnialfkndiiaagreat", sum := "b097403f5abb13b8a63689f54f17b62cd04bce05f82251310d19d563f4aa9850", func := "copyhold/copyholdlaw11.OpsTouched", spec := "opsTouched", inPlace := ["internal/bytealg.IndexByteString", "internal/bytealg.IndexString"], unfollowed := true, recurses := true, named := ["internal/bytealg.MaxLen"], apart := false, narrowed := true }
def OpsTouchedUptoSaid : Prop := opsTouchedUptoRow.holds Tryz.pinned (OpenSpec.upto opsTouchedSpec)

end Rows
end Go.Proofs.YtkhnialfkndiiaaGreat
