/-
  No cell of these rows narrows 'for every input' (looked for: loops, veiled, ifaces, maps, wideKeys, modest, calm, conditions, laid).
  DERIVED. THE GIVEN ROWS OF THIS SEAT. 8 by the template 'for every input the law returns true; each argument reads behind the call as it read before'; 0 by the template 'total and deterministic' (their statements: YtahlldgocpabjaaGreatTotals.lean).
  GIVEN WITH THE SEED: the statements are not yours to turn. If you find one false, say at which input.
  Laid BY PROGRAM, IN A SANDBOX (cutbox-rows.mjs): the forced cells as the released guide's own fill.sh prints them over the translation 271c84fabded6234… (all of the seat's roots in one cut). By AI agents, Wed Nov 11 2026. No macro, syntax, notation, axiom, sorry.
-/
import Derived.Test.YtahlldgocpabjaaGreatChecked
import GoSem.Claim
import GoSem.ClaimJoined
import GoSem.ClaimMapViews
import Derived.JoinedTies
import Derived.KernelRfl
namespace Go.Proofs.YtahlldgocpabjaaGreat
/- THE CELL 'sum', in the pinned program and in every row, IS THE sha256 OF THE DUMP (.gsa) THAT YtahlldgocpabjaaGreatProg.lean LOADS. Nothing in Lean hashes anything: it is a label: what it is worth is what the hold of that sum in a sandbox is worth. -/
noncomputable def Tryz.pinned : Pinned := { name := "ytahlldgocpabjaagreat", sum := "271c84fabded62341fe6de9d0dbca9abb3b3db295544aa7a8d3904f6325cf926", checked := Tryz.checked }
namespace Rows
def none {H : Type} : Left H := { results := [], args := [] }

/-- 'copyholdlaw13.TransSteps': WHATEVER THE INPUT: true; the input reads as it did. -/
def transStepsSpec : ChangeSpec := { name := "transSteps", fn := fun _ => fun
  | [d] => { results := [.lit (.bool true)], args := [d] }
  | _ => none }
def transStepsRow : OpenClaim := { program := "ytahlldgocpabjaagreat", sum := "271c84fabded62341fe6de9d0dbca9abb3b3db295544aa7a8d3904f6325cf926", func := "copyhold/copyholdlaw13.TransSteps", spec := "transSteps", inPlace := ["internal/bytealg.IndexByteString", "internal/bytealg.IndexString", "slices.overlaps[copyhold/api.Chain]", "slices.overlaps[copyhold/api.Ver]", "slices.overlaps[copyhold/api.Count]"], unfollowed := true, recurses := true, named := ["internal/bytealg.MaxLen"], apart := false }
def TransStepsSaid : Prop := transStepsRow.holds Tryz.pinned (OpenSpec.ofChange transStepsSpec)

/-- ITS FALSE NEIGHBOUR: 'it returns false'. Refute it at one input. -/
def transStepsWrong : ChangeSpec := { name := "transSteps", fn := fun _ => fun
  | [d] => { results := [.lit (.bool false)], args := [d] }
  | _ => none }
def TransStepsWrongFalsely : Prop := transStepsRow.holds Tryz.pinned (OpenSpec.ofChange transStepsWrong)

/-- 'copyholdlaw13.TransCommits': WHATEVER THE INPUT: true; the input reads as it did. -/
def transCommitsSpec : ChangeSpec := { name := "transCommits", fn := fun _ => fun
  | [d1, d2, d3] => { results := [.lit (.bool true)], args := [d1, d2, d3] }
  | _ => none }
def transCommitsRow : OpenClaim := { program := "ytahlldgocpabjaagreat", sum := "271c84fabded62341fe6de9d0dbca9abb3b3db295544aa7a8d3904f6325cf926", func := "copyhold/copyholdlaw13.TransCommits", spec := "transCommits", inPlace := ["internal/bytealg.IndexByteString", "internal/bytealg.IndexString", "slices.overlaps[copyhold/api.Chain]", "slices.overlaps[copyhold/api.Ver]", "slices.overlaps[copyhold/api.Count]"], unfollowed := true, recurses := true, named := ["internal/bytealg.MaxLen"], apart := false }
def TransCommitsSaid : Prop := transCommitsRow.holds Tryz.pinned (OpenSpec.ofChange transCommitsSpec)

/-- ITS FALSE NEIGHBOUR: 'it returns false'. Refute it at one input. -/
def transCommitsWrong : ChangeSpec := { name := "transCommits", fn := fun _ => fun
  | [d1, d2, d3] => { results := [.lit (.bool false)], args := [d1, d2, d3] }
  | _ => none }
def TransCommitsWrongFalsely : Prop := transCommitsRow.holds Tryz.pinned (OpenSpec.ofChange transCommitsWrong)

/-- 'copyholdlaw13.TransSerial': WHATEVER THE INPUT: true; the input reads as it did. -/
def transSerialSpec : ChangeSpec := { name := "transSerial", fn := fun _ => fun
  | [d1, d2, d3] => { results := [.lit (.bool true)], args := [d1, d2, d3] }
  | _ => none }
def transSerialRow : OpenClaim := { program := "ytahlldgocpabjaagreat", sum := "271c84fabded62341fe6de9d0dbca9abb3b3db295544aa7a8d3904f6325cf926", func := "copyhold/copyholdlaw13.TransSerial", spec := "transSerial", inPlace := ["internal/bytealg.IndexByteString", "internal/bytealg.IndexString", "slices.overlaps[copyhold/api.Chain]", "slices.overlaps[copyhold/api.Ver]", "slices.overlaps[copyhold/api.Count]"], unfollowed := true, recurses := true, named := ["internal/bytealg.MaxLen"], apart := false }
def TransSerialSaid : Prop := transSerialRow.holds Tryz.pinned (OpenSpec.ofChange transSerialSpec)

/-- ITS FALSE NEIGHBOUR: 'it returns false'. Refute it at one input. -/
def transSerialWrong : ChangeSpec := { name := "transSerial", fn := fun _ => fun
  | [d1, d2, d3] => { results := [.lit (.bool false)], args := [d1, d2, d3] }
  | _ => none }
def TransSerialWrongFalsely : Prop := transSerialRow.holds Tryz.pinned (OpenSpec.ofChange transSerialWrong)

/-- 'copyholdlaw13.TransStays': WHATEVER THE INPUT: true; the input reads as it did. -/
def transStaysSpec : ChangeSpec := { name := "transStays", fn := fun _ => fun
  | [d1, d2, d3] => { results := [.lit (.bool true)], args := [d1, d2, d3] }
  | _ => none }
def transStaysRow : OpenClaim := { program := "ytahlldgocpabjaagreat", sum := "271c84fabded62341fe6de9d0dbca9abb3b3db295544aa7a8d3904f6325cf926", func := "copyhold/copyholdlaw13.TransStays", spec := "transStays", inPlace := ["internal/bytealg.IndexByteString", "internal/bytealg.IndexString", "slices.overlaps[copyhold/api.Chain]", "slices.overlaps[copyhold/api.Ver]", "slices.overlaps[copyhold/api.Count]"], unfollowed := true, recurses := true, named := ["internal/bytealg.MaxLen"], apart := false }
def TransStaysSaid : Prop := transStaysRow.holds Tryz.pinned (OpenSpec.ofChange transStaysSpec)

/-- ITS FALSE NEIGHBOUR: 'it returns false'. Refute it at one input. -/
def transStaysWrong : ChangeSpec := { name := "transStays", fn := fun _ => fun
  | [d1, d2, d3] => { results := [.lit (.bool false)], args := [d1, d2, d3] }
  | _ => none }
def TransStaysWrongFalsely : Prop := transStaysRow.holds Tryz.pinned (OpenSpec.ofChange transStaysWrong)

/-- 'copyholdlaw13.TransFresh': WHATEVER THE INPUT: true; the input reads as it did. -/
def transFreshSpec : ChangeSpec := { name := "transFresh", fn := fun _ => fun
  | [d1, d2] => { results := [.lit (.bool true)], args := [d1, d2] }
  | _ => none }
def transFreshRow : OpenClaim := { program := "ytahlldgocpabjaagreat", sum := "271c84fabded62341fe6de9d0dbca9abb3b3db295544aa7a8d3904f6325cf926", func := "copyhold/copyholdlaw13.TransFresh", spec := "transFresh", inPlace := ["internal/bytealg.IndexByteString", "internal/bytealg.IndexString", "slices.overlaps[copyhold/api.Chain]", "slices.overlaps[copyhold/api.Ver]", "slices.overlaps[copyhold/api.Count]"], unfollowed := true, recurses := true, named := ["internal/bytealg.MaxLen"], apart := false }
def TransFreshSaid : Prop := transFreshRow.holds Tryz.pinned (OpenSpec.ofChange transFreshSpec)

/-- ITS FALSE NEIGHBOUR: 'it returns false'. Refute it at one input. -/
def transFreshWrong : ChangeSpec := { name := "transFresh", fn := fun _ => fun
  | [d1, d2] => { results := [.lit (.bool false)], args := [d1, d2] }
  | _ => none }
def TransFreshWrongFalsely : Prop := transFreshRow.holds Tryz.pinned (OpenSpec.ofChange transFreshWrong)

/-- 'copyholdlaw13.TransIdle': WHATEVER THE INPUT: true; the input reads as it did. -/
def transIdleSpec : ChangeSpec := { name := "transIdle", fn := fun _ => fun
  | [d1, d2, d3] => { results := [.lit (.bool true)], args := [d1, d2, d3] }
  | _ => none }
def transIdleRow : OpenClaim := { program := "ytahlldgocpabjaagreat", sum := "271c84fabded62341fe6de9d0dbca9abb3b3db295544aa7a8d3904f6325cf926", func := "copyhold/copyholdlaw13.TransIdle", spec := "transIdle", inPlace := ["internal/bytealg.IndexByteString", "internal/bytealg.IndexString", "slices.overlaps[copyhold/api.Chain]", "slices.overlaps[copyhold/api.Ver]", "slices.overlaps[copyhold/api.Count]"], unfollowed := true, recurses := true, named := ["internal/bytealg.MaxLen"], apart := false }
def TransIdleSaid : Prop := transIdleRow.holds Tryz.pinned (OpenSpec.ofChange transIdleSpec)

/-- ITS FALSE NEIGHBOUR: 'it returns false'. Refute it at one input. -/
def transIdleWrong : ChangeSpec := { name := "transIdle", fn := fun _ => fun
  | [d1, d2, d3] => { results := [.lit (.bool false)], args := [d1, d2, d3] }
  | _ => none }
def TransIdleWrongFalsely : Prop := transIdleRow.holds Tryz.pinned (OpenSpec.ofChange transIdleWrong)

/-- 'copyholdlaw13.TransApart': WHATEVER THE INPUT: true; the input reads as it did. -/
def transApartSpec : ChangeSpec := { name := "transApart", fn := fun _ => fun
  | [d1, d2, d3] => { results := [.lit (.bool true)], args := [d1, d2, d3] }
  | _ => none }
def transApartRow : OpenClaim := { program := "ytahlldgocpabjaagreat", sum := "271c84fabded62341fe6de9d0dbca9abb3b3db295544aa7a8d3904f6325cf926", func := "copyhold/copyholdlaw13.TransApart", spec := "transApart", inPlace := ["internal/bytealg.IndexByteString", "internal/bytealg.IndexString", "slices.overlaps[copyhold/api.Chain]", "slices.overlaps[copyhold/api.Ver]", "slices.overlaps[copyhold/api.Count]"], unfollowed := true, recurses := true, named := ["internal/bytealg.MaxLen"], apart := false }
def TransApartSaid : Prop := transApartRow.holds Tryz.pinned (OpenSpec.ofChange transApartSpec)

/-- ITS FALSE NEIGHBOUR: 'it returns false'. Refute it at one input. -/
def transApartWrong : ChangeSpec := { name := "transApart", fn := fun _ => fun
  | [d1, d2, d3] => { results := [.lit (.bool false)], args := [d1, d2, d3] }
  | _ => none }
def TransApartWrongFalsely : Prop := transApartRow.holds Tryz.pinned (OpenSpec.ofChange transApartWrong)

/-- 'copyholdlaw13.TransSees': WHATEVER THE INPUT: true; the input reads as it did. -/
def transSeesSpec : ChangeSpec := { name := "transSees", fn := fun _ => fun
  | [d] => { results := [.lit (.bool true)], args := [d] }
  | _ => none }
def transSeesRow : OpenClaim := { program := "ytahlldgocpabjaagreat", sum := "271c84fabded62341fe6de9d0dbca9abb3b3db295544aa7a8d3904f6325cf926", func := "copyhold/copyholdlaw13.TransSees", spec := "transSees", inPlace := ["internal/bytealg.IndexByteString", "internal/bytealg.IndexString", "slices.overlaps[copyhold/api.Chain]", "slices.overlaps[copyhold/api.Ver]", "slices.overlaps[copyhold/api.Count]"], unfollowed := true, recurses := true, named := ["internal/bytealg.MaxLen"], apart := false }
def TransSeesSaid : Prop := transSeesRow.holds Tryz.pinned (OpenSpec.ofChange transSeesSpec)

/-- ITS FALSE NEIGHBOUR: 'it returns false'. Refute it at one input. -/
def transSeesWrong : ChangeSpec := { name := "transSees", fn := fun _ => fun
  | [d] => { results := [.lit (.bool false)], args := [d] }
  | _ => none }
def TransSeesWrongFalsely : Prop := transSeesRow.holds Tryz.pinned (OpenSpec.ofChange transSeesWrong)

/- THE SECOND FORM. 'bulk': how many values and letters a reading holds, each counted each time it is reached (what is shared counts as often as it is met; a slice's spare places count too). A statement '..UptoSaid' is the law's where the arguments, and the package variables that the reading takes, are together of bulk at most 1048576: NARROWER than '..Said'. Prove '..Said' where nothing that the law and all that it calls make is longer than what came in: it says more and counts as full. Else prove '..UptoSaid'. A law counts once. -/
mutual
def uptoBulk {H : Type} : DataW H → Nat
  | .lit (.string bytes) => bytes.length + 1
  | .lit _ => 1
  | .nil => 1
  | .ptr d => uptoBulk d + 1
  | .slice elems spare => uptoBulkAll elems + uptoBulkAll spare + 1
  | .agg parts => uptoBulkAll parts + 1
  | .iface _ d => uptoBulk d + 1
  | .map entries => uptoBulkEntries entries + 1
  | .held _ => 1
def uptoBulkAll {H : Type} : List (DataW H) → Nat
  | [] => 0
  | d :: r => uptoBulk d + uptoBulkAll r
def uptoBulkEntries {H : Type} : List (Lit × DataW H) → Nat
  | [] => 0
  | x :: r => uptoBulkEntry x + uptoBulkEntries r
def uptoBulkEntry {H : Type} : Lit × DataW H → Nat
  | (.string bytes, d) => bytes.length + uptoBulk d + 1
  | (_, d) => uptoBulk d + 1
 end
def uptoSmall : (H : Type) → List (DataW H) → Bool := fun _ ds => decide (uptoBulkAll ds ≤ 1048576)
def OpenSpec.upto (s : _root_.Go.ChangeSpec) : _root_.Go.OpenSpec := { _root_.Go.OpenSpec.ofChange s with cond := some uptoSmall }

/-- 'copyholdlaw13.TransSteps', WHERE WHAT IT READS IS OF BULK AT MOST 1048576: true; the input reads as it did. -/
def transStepsUptoRow : OpenClaim := { program := "ytahlldgocpabjaagreat", sum := "271c84fabded62341fe6de9d0dbca9abb3b3db295544aa7a8d3904f6325cf926", func := "copyhold/copyholdlaw13.TransSteps", spec := "transSteps", inPlace := ["internal/bytealg.IndexByteString", "internal/bytealg.IndexString", "slices.overlaps[copyhold/api.Chain]", "slices.overlaps[copyhold/api.Ver]", "slices.overlaps[copyhold/api.Count]"], unfollowed := true, recurses := true, named := ["internal/bytealg.MaxLen"], apart := false, narrowed := true }
def TransStepsUptoSaid : Prop := transStepsUptoRow.holds Tryz.pinned (OpenSpec.upto transStepsSpec)

/-- 'copyholdlaw13.TransCommits', WHERE WHAT IT READS IS OF BULK AT MOST 1048576: true; the input reads as it did. -/
def transCommitsUptoRow : OpenClaim := { program := "ytahlldgocpabjaagreat", sum := "271c84fabded62341fe6de9d0dbca9abb3b3db295544aa7a8d3904f6325cf926", func := "copyhold/copyholdlaw13.TransCommits", spec := "transCommits", inPlace := ["internal/bytealg.IndexByteString", "internal/bytealg.IndexString", "slices.overlaps[copyhold/api.Chain]", "slices.overlaps[copyhold/api.Ver]", "slices.overlaps[copyhold/api.Count]"], unfollowed := true, recurses := true, named := ["internal/bytealg.MaxLen"], apart := false, narrowed := true }
def TransCommitsUptoSaid : Prop := transCommitsUptoRow.holds Tryz.pinned (OpenSpec.upto transCommitsSpec)

/-- 'copyholdlaw13.TransSerial', WHERE WHAT IT READS IS OF BULK AT MOST 1048576: true; the input reads as it did. -/
def transSerialUptoRow : OpenClaim := { program := "ytahlldgocpabjaagreat", sum := "271c84fabded62341fe6de9d0dbca9abb3b3db295544aa7a8d3904f6325cf926", func := "copyhold/copyholdlaw13.TransSerial", spec := "transSerial", inPlace := ["internal/bytealg.IndexByteString", "internal/bytealg.IndexString", "slices.overlaps[copyhold/api.Chain]", "slices.overlaps[copyhold/api.Ver]", "slices.overlaps[copyhold/api.Count]"], unfollowed := true, recurses := true, named := ["internal/bytealg.MaxLen"], apart := false, narrowed := true }
def TransSerialUptoSaid : Prop := transSerialUptoRow.holds Tryz.pinned (OpenSpec.upto transSerialSpec)

/-- 'copyholdlaw13.TransStays', WHERE WHAT IT READS IS OF BULK AT MOST 1048576: true; the input reads as it did. -/
def transStaysUptoRow : OpenClaim := { program := "ytahlldgocpabjaagreat", sum := "271c84fabded62341fe6de9d0dbca9abb3b3db295544aa7a8d3904f6325cf926", func := "copyhold/copyholdlaw13.TransStays", spec := "transStays", inPlace := ["internal/bytealg.IndexByteString", "internal/bytealg.IndexString", "slices.overlaps[copyhold/api.Chain]", "slices.overlaps[copyhold/api.Ver]", "slices.overlaps[copyhold/api.Count]"], unfollowed := true, recurses := true, named := ["internal/bytealg.MaxLen"], apart := false, narrowed := true }
def TransStaysUptoSaid : Prop := transStaysUptoRow.holds Tryz.pinned (OpenSpec.upto transStaysSpec)

/-- 'copyholdlaw13.TransFresh', WHERE WHAT IT READS IS OF BULK AT MOST 1048576: true; the input reads as it did. -/
def transFreshUptoRow : OpenClaim := { program := "ytahlldgocpabjaagreat", sum := "271c84fabded62341fe6de9d0dbca9abb3b3db295544aa7a8d3904f6325cf926", func := "copyhold/copyholdlaw13.TransFresh", spec := "transFresh", inPlace := ["internal/bytealg.IndexByteString", "internal/bytealg.IndexString", "slices.overlaps[copyhold/api.Chain]", "slices.overlaps[copyhold/api.Ver]", "slices.overlaps[copyhold/api.Count]"], unfollowed := true, recurses := true, named := ["internal/bytealg.MaxLen"], apart := false, narrowed := true }
def TransFreshUptoSaid : Prop := transFreshUptoRow.holds Tryz.pinned (OpenSpec.upto transFreshSpec)

/-- 'copyholdlaw13.TransIdle', WHERE WHAT IT READS IS OF BULK AT MOST 1048576: true; the input reads as it did. -/
def transIdleUptoRow : OpenClaim := { program := "ytahlldgocpabjaagreat", sum := "271c84fabded62341fe6de9d0dbca9abb3b3db295544aa7a8d3904f6325cf926", func := "copyhold/copyholdlaw13.TransIdle", spec := "transIdle", inPlace := ["internal/bytealg.IndexByteString", "internal/bytealg.IndexString", "slices.overlaps[copyhold/api.Chain]", "slices.overlaps[copyhold/api.Ver]", "slices.overlaps[copyhold/api.Count]"], unfollowed := true, recurses := true, named := ["internal/bytealg.MaxLen"], apart := false, narrowed := true }
def TransIdleUptoSaid : Prop := transIdleUptoRow.holds Tryz.pinned (OpenSpec.upto transIdleSpec)

/-- 'copyholdlaw13.TransApart', WHERE WHAT IT READS IS OF BULK AT MOST 1048576: true; the input reads as it did. -/
def transApartUptoRow : OpenClaim := { program := "ytahlldgocpabjaagreat", sum := "271c84fabded62341fe6de9d0dbca9abb3b3db295544aa7a8d3904f6325cf926", func := "copyhold/copyholdlaw13.TransApart", spec := "transApart", inPlace := ["internal/bytealg.IndexByteString", "internal/bytealg.IndexString", "slices.overlaps[copyhold/api.Chain]", "slices.overlaps[copyhold/api.Ver]", "slices.overlaps[copyhold/api.Count]"], unfollowed := true, recurses := true, named := ["internal/bytealg.MaxLen"], apart := false, narrowed := true }
def TransApartUptoSaid : Prop := transApartUptoRow.holds Tryz.pinned (OpenSpec.upto transApartSpec)

/-- 'copyholdlaw13.TransSees', WHERE WHAT IT READS IS OF BULK AT MOST 1048576: true; the input reads as it did. -/
def transSeesUptoRow : OpenClaim := { program := "ytahlldgocpabjaagreat", sum := "271c84fabded62341fe6de9d0dbca9abb3b3db295544aa7a8d3904f6325cf926", func := "copyhold/copyholdlaw13.TransSees", spec := "transSees", inPlace := ["internal/bytealg.IndexByteString", "internal/bytealg.IndexString", "slices.overlaps[copyhold/api.Chain]", "slices.overlaps[copyhold/api.Ver]", "slices.overlaps[copyhold/api.Count]"], unfollowed := true, recurses := true, named := ["internal/bytealg.MaxLen"], apart := false, narrowed := true }
def TransSeesUptoSaid : Prop := transSeesUptoRow.holds Tryz.pinned (OpenSpec.upto transSeesSpec)

end Rows
end Go.Proofs.YtahlldgocpabjaaGreat
