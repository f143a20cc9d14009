/-
  No cell of these rows narrows 'for every input' (looked for: loops, veiled, ifaces, maps, wideKeys, modest, calm, conditions, laid).
  DERIVED. THE GIVEN ROWS OF THIS SEAT. 5 by the template 'for every input the law returns true; each argument reads behind the call as it read before'; 0 by the template 'total and deterministic' (their statements: YtkepkbgebickiaaTotals.lean).
  GIVEN WITH THE SEED: the statements are not yours to turn. If you find one false, say at which input.
  Laid BY PROGRAM, IN A SANDBOX (cutbox-rows.mjs): the forced cells as the released guide's own fill.sh prints them over the translation 9864bbee29d6aaef… (all of the seat's roots in one cut). By AI agents, Wed Nov 11 2026. No macro, syntax, notation, axiom, sorry.
-/
import Derived.Test.YtkepkbgebickiaaChecked
import GoSem.Claim
import GoSem.ClaimJoined
import GoSem.ClaimMapViews
import Derived.JoinedTies
import Derived.KernelRfl
namespace Go.Proofs.Ytkepkbgebickiaa
/- THE CELL 'sum', in the pinned program and in every row, IS THE sha256 OF THE DUMP (.gsa) THAT YtkepkbgebickiaaProg.lean LOADS. Nothing in Lean hashes anything: it is a label: what it is worth is what the hold of that sum in a sandbox is worth. -/
noncomputable def Try.pinned : Pinned := { name := "ytkepkbgebickiaa", sum := "9864bbee29d6aaef758d04537ee4176c689df3bcd6c17501576ec0521d4724eb", checked := Try.checked }
namespace Rows
def none {H : Type} : Left H := { results := [], args := [] }

/-- 'copyholdlaw10.DirsFinds': WHATEVER THE INPUT: true; the input reads as it did. -/
def dirsFindsSpec : ChangeSpec := { name := "dirsFinds", fn := fun _ => fun
  | [d] => { results := [.lit (.bool true)], args := [d] }
  | _ => none }
def dirsFindsRow : OpenClaim := { program := "ytkepkbgebickiaa", sum := "9864bbee29d6aaef758d04537ee4176c689df3bcd6c17501576ec0521d4724eb", func := "copyhold/copyholdlaw10.DirsFinds", spec := "dirsFinds", inPlace := ["internal/bytealg.IndexByteString", "internal/bytealg.IndexString"], unfollowed := true, recurses := true, named := ["internal/bytealg.MaxLen"], apart := false }
def DirsFindsSaid : Prop := dirsFindsRow.holds Try.pinned (OpenSpec.ofChange dirsFindsSpec)

/-- ITS FALSE NEIGHBOUR: 'it returns false'. Refute it at one input. -/
def dirsFindsWrong : ChangeSpec := { name := "dirsFinds", fn := fun _ => fun
  | [d] => { results := [.lit (.bool false)], args := [d] }
  | _ => none }
def DirsFindsWrongFalsely : Prop := dirsFindsRow.holds Try.pinned (OpenSpec.ofChange dirsFindsWrong)

/-- 'copyholdlaw10.DirsBack': WHATEVER THE INPUT: true; the input reads as it did. -/
def dirsBackSpec : ChangeSpec := { name := "dirsBack", fn := fun _ => fun
  | [d] => { results := [.lit (.bool true)], args := [d] }
  | _ => none }
def dirsBackRow : OpenClaim := { program := "ytkepkbgebickiaa", sum := "9864bbee29d6aaef758d04537ee4176c689df3bcd6c17501576ec0521d4724eb", func := "copyhold/copyholdlaw10.DirsBack", spec := "dirsBack", inPlace := ["internal/bytealg.IndexByteString", "internal/bytealg.IndexString"], unfollowed := true, recurses := true, named := ["internal/bytealg.MaxLen"], apart := false }
def DirsBackSaid : Prop := dirsBackRow.holds Try.pinned (OpenSpec.ofChange dirsBackSpec)

/-- ITS FALSE NEIGHBOUR: 'it returns false'. Refute it at one input. -/
def dirsBackWrong : ChangeSpec := { name := "dirsBack", fn := fun _ => fun
  | [d] => { results := [.lit (.bool false)], args := [d] }
  | _ => none }
def DirsBackWrongFalsely : Prop := dirsBackRow.holds Try.pinned (OpenSpec.ofChange dirsBackWrong)

/-- 'copyholdlaw10.DirsMoves': WHATEVER THE INPUT: true; the input reads as it did. -/
def dirsMovesSpec : ChangeSpec := { name := "dirsMoves", fn := fun _ => fun
  | [d] => { results := [.lit (.bool true)], args := [d] }
  | _ => none }
def dirsMovesRow : OpenClaim := { program := "ytkepkbgebickiaa", sum := "9864bbee29d6aaef758d04537ee4176c689df3bcd6c17501576ec0521d4724eb", func := "copyhold/copyholdlaw10.DirsMoves", spec := "dirsMoves", inPlace := ["internal/bytealg.IndexByteString", "internal/bytealg.IndexString"], unfollowed := true, recurses := true, named := ["internal/bytealg.MaxLen"], apart := false }
def DirsMovesSaid : Prop := dirsMovesRow.holds Try.pinned (OpenSpec.ofChange dirsMovesSpec)

/-- ITS FALSE NEIGHBOUR: 'it returns false'. Refute it at one input. -/
def dirsMovesWrong : ChangeSpec := { name := "dirsMoves", fn := fun _ => fun
  | [d] => { results := [.lit (.bool false)], args := [d] }
  | _ => none }
def DirsMovesWrongFalsely : Prop := dirsMovesRow.holds Try.pinned (OpenSpec.ofChange dirsMovesWrong)

/-- 'copyholdlaw10.DirsGives': WHATEVER THE INPUT: true; the input reads as it did. -/
def dirsGivesSpec : ChangeSpec := { name := "dirsGives", fn := fun _ => fun
  | [d] => { results := [.lit (.bool true)], args := [d] }
  | _ => none }
def dirsGivesRow : OpenClaim := { program := "ytkepkbgebickiaa", sum := "9864bbee29d6aaef758d04537ee4176c689df3bcd6c17501576ec0521d4724eb", func := "copyhold/copyholdlaw10.DirsGives", spec := "dirsGives", inPlace := ["internal/bytealg.IndexByteString", "internal/bytealg.IndexString"], unfollowed := true, recurses := true, named := ["internal/bytealg.MaxLen"], apart := false }
def DirsGivesSaid : Prop := dirsGivesRow.holds Try.pinned (OpenSpec.ofChange dirsGivesSpec)

/-- ITS FALSE NEIGHBOUR: 'it returns false'. Refute it at one input. -/
def dirsGivesWrong : ChangeSpec := { name := "dirsGives", fn := fun _ => fun
  | [d] => { results := [.lit (.bool false)], args := [d] }
  | _ => none }
def DirsGivesWrongFalsely : Prop := dirsGivesRow.holds Try.pinned (OpenSpec.ofChange dirsGivesWrong)

/-- 'copyholdlaw10.DirsWalks': WHATEVER THE INPUT: true; the input reads as it did. -/
def dirsWalksSpec : ChangeSpec := { name := "dirsWalks", fn := fun _ => fun
  | [d1, d2, d3] => { results := [.lit (.bool true)], args := [d1, d2, d3] }
  | _ => none }
def dirsWalksRow : OpenClaim := { program := "ytkepkbgebickiaa", sum := "9864bbee29d6aaef758d04537ee4176c689df3bcd6c17501576ec0521d4724eb", func := "copyhold/copyholdlaw10.DirsWalks", spec := "dirsWalks", inPlace := ["internal/bytealg.IndexByteString", "internal/bytealg.IndexString"], unfollowed := true, recurses := true, named := ["internal/bytealg.MaxLen"], apart := false }
def DirsWalksSaid : Prop := dirsWalksRow.holds Try.pinned (OpenSpec.ofChange dirsWalksSpec)

/-- ITS FALSE NEIGHBOUR: 'it returns false'. Refute it at one input. -/
def dirsWalksWrong : ChangeSpec := { name := "dirsWalks", fn := fun _ => fun
  | [d1, d2, d3] => { results := [.lit (.bool false)], args := [d1, d2, d3] }
  | _ => none }
def DirsWalksWrongFalsely : Prop := dirsWalksRow.holds Try.pinned (OpenSpec.ofChange dirsWalksWrong)

/- THE SECOND FORM. 'bulk': how many values and letters a reading holds, each counted each time it is reached (what is shared counts as often as it is met; a slice's spare places count too). A statement '..UptoSaid' is the law's where the arguments, and the package variables that the reading takes, are together of bulk at most 1048576: NARROWER than '..Said'. Prove '..Said' where nothing that the law and all that it calls make is longer than what came in: it says more and counts as full. Else prove '..UptoSaid'. A law counts once. -/
mutual
def uptoBulk {H : Type} : DataW H → Nat
  | .lit (.string bytes) => bytes.length + 1
  | .lit _ => 1
  | .nil => 1
  | .ptr d => uptoBulk d + 1
  | .slice elems spare => uptoBulkAll elems + uptoBulkAll spare + 1
  | .agg parts => uptoBulkAll parts + 1
  | .iface _ d => uptoBulk d + 1
  | .map entries => uptoBulkEntries entries + 1
  | .held _ => 1
def uptoBulkAll {H : Type} : List (DataW H) → Nat
  | [] => 0
  | d :: r => uptoBulk d + uptoBulkAll r
def uptoBulkEntries {H : Type} : List (Lit × DataW H) → Nat
  | [] => 0
  | x :: r => uptoBulkEntry x + uptoBulkEntries r
def uptoBulkEntry {H : Type} : Lit × DataW H → Nat
  | (.string bytes, d) => bytes.length + uptoBulk d + 1
  | (_, d) => uptoBulk d + 1
 end
def uptoSmall : (H : Type) → List (DataW H) → Bool := fun _ ds => decide (uptoBulkAll ds ≤ 1048576)
def OpenSpec.upto (s : _root_.Go.ChangeSpec) : _root_.Go.OpenSpec := { _root_.Go.OpenSpec.ofChange s with cond := some uptoSmall }

/-- 'copyholdlaw10.DirsFinds', WHERE WHAT IT READS IS OF BULK AT MOST 1048576: true; the input reads as it did. -/
def dirsFindsUptoRow : OpenClaim := { program := "ytkepkbgebickiaa", sum := "9864bbee29d6aaef758d04537ee4176c689df3bcd6c17501576ec0521d4724eb", func := "copyhold/copyholdlaw10.DirsFinds", spec := "dirsFinds", inPlace := ["internal/bytealg.IndexByteString", "internal/bytealg.IndexString"], unfollowed := true, recurses := true, named := ["internal/bytealg.MaxLen"], apart := false, narrowed := true }
def DirsFindsUptoSaid : Prop := dirsFindsUptoRow.holds Try.pinned (OpenSpec.upto dirsFindsSpec)

/-- 'copyholdlaw10.DirsBack', WHERE WHAT IT READS IS OF BULK AT MOST 1048576: true; the input reads as it did. -/
def dirsBackUptoRow : OpenClaim := { program := "ytkepkbgebickiaa", sum := "9864bbee29d6aaef758d04537ee4176c689df3bcd6c17501576ec0521d4724eb", func := "copyhold/copyholdlaw10.DirsBack", spec := "dirsBack", inPlace := ["internal/bytealg.IndexByteString", "internal/bytealg.IndexString"], unfollowed := true, recurses := true, named := ["internal/bytealg.MaxLen"], apart := false, narrowed := true }
def DirsBackUptoSaid : Prop := dirsBackUptoRow.holds Try.pinned (OpenSpec.upto dirsBackSpec)

/-- 'copyholdlaw10.DirsMoves', WHERE WHAT IT READS IS OF BULK AT MOST 1048576: true; the input reads as it did. -/
def dirsMovesUptoRow : OpenClaim := { program := "ytkepkbgebickiaa", sum := "9864bbee29d6aaef758d04537ee4176c689df3bcd6c17501576ec0521d4724eb", func := "copyhold/copyholdlaw10.DirsMoves", spec := "dirsMoves", inPlace := ["internal/bytealg.IndexByteString", "internal/bytealg.IndexString"], unfollowed := true, recurses := true, named := ["internal/bytealg.MaxLen"], apart := false, narrowed := true }
def DirsMovesUptoSaid : Prop := dirsMovesUptoRow.holds Try.pinned (OpenSpec.upto dirsMovesSpec)

/-- 'copyholdlaw10.DirsGives', WHERE WHAT IT READS IS OF BULK AT MOST 1048576: true; the input reads as it did. -/
def dirsGivesUptoRow : OpenClaim := { program := "ytkepkbgebickiaa", sum := "9864bbee29d6aaef758d04537ee4176c689df3bcd6c17501576ec0521d4724eb", func := "copyhold/copyholdlaw10.DirsGives", spec := "dirsGives", inPlace := ["internal/bytealg.IndexByteString", "internal/bytealg.IndexString"], unfollowed := true, recurses := true, named := ["internal/bytealg.MaxLen"], apart := false, narrowed := true }
def DirsGivesUptoSaid : Prop := dirsGivesUptoRow.holds Try.pinned (OpenSpec.upto dirsGivesSpec)

/-- 'copyholdlaw10.DirsWalks', WHERE WHAT IT READS IS OF BULK AT MOST 1048576: true; the input reads as it did. -/
def dirsWalksUptoRow : OpenClaim := { program := "ytkepkbgebickiaa", sum := "9864bbee29d6aaef758d04537ee4176c689df3bcd6c17501576ec0521d4724eb", func := "copyhold/copyholdlaw10.DirsWalks", spec := "dirsWalks", inPlace := ["internal/bytealg.IndexByteString", "internal/bytealg.IndexString"], unfollowed := true, recurses := true, named := ["internal/bytealg.MaxLen"], apart := false, narrowed := true }
def DirsWalksUptoSaid : Prop := dirsWalksUptoRow.holds Try.pinned (OpenSpec.upto dirsWalksSpec)

end Rows
end Go.Proofs.Ytkepkbgebickiaa
