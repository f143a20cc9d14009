/-
  No cell of these rows narrows 'for every input' (looked for: loops, veiled, ifaces, maps, wideKeys, modest, calm, conditions, laid).
  DERIVED. THE GIVEN ROWS OF THIS SEAT. 5 by the template 'for every input the law returns true; each argument reads behind the call as it read before'; 0 by the template 'total and deterministic' (their statements: YtkhodpknpligpaaGreatTotals.lean).
  GIVEN WITH THE SEED: the statements are not yours to turn. If you find one false, say at which input.
  Laid BY PROGRAM, IN A SANDBOX (cutbox-rows.mjs): the forced cells as the released guide's own fill.sh prints them over the translation 807a3fc895e4e0a1… (all of the seat's roots in one cut). By AI agents, Wed Nov 11 2026. No macro, syntax, notation, axiom, sorry.
-/
import Derived.Test.YtkhodpknpligpaaGreatChecked
import GoSem.Claim
import GoSem.ClaimJoined
import GoSem.ClaimMapViews
import Derived.JoinedTies
import Derived.KernelRfl
namespace Go.Proofs.YtkhodpknpligpaaGreat
/- THE CELL 'sum', in the pinned program and in every row, IS THE sha256 OF THE DUMP (.gsa) THAT YtkhodpknpligpaaGreatProg.lean LOADS. Nothing in Lean hashes anything: it is a label: what it is worth is what the hold of that sum in a sandbox is worth. -/
noncomputable def Tryz.pinned : Pinned := { name := "ytkhodpknpligpaagreat", sum := "807a3fc895e4e0a109244c5a1b1484a64e1bc31e959edb41699ba02e757cfc5f", checked := Tryz.checked }
namespace Rows
def none {H : Type} : Left H := { results := [], args := [] }

/-- 'copyholdlaw16.HostRights': WHATEVER THE INPUT: true; the input reads as it did. -/
def hostRightsSpec : ChangeSpec := { name := "hostRights", fn := fun _ => fun
  | [d] => { results := [.lit (.bool true)], args := [d] }
  | _ => none }
def hostRightsRow : OpenClaim := { program := "ytkhodpknpligpaagreat", sum := "807a3fc895e4e0a109244c5a1b1484a64e1bc31e959edb41699ba02e757cfc5f", func := "copyhold/copyholdlaw16.HostRights", spec := "hostRights", inPlace := ["internal/bytealg.IndexByteString", "internal/bytealg.IndexString", "slices.overlaps[copyhold/api.Chain]", "slices.overlaps[copyhold/api.Ver]", "slices.overlaps[copyhold/api.Count]", "slices.overlaps[int]"], unfollowed := true, recurses := true, named := ["internal/bytealg.MaxLen"], apart := false }
def HostRightsSaid : Prop := hostRightsRow.holds Tryz.pinned (OpenSpec.ofChange hostRightsSpec)

/-- ITS FALSE NEIGHBOUR: 'it returns false'. Refute it at one input. -/
def hostRightsWrong : ChangeSpec := { name := "hostRights", fn := fun _ => fun
  | [d] => { results := [.lit (.bool false)], args := [d] }
  | _ => none }
def HostRightsWrongFalsely : Prop := hostRightsRow.holds Tryz.pinned (OpenSpec.ofChange hostRightsWrong)

/-- 'copyholdlaw16.HostAgain': WHATEVER THE INPUT: true; the input reads as it did. -/
def hostAgainSpec : ChangeSpec := { name := "hostAgain", fn := fun _ => fun
  | [d1, d2] => { results := [.lit (.bool true)], args := [d1, d2] }
  | _ => none }
def hostAgainRow : OpenClaim := { program := "ytkhodpknpligpaagreat", sum := "807a3fc895e4e0a109244c5a1b1484a64e1bc31e959edb41699ba02e757cfc5f", func := "copyhold/copyholdlaw16.HostAgain", spec := "hostAgain", inPlace := ["internal/bytealg.IndexByteString", "internal/bytealg.IndexString", "slices.overlaps[copyhold/api.Chain]", "slices.overlaps[copyhold/api.Ver]", "slices.overlaps[copyhold/api.Count]"], unfollowed := true, recurses := true, named := ["internal/bytealg.MaxLen"], apart := false }
def HostAgainSaid : Prop := hostAgainRow.holds Tryz.pinned (OpenSpec.ofChange hostAgainSpec)

/-- ITS FALSE NEIGHBOUR: 'it returns false'. Refute it at one input. -/
def hostAgainWrong : ChangeSpec := { name := "hostAgain", fn := fun _ => fun
  | [d1, d2] => { results := [.lit (.bool false)], args := [d1, d2] }
  | _ => none }
def HostAgainWrongFalsely : Prop := hostAgainRow.holds Tryz.pinned (OpenSpec.ofChange hostAgainWrong)

/-- 'copyholdlaw16.HostDecides': WHATEVER THE INPUT: true; the input reads as it did. -/
def hostDecidesSpec : ChangeSpec := { name := "hostDecides", fn := fun _ => fun
  | [d1, d2, d3] => { results := [.lit (.bool true)], args := [d1, d2, d3] }
  | _ => none }
def hostDecidesRow : OpenClaim := { program := "ytkhodpknpligpaagreat", sum := "807a3fc895e4e0a109244c5a1b1484a64e1bc31e959edb41699ba02e757cfc5f", func := "copyhold/copyholdlaw16.HostDecides", spec := "hostDecides", inPlace := ["internal/bytealg.IndexByteString", "internal/bytealg.IndexString", "slices.overlaps[copyhold/api.Chain]", "slices.overlaps[copyhold/api.Ver]", "slices.overlaps[copyhold/api.Count]"], unfollowed := true, recurses := true, named := ["internal/bytealg.MaxLen"], apart := false }
def HostDecidesSaid : Prop := hostDecidesRow.holds Tryz.pinned (OpenSpec.ofChange hostDecidesSpec)

/-- ITS FALSE NEIGHBOUR: 'it returns false'. Refute it at one input. -/
def hostDecidesWrong : ChangeSpec := { name := "hostDecides", fn := fun _ => fun
  | [d1, d2, d3] => { results := [.lit (.bool false)], args := [d1, d2, d3] }
  | _ => none }
def HostDecidesWrongFalsely : Prop := hostDecidesRow.holds Tryz.pinned (OpenSpec.ofChange hostDecidesWrong)

/-- 'copyholdlaw16.HostCommits': WHATEVER THE INPUT: true; the input reads as it did. -/
def hostCommitsSpec : ChangeSpec := { name := "hostCommits", fn := fun _ => fun
  | [d1, d2, d3] => { results := [.lit (.bool true)], args := [d1, d2, d3] }
  | _ => none }
def hostCommitsRow : OpenClaim := { program := "ytkhodpknpligpaagreat", sum := "807a3fc895e4e0a109244c5a1b1484a64e1bc31e959edb41699ba02e757cfc5f", func := "copyhold/copyholdlaw16.HostCommits", spec := "hostCommits", inPlace := ["internal/bytealg.IndexByteString", "internal/bytealg.IndexString", "slices.overlaps[copyhold/api.Chain]", "slices.overlaps[copyhold/api.Ver]", "slices.overlaps[copyhold/api.Count]"], unfollowed := true, recurses := true, named := ["internal/bytealg.MaxLen"], apart := false }
def HostCommitsSaid : Prop := hostCommitsRow.holds Tryz.pinned (OpenSpec.ofChange hostCommitsSpec)

/-- ITS FALSE NEIGHBOUR: 'it returns false'. Refute it at one input. -/
def hostCommitsWrong : ChangeSpec := { name := "hostCommits", fn := fun _ => fun
  | [d1, d2, d3] => { results := [.lit (.bool false)], args := [d1, d2, d3] }
  | _ => none }
def HostCommitsWrongFalsely : Prop := hostCommitsRow.holds Tryz.pinned (OpenSpec.ofChange hostCommitsWrong)

/-- 'copyholdlaw16.HostSweeps': WHATEVER THE INPUT: true; the input reads as it did. -/
def hostSweepsSpec : ChangeSpec := { name := "hostSweeps", fn := fun _ => fun
  | [d1, d2] => { results := [.lit (.bool true)], args := [d1, d2] }
  | _ => none }
def hostSweepsRow : OpenClaim := { program := "ytkhodpknpligpaagreat", sum := "807a3fc895e4e0a109244c5a1b1484a64e1bc31e959edb41699ba02e757cfc5f", func := "copyhold/copyholdlaw16.HostSweeps", spec := "hostSweeps", inPlace := ["internal/bytealg.IndexByteString", "internal/bytealg.IndexString", "slices.overlaps[copyhold/api.Chain]", "slices.overlaps[copyhold/api.Ver]", "slices.overlaps[copyhold/api.Count]", "slices.overlaps[int]"], unfollowed := true, recurses := true, named := ["internal/bytealg.MaxLen"], apart := false }
def HostSweepsSaid : Prop := hostSweepsRow.holds Tryz.pinned (OpenSpec.ofChange hostSweepsSpec)

/-- ITS FALSE NEIGHBOUR: 'it returns false'. Refute it at one input. -/
def hostSweepsWrong : ChangeSpec := { name := "hostSweeps", fn := fun _ => fun
  | [d1, d2] => { results := [.lit (.bool false)], args := [d1, d2] }
  | _ => none }
def HostSweepsWrongFalsely : Prop := hostSweepsRow.holds Tryz.pinned (OpenSpec.ofChange hostSweepsWrong)

/- THE SECOND FORM. 'bulk': how many values and letters a reading holds, each counted each time it is reached (what is shared counts as often as it is met; a slice's spare places count too). A statement '..UptoSaid' is the law's where the arguments, and the package variables that the reading takes, are together of bulk at most 1048576: NARROWER than '..Said'. Prove '..Said' where nothing that the law and all that it calls make is longer than what came in: it says more and counts as full. Else prove '..UptoSaid'. A law counts once. -/
mutual
def uptoBulk {H : Type} : DataW H → Nat
  | .lit (.string bytes) => bytes.length + 1
  | .lit _ => 1
  | .nil => 1
  | .ptr d => uptoBulk d + 1
  | .slice elems spare => uptoBulkAll elems + uptoBulkAll spare + 1
  | .agg parts => uptoBulkAll parts + 1
  | .iface _ d => uptoBulk d + 1
  | .map entries => uptoBulkEntries entries + 1
  | .held _ => 1
def uptoBulkAll {H : Type} : List (DataW H) → Nat
  | [] => 0
  | d :: r => uptoBulk d + uptoBulkAll r
def uptoBulkEntries {H : Type} : List (Lit × DataW H) → Nat
  | [] => 0
  | x :: r => uptoBulkEntry x + uptoBulkEntries r
def uptoBulkEntry {H : Type} : Lit × DataW H → Nat
  | (.string bytes, d) => bytes.length + uptoBulk d + 1
  | (_, d) => uptoBulk d + 1
 end
def uptoSmall : (H : Type) → List (DataW H) → Bool := fun _ ds => decide (uptoBulkAll ds ≤ 1048576)
def OpenSpec.upto (s : _root_.Go.ChangeSpec) : _root_.Go.OpenSpec := { _root_.Go.OpenSpec.ofChange s with cond := some uptoSmall }

/-- 'copyholdlaw16.HostRights', WHERE WHAT IT READS IS OF BULK AT MOST 1048576: true; the input reads as it did. -/
def hostRightsUptoRow : OpenClaim := { program := "ytkhodpknpligpaagreat", sum := "807a3fc895e4e0a109244c5a1b1484a64e1bc31e959edb41699ba02e757cfc5f", func := "copyhold/copyholdlaw16.HostRights", spec := "hostRights", inPlace := ["internal/bytealg.IndexByteString", "internal/bytealg.IndexString", "slices.overlaps[copyhold/api.Chain]", "slices.overlaps[copyhold/api.Ver]", "slices.overlaps[copyhold/api.Count]", "slices.overlaps[int]"], unfollowed := true, recurses := true, named := ["internal/bytealg.MaxLen"], apart := false, narrowed := true }
def HostRightsUptoSaid : Prop := hostRightsUptoRow.holds Tryz.pinned (OpenSpec.upto hostRightsSpec)

/-- 'copyholdlaw16.HostAgain', WHERE WHAT IT READS IS OF BULK AT MOST 1048576: true; the input reads as it did. -/
def hostAgainUptoRow : OpenClaim := { program := "ytkhodpknpligpaagreat", sum := "807a3fc895e4e0a109244c5a1b1484a64e1bc31e959edb41699ba02e757cfc5f", func := "copyhold/copyholdlaw16.HostAgain", spec := "hostAgain", inPlace := ["internal/bytealg.IndexByteString", "internal/bytealg.IndexString", "slices.overlaps[copyhold/api.Chain]", "slices.overlaps[copyhold/api.Ver]", "slices.overlaps[copyhold/api.Count]"], unfollowed := true, recurses := true, named := ["internal/bytealg.MaxLen"], apart := false, narrowed := true }
def HostAgainUptoSaid : Prop := hostAgainUptoRow.holds Tryz.pinned (OpenSpec.upto hostAgainSpec)

/-- 'copyholdlaw16.HostDecides', WHERE WHAT IT READS IS OF BULK AT MOST 1048576: true; the input reads as it did. -/
def hostDecidesUptoRow : OpenClaim := { program := "ytkhodpknpligpaagreat", sum := "807a3fc895e4e0a109244c5a1b1484a64e1bc31e959edb41699ba02e757cfc5f", func := "copyhold/copyholdlaw16.HostDecides", spec := "hostDecides", inPlace := ["internal/bytealg.IndexByteString", "internal/bytealg.IndexString", "slices.overlaps[copyhold/api.Chain]", "slices.overlaps[copyhold/api.Ver]", "slices.overlaps[copyhold/api.Count]"], unfollowed := true, recurses := true, named := ["internal/bytealg.MaxLen"], apart := false, narrowed := true }
def HostDecidesUptoSaid : Prop := hostDecidesUptoRow.holds Tryz.pinned (OpenSpec.upto hostDecidesSpec)

/-- 'copyholdlaw16.HostCommits', WHERE WHAT IT READS IS OF BULK AT MOST 1048576: true; the input reads as it did. -/
def hostCommitsUptoRow : OpenClaim := { program := "ytkhodpknpligpaagreat", sum := "807a3fc895e4e0a109244c5a1b1484a64e1bc31e959edb41699ba02e757cfc5f", func := "copyhold/copyholdlaw16.HostCommits", spec := "hostCommits", inPlace := ["internal/bytealg.IndexByteString", "internal/bytealg.IndexString", "slices.overlaps[copyhold/api.Chain]", "slices.overlaps[copyhold/api.Ver]", "slices.overlaps[copyhold/api.Count]"], unfollowed := true, recurses := true, named := ["internal/bytealg.MaxLen"], apart := false, narrowed := true }
def HostCommitsUptoSaid : Prop := hostCommitsUptoRow.holds Tryz.pinned (OpenSpec.upto hostCommitsSpec)

/-- 'copyholdlaw16.HostSweeps', WHERE WHAT IT READS IS OF BULK AT MOST 1048576: true; the input reads as it did. -/
def hostSweepsUptoRow : OpenClaim := { program := "ytkhodpknpligpaagreat", sum := "807a3fc895e4e0a109244c5a1b1484a64e1bc31e959edb41699ba02e757cfc5f", func := "copyhold/copyholdlaw16.HostSweeps", spec := "hostSweeps", inPlace := ["internal/bytealg.IndexByteString", "internal/bytealg.IndexString", "slices.overlaps[copyhold/api.Chain]", "slices.overlaps[copyhold/api.Ver]", "slices.overlaps[copyhold/api.Count]", "slices.overlaps[int]"], unfollowed := true, recurses := true, named := ["internal/bytealg.MaxLen"], apart := false, narrowed := true }
def HostSweepsUptoSaid : Prop := hostSweepsUptoRow.holds Tryz.pinned (OpenSpec.upto hostSweepsSpec)

end Rows
end Go.Proofs.YtkhodpknpligpaaGreat
