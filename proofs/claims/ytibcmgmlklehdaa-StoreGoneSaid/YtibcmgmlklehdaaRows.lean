/-
  No cell of these rows narrows 'for every input' (looked for: loops, veiled, ifaces, maps, wideKeys, modest, calm, conditions, laid).
  DERIVED. THE GIVEN ROWS OF THIS SEAT. 5 by the template 'for every input the law returns true; each argument reads behind the call as it read before'; 0 by the template 'total and deterministic' (their statements: YtibcmgmlklehdaaTotals.lean).
  GIVEN WITH THE SEED: the statements are not yours to turn. If you find one false, say at which input.
  Laid BY PROGRAM, IN A SANDBOX (cutbox-rows.mjs): the forced cells as the released guide's own fill.sh prints them over the translation cba685391572200d… (all of the seat's roots in one cut). By AI agents, Wed Nov 11 2026. No macro, syntax, notation, axiom, sorry.
-/
import Derived.Test.YtibcmgmlklehdaaChecked
import GoSem.Claim
import GoSem.ClaimJoined
import GoSem.ClaimMapViews
import Derived.JoinedTies
import Derived.KernelRfl
namespace Go.Proofs.Ytibcmgmlklehdaa
/- THE CELL 'sum', in the pinned program and in every row, IS THE sha256 OF THE DUMP (.gsa) THAT YtibcmgmlklehdaaProg.lean LOADS. Nothing in Lean hashes anything: it is a label: what it is worth is what the hold of that sum in a sandbox is worth. -/
noncomputable def Try.pinned : Pinned := { name := "ytibcmgmlklehdaa", sum := "cba685391572200d9d909c27b51a48d058a3a5f14176cab0ed950d7a49c763c0", checked := Try.checked }
namespace Rows
def none {H : Type} : Left H := { results := [], args := [] }

/-- 'copyholdlaw12.StoreLooks': WHATEVER THE INPUT: true; the input reads as it did. -/
def storeLooksSpec : ChangeSpec := { name := "storeLooks", fn := fun _ => fun
  | [d1, d2, d3] => { results := [.lit (.bool true)], args := [d1, d2, d3] }
  | _ => none }
def storeLooksRow : OpenClaim := { program := "ytibcmgmlklehdaa", sum := "cba685391572200d9d909c27b51a48d058a3a5f14176cab0ed950d7a49c763c0", func := "copyhold/copyholdlaw12.StoreLooks", spec := "storeLooks", inPlace := ["internal/bytealg.IndexByteString", "internal/bytealg.IndexString"], unfollowed := true, recurses := true, named := ["internal/bytealg.MaxLen"], apart := false }
def StoreLooksSaid : Prop := storeLooksRow.holds Try.pinned (OpenSpec.ofChange storeLooksSpec)

/-- ITS FALSE NEIGHBOUR: 'it returns false'. Refute it at one input. -/
def storeLooksWrong : ChangeSpec := { name := "storeLooks", fn := fun _ => fun
  | [d1, d2, d3] => { results := [.lit (.bool false)], args := [d1, d2, d3] }
  | _ => none }
def StoreLooksWrongFalsely : Prop := storeLooksRow.holds Try.pinned (OpenSpec.ofChange storeLooksWrong)

/-- 'copyholdlaw12.StoreSince': WHATEVER THE INPUT: true; the input reads as it did. -/
def storeSinceSpec : ChangeSpec := { name := "storeSince", fn := fun _ => fun
  | [d1, d2] => { results := [.lit (.bool true)], args := [d1, d2] }
  | _ => none }
def storeSinceRow : OpenClaim := { program := "ytibcmgmlklehdaa", sum := "cba685391572200d9d909c27b51a48d058a3a5f14176cab0ed950d7a49c763c0", func := "copyhold/copyholdlaw12.StoreSince", spec := "storeSince", inPlace := ["internal/bytealg.IndexByteString", "internal/bytealg.IndexString"], unfollowed := true, recurses := true, named := ["internal/bytealg.MaxLen"], apart := false }
def StoreSinceSaid : Prop := storeSinceRow.holds Try.pinned (OpenSpec.ofChange storeSinceSpec)

/-- ITS FALSE NEIGHBOUR: 'it returns false'. Refute it at one input. -/
def storeSinceWrong : ChangeSpec := { name := "storeSince", fn := fun _ => fun
  | [d1, d2] => { results := [.lit (.bool false)], args := [d1, d2] }
  | _ => none }
def StoreSinceWrongFalsely : Prop := storeSinceRow.holds Try.pinned (OpenSpec.ofChange storeSinceWrong)

/-- 'copyholdlaw12.StoreIdle': WHATEVER THE INPUT: true; the input reads as it did. -/
def storeIdleSpec : ChangeSpec := { name := "storeIdle", fn := fun _ => fun
  | [d] => { results := [.lit (.bool true)], args := [d] }
  | _ => none }
def storeIdleRow : OpenClaim := { program := "ytibcmgmlklehdaa", sum := "cba685391572200d9d909c27b51a48d058a3a5f14176cab0ed950d7a49c763c0", func := "copyhold/copyholdlaw12.StoreIdle", spec := "storeIdle", inPlace := ["internal/bytealg.IndexByteString", "internal/bytealg.IndexString", "slices.overlaps[copyhold/api.Chain]", "slices.overlaps[copyhold/api.Ver]", "slices.overlaps[copyhold/api.Count]"], unfollowed := true, recurses := true, named := ["internal/bytealg.MaxLen"], apart := false }
def StoreIdleSaid : Prop := storeIdleRow.holds Try.pinned (OpenSpec.ofChange storeIdleSpec)

/-- ITS FALSE NEIGHBOUR: 'it returns false'. Refute it at one input. -/
def storeIdleWrong : ChangeSpec := { name := "storeIdle", fn := fun _ => fun
  | [d] => { results := [.lit (.bool false)], args := [d] }
  | _ => none }
def StoreIdleWrongFalsely : Prop := storeIdleRow.holds Try.pinned (OpenSpec.ofChange storeIdleWrong)

/-- 'copyholdlaw12.StoreGone': WHATEVER THE INPUT: true; the input reads as it did. -/
def storeGoneSpec : ChangeSpec := { name := "storeGone", fn := fun _ => fun
  | [d1, d2] => { results := [.lit (.bool true)], args := [d1, d2] }
  | _ => none }
def storeGoneRow : OpenClaim := { program := "ytibcmgmlklehdaa", sum := "cba685391572200d9d909c27b51a48d058a3a5f14176cab0ed950d7a49c763c0", func := "copyhold/copyholdlaw12.StoreGone", spec := "storeGone", inPlace := ["internal/bytealg.IndexByteString", "internal/bytealg.IndexString", "slices.overlaps[copyhold/api.Chain]", "slices.overlaps[copyhold/api.Ver]", "slices.overlaps[copyhold/api.Count]", "slices.overlaps[int]"], unfollowed := true, recurses := true, named := ["internal/bytealg.MaxLen"], apart := false }
def StoreGoneSaid : Prop := storeGoneRow.holds Try.pinned (OpenSpec.ofChange storeGoneSpec)

/-- ITS FALSE NEIGHBOUR: 'it returns false'. Refute it at one input. -/
def storeGoneWrong : ChangeSpec := { name := "storeGone", fn := fun _ => fun
  | [d1, d2] => { results := [.lit (.bool false)], args := [d1, d2] }
  | _ => none }
def StoreGoneWrongFalsely : Prop := storeGoneRow.holds Try.pinned (OpenSpec.ofChange storeGoneWrong)

/-- 'copyholdlaw12.StoreTwice': WHATEVER THE INPUT: true; the input reads as it did. -/
def storeTwiceSpec : ChangeSpec := { name := "storeTwice", fn := fun _ => fun
  | [d1, d2, d3] => { results := [.lit (.bool true)], args := [d1, d2, d3] }
  | _ => none }
def storeTwiceRow : OpenClaim := { program := "ytibcmgmlklehdaa", sum := "cba685391572200d9d909c27b51a48d058a3a5f14176cab0ed950d7a49c763c0", func := "copyhold/copyholdlaw12.StoreTwice", spec := "storeTwice", inPlace := ["internal/bytealg.IndexByteString", "internal/bytealg.IndexString", "slices.overlaps[copyhold/api.Chain]", "slices.overlaps[copyhold/api.Ver]", "slices.overlaps[copyhold/api.Count]"], unfollowed := true, recurses := true, named := ["internal/bytealg.MaxLen"], apart := false }
def StoreTwiceSaid : Prop := storeTwiceRow.holds Try.pinned (OpenSpec.ofChange storeTwiceSpec)

/-- ITS FALSE NEIGHBOUR: 'it returns false'. Refute it at one input. -/
def storeTwiceWrong : ChangeSpec := { name := "storeTwice", fn := fun _ => fun
  | [d1, d2, d3] => { results := [.lit (.bool false)], args := [d1, d2, d3] }
  | _ => none }
def StoreTwiceWrongFalsely : Prop := storeTwiceRow.holds Try.pinned (OpenSpec.ofChange storeTwiceWrong)

/- THE SECOND FORM. 'bulk': how many values and letters a reading holds, each counted each time it is reached (what is shared counts as often as it is met; a slice's spare places count too). A statement '..UptoSaid' is the law's where the arguments, and the package variables that the reading takes, are together of bulk at most 1048576: NARROWER than '..Said'. Prove '..Said' where nothing that the law and all that it calls make is longer than what came in: it says more and counts as full. Else prove '..UptoSaid'. A law counts once. -/
mutual
def uptoBulk {H : Type} : DataW H → Nat
  | .lit (.string bytes) => bytes.length + 1
  | .lit _ => 1
  | .nil => 1
  | .ptr d => uptoBulk d + 1
  | .slice elems spare => uptoBulkAll elems + uptoBulkAll spare + 1
  | .agg parts => uptoBulkAll parts + 1
  | .iface _ d => uptoBulk d + 1
  | .map entries => uptoBulkEntries entries + 1
  | .held _ => 1
def uptoBulkAll {H : Type} : List (DataW H) → Nat
  | [] => 0
  | d :: r => uptoBulk d + uptoBulkAll r
def uptoBulkEntries {H : Type} : List (Lit × DataW H) → Nat
  | [] => 0
  | x :: r => uptoBulkEntry x + uptoBulkEntries r
def uptoBulkEntry {H : Type} : Lit × DataW H → Nat
  | (.string bytes, d) => bytes.length + uptoBulk d + 1
  | (_, d) => uptoBulk d + 1
 end
def uptoSmall : (H : Type) → List (DataW H) → Bool := fun _ ds => decide (uptoBulkAll ds ≤ 1048576)
def OpenSpec.upto (s : _root_.Go.ChangeSpec) : _root_.Go.OpenSpec := { _root_.Go.OpenSpec.ofChange s with cond := some uptoSmall }

/-- 'copyholdlaw12.StoreLooks', WHERE WHAT IT READS IS OF BULK AT MOST 1048576: true; the input reads as it did. -/
def storeLooksUptoRow : OpenClaim := { program := "ytibcmgmlklehdaa", sum := "cba685391572200d9d909c27b51a48d058a3a5f14176cab0ed950d7a49c763c0", func := "copyhold/copyholdlaw12.StoreLooks", spec := "storeLooks", inPlace := ["internal/bytealg.IndexByteString", "internal/bytealg.IndexString"], unfollowed := true, recurses := true, named := ["internal/bytealg.MaxLen"], apart := false, narrowed := true }
def StoreLooksUptoSaid : Prop := storeLooksUptoRow.holds Try.pinned (OpenSpec.upto storeLooksSpec)

/-- 'copyholdlaw12.StoreSince', WHERE WHAT IT READS IS OF BULK AT MOST 1048576: true; the input reads as it did. -/
def storeSinceUptoRow : OpenClaim := { program := "ytibcmgmlklehdaa", sum := "cba685391572200d9d909c27b51a48d058a3a5f14176cab0ed950d7a49c763c0", func := "copyhold/copyholdlaw12.StoreSince", spec := "storeSince", inPlace := ["internal/bytealg.IndexByteString", "internal/bytealg.IndexString"], unfollowed := true, recurses := true, named := ["internal/bytealg.MaxLen"], apart := false, narrowed := true }
def StoreSinceUptoSaid : Prop := storeSinceUptoRow.holds Try.pinned (OpenSpec.upto storeSinceSpec)

/-- 'copyholdlaw12.StoreIdle', WHERE WHAT IT READS IS OF BULK AT MOST 1048576: true; the input reads as it did. -/
def storeIdleUptoRow : OpenClaim := { program := "ytibcmgmlklehdaa", sum := "cba685391572200d9d909c27b51a48d058a3a5f14176cab0ed950d7a49c763c0", func := "copyhold/copyholdlaw12.StoreIdle", spec := "storeIdle", inPlace := ["internal/bytealg.IndexByteString", "internal/bytealg.IndexString", "slices.overlaps[copyhold/api.Chain]", "slices.overlaps[copyhold/api.Ver]", "slices.overlaps[copyhold/api.Count]"], unfollowed := true, recurses := true, named := ["internal/bytealg.MaxLen"], apart := false, narrowed := true }
def StoreIdleUptoSaid : Prop := storeIdleUptoRow.holds Try.pinned (OpenSpec.upto storeIdleSpec)

/-- 'copyholdlaw12.StoreGone', WHERE WHAT IT READS IS OF BULK AT MOST 1048576: true; the input reads as it did. -/
def storeGoneUptoRow : OpenClaim := { program := "ytibcmgmlklehdaa", sum := "cba685391572200d9d909c27b51a48d058a3a5f14176cab0ed950d7a49c763c0", func := "copyhold/copyholdlaw12.StoreGone", spec := "storeGone", inPlace := ["internal/bytealg.IndexByteString", "internal/bytealg.IndexString", "slices.overlaps[copyhold/api.Chain]", "slices.overlaps[copyhold/api.Ver]", "slices.overlaps[copyhold/api.Count]", "slices.overlaps[int]"], unfollowed := true, recurses := true, named := ["internal/bytealg.MaxLen"], apart := false, narrowed := true }
def StoreGoneUptoSaid : Prop := storeGoneUptoRow.holds Try.pinned (OpenSpec.upto storeGoneSpec)

/-- 'copyholdlaw12.StoreTwice', WHERE WHAT IT READS IS OF BULK AT MOST 1048576: true; the input reads as it did. -/
def storeTwiceUptoRow : OpenClaim := { program := "ytibcmgmlklehdaa", sum := "cba685391572200d9d909c27b51a48d058a3a5f14176cab0ed950d7a49c763c0", func := "copyhold/copyholdlaw12.StoreTwice", spec := "storeTwice", inPlace := ["internal/bytealg.IndexByteString", "internal/bytealg.IndexString", "slices.overlaps[copyhold/api.Chain]", "slices.overlaps[copyhold/api.Ver]", "slices.overlaps[copyhold/api.Count]"], unfollowed := true, recurses := true, named := ["internal/bytealg.MaxLen"], apart := false, narrowed := true }
def StoreTwiceUptoSaid : Prop := storeTwiceUptoRow.holds Try.pinned (OpenSpec.upto storeTwiceSpec)

end Rows
end Go.Proofs.Ytibcmgmlklehdaa
