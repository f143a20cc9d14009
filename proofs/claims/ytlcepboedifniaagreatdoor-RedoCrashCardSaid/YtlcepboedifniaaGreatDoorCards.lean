/-
  DERIVED. GIVEN WITH THE SEED: THE CARDS: each row of YtlcepboedifniaaGreatDoorRows.lean that lists a variable, with what it lists TIED to the program's text (the seventh form; the later family's looks); each row that meets fmt, with fmt's text TOLD by the authors' own Lean function (tested against real Go, not proved from fmt's source: count such statements apart). THE CARD IS WHAT COUNTS. Prove the row's statement (the work); the ties are given (YtlcepboedifniaaGreatDoorTie.lean); close each card by the builder's one call (the guide's Derived/Test/ToyasCard.lean, 'card_holds'). Laid BY PROGRAM, IN A SANDBOX (cutbox-door.mjs). By AI agents, Wed Nov 11 2026. No macro, syntax, notation, axiom, sorry.
-/
import Derived.Test.YtlcepboedifniaaGreatDoorRows
import GoSem.ClaimSeven
namespace Go.Proofs.YtlcepboedifniaaGreatDoor
namespace Rows

/-- THE TIED CARD OF 'copyholdlaw05.RedoScans'. -/
def redoScansCard : Claim7 := { stood := { row := redoScansRow, standIns := [], harness := (true, "f6ced9232b80740592a2efcabab6ddfcac4562c5b518ab083c8602f836daad2b"), looks := false }, kinds := [], alts := [], laidByText := true, laidKinds := [.data, .pinned], laidTests := true, laidLooks := .later }
def RedoScansCardSaid : Prop := Claim7.holds Tryz.pinned (.plain (OpenSpec.ofChange redoScansSpec)) redoScansCard

/-- THE TIED CARD OF 'copyholdlaw05.RedoCrash'. -/
def redoCrashCard : Claim7 := { stood := { row := redoCrashRow, standIns := [], harness := (true, "f6ced9232b80740592a2efcabab6ddfcac4562c5b518ab083c8602f836daad2b"), looks := false }, kinds := [], alts := [], laidByText := true, laidKinds := [.data, .pinned], laidTests := true, laidLooks := .later }
def RedoCrashCardSaid : Prop := Claim7.holds Tryz.pinned (.plain (OpenSpec.ofChange redoCrashSpec)) redoCrashCard

/-- THE TIED CARD OF 'copyholdlaw05.RedoDrops'. -/
def redoDropsCard : Claim7 := { stood := { row := redoDropsRow, standIns := [], harness := (true, "f6ced9232b80740592a2efcabab6ddfcac4562c5b518ab083c8602f836daad2b"), looks := false }, kinds := [], alts := [], laidByText := true, laidKinds := [.data, .pinned], laidTests := true, laidLooks := .later }
def RedoDropsCardSaid : Prop := Claim7.holds Tryz.pinned (.plain (OpenSpec.ofChange redoDropsSpec)) redoDropsCard

/-- THE SECOND FORM's CARD OF 'copyholdlaw05.RedoScans'. -/
def redoScansUptoCard : Claim7 := { stood := { row := redoScansUptoRow, standIns := [], harness := (true, "f6ced9232b80740592a2efcabab6ddfcac4562c5b518ab083c8602f836daad2b"), looks := false }, kinds := [], alts := [], laidByText := true, laidKinds := [.data, .pinned], laidTests := true, laidLooks := .later }
def RedoScansUptoCardSaid : Prop := Claim7.holds Tryz.pinned (.plain (OpenSpec.upto redoScansSpec)) redoScansUptoCard

/-- THE SECOND FORM's CARD OF 'copyholdlaw05.RedoCrash'. -/
def redoCrashUptoCard : Claim7 := { stood := { row := redoCrashUptoRow, standIns := [], harness := (true, "f6ced9232b80740592a2efcabab6ddfcac4562c5b518ab083c8602f836daad2b"), looks := false }, kinds := [], alts := [], laidByText := true, laidKinds := [.data, .pinned], laidTests := true, laidLooks := .later }
def RedoCrashUptoCardSaid : Prop := Claim7.holds Tryz.pinned (.plain (OpenSpec.upto redoCrashSpec)) redoCrashUptoCard

/-- THE SECOND FORM's CARD OF 'copyholdlaw05.RedoDrops'. -/
def redoDropsUptoCard : Claim7 := { stood := { row := redoDropsUptoRow, standIns := [], harness := (true, "f6ced9232b80740592a2efcabab6ddfcac4562c5b518ab083c8602f836daad2b"), looks := false }, kinds := [], alts := [], laidByText := true, laidKinds := [.data, .pinned], laidTests := true, laidLooks := .later }
def RedoDropsUptoCardSaid : Prop := Claim7.holds Tryz.pinned (.plain (OpenSpec.upto redoDropsSpec)) redoDropsUptoCard
end Rows
end Go.Proofs.YtlcepboedifniaaGreatDoor
