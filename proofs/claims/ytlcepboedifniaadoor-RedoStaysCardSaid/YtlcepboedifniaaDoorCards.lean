/-
  DERIVED. GIVEN WITH THE SEED: THE CARDS: each row of YtlcepboedifniaaDoorRows.lean that lists a variable, with what it lists TIED to the program's text (the seventh form; the later family's looks); each row that meets fmt, with fmt's text TOLD by the authors' own Lean function (tested against real Go, not proved from fmt's source: count such statements apart). THE CARD IS WHAT COUNTS. Prove the row's statement (the work); the ties are given (YtlcepboedifniaaDoorTie.lean); close each card by the builder's one call (the guide's Derived/Test/ToyasCard.lean, 'card_holds'). Laid BY PROGRAM, IN A SANDBOX (cutbox-door.mjs). By AI agents, Wed Nov 11 2026. No macro, syntax, notation, axiom, sorry.
-/
import Derived.Test.YtlcepboedifniaaDoorRows
import GoSem.ClaimSeven
namespace Go.Proofs.YtlcepboedifniaaDoor
namespace Rows

/-- THE TIED CARD OF 'copyholdlaw05.RedoStays'. -/
def redoStaysCard : Claim7 := { stood := { row := redoStaysRow, standIns := [], harness := (true, "d954dbf52cede695b3d7e55a976d9cd4a9937e01df5bc57af0f01c06a070b781"), looks := false }, kinds := [], alts := [], laidByText := true, laidKinds := [.data, .pinned], laidTests := true, laidLooks := .later }
def RedoStaysCardSaid : Prop := Claim7.holds Tryd.pinned (.plain (OpenSpec.ofChange redoStaysSpec)) redoStaysCard

/-- THE TIED CARD OF 'copyholdlaw05.RedoFull'. -/
def redoFullCard : Claim7 := { stood := { row := redoFullRow, standIns := [], harness := (true, "d954dbf52cede695b3d7e55a976d9cd4a9937e01df5bc57af0f01c06a070b781"), looks := false }, kinds := [], alts := [], laidByText := true, laidKinds := [.data, .pinned], laidTests := true, laidLooks := .later }
def RedoFullCardSaid : Prop := Claim7.holds Tryd.pinned (.plain (OpenSpec.ofChange redoFullSpec)) redoFullCard

/-- THE TIED CARD OF 'copyholdlaw05.RedoEmpties'. -/
def redoEmptiesCard : Claim7 := { stood := { row := redoEmptiesRow, standIns := [], harness := (true, "d954dbf52cede695b3d7e55a976d9cd4a9937e01df5bc57af0f01c06a070b781"), looks := false }, kinds := [], alts := [], laidByText := true, laidKinds := [.data, .pinned], laidTests := true, laidLooks := .later }
def RedoEmptiesCardSaid : Prop := Claim7.holds Tryd.pinned (.plain (OpenSpec.ofChange redoEmptiesSpec)) redoEmptiesCard

/-- THE TIED CARD OF 'copyholdlaw05.RedoRecords'. -/
def redoRecordsCard : Claim7 := { stood := { row := redoRecordsRow, standIns := [], harness := (true, "d954dbf52cede695b3d7e55a976d9cd4a9937e01df5bc57af0f01c06a070b781"), looks := false }, kinds := [], alts := [], laidByText := true, laidKinds := [.data, .pinned], laidTests := true, laidLooks := .later }
def RedoRecordsCardSaid : Prop := Claim7.holds Tryd.pinned (.plain (OpenSpec.ofChange redoRecordsSpec)) redoRecordsCard

/-- THE SECOND FORM's CARD OF 'copyholdlaw05.RedoStays'. -/
def redoStaysUptoCard : Claim7 := { stood := { row := redoStaysUptoRow, standIns := [], harness := (true, "d954dbf52cede695b3d7e55a976d9cd4a9937e01df5bc57af0f01c06a070b781"), looks := false }, kinds := [], alts := [], laidByText := true, laidKinds := [.data, .pinned], laidTests := true, laidLooks := .later }
def RedoStaysUptoCardSaid : Prop := Claim7.holds Tryd.pinned (.plain (OpenSpec.upto redoStaysSpec)) redoStaysUptoCard

/-- THE SECOND FORM's CARD OF 'copyholdlaw05.RedoFull'. -/
def redoFullUptoCard : Claim7 := { stood := { row := redoFullUptoRow, standIns := [], harness := (true, "d954dbf52cede695b3d7e55a976d9cd4a9937e01df5bc57af0f01c06a070b781"), looks := false }, kinds := [], alts := [], laidByText := true, laidKinds := [.data, .pinned], laidTests := true, laidLooks := .later }
def RedoFullUptoCardSaid : Prop := Claim7.holds Tryd.pinned (.plain (OpenSpec.upto redoFullSpec)) redoFullUptoCard

/-- THE SECOND FORM's CARD OF 'copyholdlaw05.RedoEmpties'. -/
def redoEmptiesUptoCard : Claim7 := { stood := { row := redoEmptiesUptoRow, standIns := [], harness := (true, "d954dbf52cede695b3d7e55a976d9cd4a9937e01df5bc57af0f01c06a070b781"), looks := false }, kinds := [], alts := [], laidByText := true, laidKinds := [.data, .pinned], laidTests := true, laidLooks := .later }
def RedoEmptiesUptoCardSaid : Prop := Claim7.holds Tryd.pinned (.plain (OpenSpec.upto redoEmptiesSpec)) redoEmptiesUptoCard

/-- THE SECOND FORM's CARD OF 'copyholdlaw05.RedoRecords'. -/
def redoRecordsUptoCard : Claim7 := { stood := { row := redoRecordsUptoRow, standIns := [], harness := (true, "d954dbf52cede695b3d7e55a976d9cd4a9937e01df5bc57af0f01c06a070b781"), looks := false }, kinds := [], alts := [], laidByText := true, laidKinds := [.data, .pinned], laidTests := true, laidLooks := .later }
def RedoRecordsUptoCardSaid : Prop := Claim7.holds Tryd.pinned (.plain (OpenSpec.upto redoRecordsSpec)) redoRecordsUptoCard
end Rows
end Go.Proofs.YtlcepboedifniaaDoor
