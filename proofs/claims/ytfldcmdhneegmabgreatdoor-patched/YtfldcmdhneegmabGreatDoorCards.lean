/-
  DERIVED. GIVEN WITH THE SEED: THE CARDS: each row of YtfldcmdhneegmabGreatDoorRows.lean that lists a variable, with what it lists TIED to the program's text (the seventh form; the later family's looks); each row that meets fmt, with fmt's text TOLD by the authors' own Lean function (tested against real Go, not proved from fmt's source: count such statements apart). THE CARD IS WHAT COUNTS. Prove the row's statement (the work); the ties are given (YtfldcmdhneegmabGreatDoorTie.lean); close each card by the builder's one call (the guide's Derived/Test/ToyasCard.lean, 'card_holds'). Laid BY PROGRAM, IN A SANDBOX (cutbox-door.mjs). By AI agents, Wed Nov 11 2026. No macro, syntax, notation, axiom, sorry.
-/
import Derived.Test.YtfldcmdhneegmabGreatDoorRows
import GoSem.ClaimSeven
namespace Go.Proofs.YtfldcmdhneegmabGreatDoor
namespace Rows

/-- THE TIED CARD OF 'spotterkeep.Turned'. -/
def turnedCard : Claim7 := { stood := { row := turnedRow, standIns := [], harness := (true, "bd19d74b25fb2328616af8797553d34c0e5172ec468444ab08e2dc67283f8b29"), looks := true }, kinds := [], alts := [], goes := true, laidByText := true, laidKinds := [.data, .data, .data, .handle, .data, .pinned], laidTests := true, laidLooks := .later }
def TurnedCardSaid : Prop := Claim7.holds Tryz.pinned (.plain (OpenSpec.ofChange turnedSpec)) turnedCard

/-- THE TIED CARD OF 'spotterkeep.Patched'. -/
def patchedCard : Claim7 := { stood := { row := patchedRow, standIns := [], harness := (true, "bd19d74b25fb2328616af8797553d34c0e5172ec468444ab08e2dc67283f8b29"), looks := true }, kinds := [], alts := [], goes := true, laidByText := true, laidKinds := [.data, .data, .data, .handle, .data, .pinned], laidTests := true, laidLooks := .later }
def PatchedCardSaid : Prop := Claim7.holds Tryz.pinned (.plain (OpenSpec.ofChange patchedSpec)) patchedCard

/-- THE TIED CARD OF 'spotterkeep.Stops'. -/
def stopsCard : Claim7 := { stood := { row := stopsRow, standIns := [], harness := (true, "bd19d74b25fb2328616af8797553d34c0e5172ec468444ab08e2dc67283f8b29"), looks := true }, kinds := [], alts := [], goes := true, laidByText := true, laidKinds := [.handle, .data, .pinned], laidTests := true, laidLooks := .later }
def StopsCardSaid : Prop := Claim7.holds Tryz.pinned (.plain (OpenSpec.ofChange stopsSpec)) stopsCard

/-- THE SECOND FORM's CARD OF 'spotterkeep.Turned'. -/
def turnedUptoCard : Claim7 := { stood := { row := turnedUptoRow, standIns := [], harness := (true, "bd19d74b25fb2328616af8797553d34c0e5172ec468444ab08e2dc67283f8b29"), looks := true }, kinds := [], alts := [], goes := true, laidByText := true, laidKinds := [.data, .data, .data, .handle, .data, .pinned], laidTests := true, laidLooks := .later }
def TurnedUptoCardSaid : Prop := Claim7.holds Tryz.pinned (.plain (OpenSpec.upto turnedSpec)) turnedUptoCard

/-- THE SECOND FORM's CARD OF 'spotterkeep.Patched'. -/
def patchedUptoCard : Claim7 := { stood := { row := patchedUptoRow, standIns := [], harness := (true, "bd19d74b25fb2328616af8797553d34c0e5172ec468444ab08e2dc67283f8b29"), looks := true }, kinds := [], alts := [], goes := true, laidByText := true, laidKinds := [.data, .data, .data, .handle, .data, .pinned], laidTests := true, laidLooks := .later }
def PatchedUptoCardSaid : Prop := Claim7.holds Tryz.pinned (.plain (OpenSpec.upto patchedSpec)) patchedUptoCard

/-- THE SECOND FORM's CARD OF 'spotterkeep.Stops'. -/
def stopsUptoCard : Claim7 := { stood := { row := stopsUptoRow, standIns := [], harness := (true, "bd19d74b25fb2328616af8797553d34c0e5172ec468444ab08e2dc67283f8b29"), looks := true }, kinds := [], alts := [], goes := true, laidByText := true, laidKinds := [.handle, .data, .pinned], laidTests := true, laidLooks := .later }
def StopsUptoCardSaid : Prop := Claim7.holds Tryz.pinned (.plain (OpenSpec.upto stopsSpec)) stopsUptoCard
end Rows
end Go.Proofs.YtfldcmdhneegmabGreatDoor
