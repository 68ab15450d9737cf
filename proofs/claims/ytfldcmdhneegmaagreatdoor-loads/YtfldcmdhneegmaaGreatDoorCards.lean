/-
  DERIVED. GIVEN WITH THE SEED: THE CARDS: each row of YtfldcmdhneegmaaGreatDoorRows.lean that lists a variable, with what it lists TIED to the program's text (the seventh form; the later family's looks); each row that meets fmt, with fmt's text TOLD by the authors' own Lean function (tested against real Go, not proved from fmt's source: count such statements apart). THE CARD IS WHAT COUNTS. Prove the row's statement (the work); the ties are given (YtfldcmdhneegmaaGreatDoorTie.lean); close each card by the builder's one call (the guide's Derived/Test/ToyasCard.lean, 'card_holds'). Laid BY PROGRAM, IN A SANDBOX (cutbox-door.mjs). By AI agents, Wed Nov 11 2026. No macro, syntax, notation, axiom, sorry.
-/
import Derived.Test.YtfldcmdhneegmaaGreatDoorRows
import GoSem.ClaimSeven
namespace Go.Proofs.YtfldcmdhneegmaaGreatDoor
namespace Rows

/-- THE TIED CARD OF 'spotterlaw.Spots'. -/
def spotsCard : Claim7 := { stood := { row := spotsRow, standIns := [], harness := (true, "6342dbe49298c13b46cb91a4ea3d4a380382261cd82e041cec18bbd817569c16"), looks := true }, kinds := [], alts := [], goes := true, laidByText := true, laidKinds := [.data, .data, .data, .data, .handle, .data, .pinned, .pinned], laidTests := true, laidLooks := .later }
def SpotsCardSaid : Prop := Claim7.holds Tryz.pinned (.plain (OpenSpec.ofChange spotsSpec)) spotsCard

/-- THE TIED CARD OF 'spotterlaw.Saves'. -/
def savesCard : Claim7 := { stood := { row := savesRow, standIns := [], harness := (true, "6342dbe49298c13b46cb91a4ea3d4a380382261cd82e041cec18bbd817569c16"), looks := true }, kinds := [], alts := [], goes := true, laidByText := true, laidKinds := [.data, .data, .data, .data, .handle, .data, .pinned, .pinned], laidTests := true, laidLooks := .later }
def SavesCardSaid : Prop := Claim7.holds Tryz.pinned (.plain (OpenSpec.ofChange savesSpec)) savesCard

/-- THE TIED CARD OF 'spotterlaw.Loads'. -/
def loadsCard : Claim7 := { stood := { row := loadsRow, standIns := [], harness := (true, "6342dbe49298c13b46cb91a4ea3d4a380382261cd82e041cec18bbd817569c16"), looks := true }, kinds := [], alts := [], goes := true, laidByText := true, laidKinds := [.data, .data, .data, .data, .handle, .data, .pinned, .pinned], laidTests := true, laidLooks := .later }
def LoadsCardSaid : Prop := Claim7.holds Tryz.pinned (.plain (OpenSpec.ofChange loadsSpec)) loadsCard

/-- THE TIED CARD OF 'spotterlaw.Watches'. -/
def watchesCard : Claim7 := { stood := { row := watchesRow, standIns := [], harness := (true, "6342dbe49298c13b46cb91a4ea3d4a380382261cd82e041cec18bbd817569c16"), looks := true }, kinds := [], alts := [], goes := true, laidByText := true, laidKinds := [.data, .handle, .data, .pinned, .pinned], laidTests := true, laidLooks := .later }
def WatchesCardSaid : Prop := Claim7.holds Tryz.pinned (.plain (OpenSpec.ofChange watchesSpec)) watchesCard

/-- THE TIED CARD OF 'spotterlaw.All'. -/
def allCard : Claim7 := { stood := { row := allRow, standIns := [], harness := (true, "6342dbe49298c13b46cb91a4ea3d4a380382261cd82e041cec18bbd817569c16"), looks := true }, kinds := [], alts := [], goes := true, laidByText := true, laidKinds := [.data, .data, .data, .data, .handle, .data, .pinned, .pinned], laidTests := true, laidLooks := .later }
def AllCardSaid : Prop := Claim7.holds Tryz.pinned (.plain (OpenSpec.ofChange allSpec)) allCard

/-- THE TIED CARD OF 'spotterkeep.Goes'. -/
def goesCard : Claim7 := { stood := { row := goesRow, standIns := [], harness := (true, "6342dbe49298c13b46cb91a4ea3d4a380382261cd82e041cec18bbd817569c16"), looks := true }, kinds := [], alts := [], goes := true, laidByText := true, laidKinds := [.handle, .data, .pinned], laidTests := true, laidLooks := .later }
def GoesCardSaid : Prop := Claim7.holds Tryz.pinned (.plain (OpenSpec.ofChange goesSpec)) goesCard

/-- THE TIED CARD OF 'spotterkeep.Lossless'. -/
def losslessCard : Claim7 := { stood := { row := losslessRow, standIns := [], harness := (true, "6342dbe49298c13b46cb91a4ea3d4a380382261cd82e041cec18bbd817569c16"), looks := true }, kinds := [], alts := [], goes := true, laidByText := true, laidKinds := [.data, .data, .data, .handle, .data, .pinned], laidTests := true, laidLooks := .later }
def LosslessCardSaid : Prop := Claim7.holds Tryz.pinned (.plain (OpenSpec.ofChange losslessSpec)) losslessCard

/-- THE SECOND FORM's CARD OF 'spotterlaw.Spots'. -/
def spotsUptoCard : Claim7 := { stood := { row := spotsUptoRow, standIns := [], harness := (true, "6342dbe49298c13b46cb91a4ea3d4a380382261cd82e041cec18bbd817569c16"), looks := true }, kinds := [], alts := [], goes := true, laidByText := true, laidKinds := [.data, .data, .data, .data, .handle, .data, .pinned, .pinned], laidTests := true, laidLooks := .later }
def SpotsUptoCardSaid : Prop := Claim7.holds Tryz.pinned (.plain (OpenSpec.upto spotsSpec)) spotsUptoCard

/-- THE SECOND FORM's CARD OF 'spotterlaw.Saves'. -/
def savesUptoCard : Claim7 := { stood := { row := savesUptoRow, standIns := [], harness := (true, "6342dbe49298c13b46cb91a4ea3d4a380382261cd82e041cec18bbd817569c16"), looks := true }, kinds := [], alts := [], goes := true, laidByText := true, laidKinds := [.data, .data, .data, .data, .handle, .data, .pinned, .pinned], laidTests := true, laidLooks := .later }
def SavesUptoCardSaid : Prop := Claim7.holds Tryz.pinned (.plain (OpenSpec.upto savesSpec)) savesUptoCard

/-- THE SECOND FORM's CARD OF 'spotterlaw.Loads'. -/
def loadsUptoCard : Claim7 := { stood := { row := loadsUptoRow, standIns := [], harness := (true, "6342dbe49298c13b46cb91a4ea3d4a380382261cd82e041cec18bbd817569c16"), looks := true }, kinds := [], alts := [], goes := true, laidByText := true, laidKinds := [.data, .data, .data, .data, .handle, .data, .pinned, .pinned], laidTests := true, laidLooks := .later }
def LoadsUptoCardSaid : Prop := Claim7.holds Tryz.pinned (.plain (OpenSpec.upto loadsSpec)) loadsUptoCard

/-- THE SECOND FORM's CARD OF 'spotterlaw.Watches'. -/
def watchesUptoCard : Claim7 := { stood := { row := watchesUptoRow, standIns := [], harness := (true, "6342dbe49298c13b46cb91a4ea3d4a380382261cd82e041cec18bbd817569c16"), looks := true }, kinds := [], alts := [], goes := true, laidByText := true, laidKinds := [.data, .handle, .data, .pinned, .pinned], laidTests := true, laidLooks := .later }
def WatchesUptoCardSaid : Prop := Claim7.holds Tryz.pinned (.plain (OpenSpec.upto watchesSpec)) watchesUptoCard

/-- THE SECOND FORM's CARD OF 'spotterlaw.All'. -/
def allUptoCard : Claim7 := { stood := { row := allUptoRow, standIns := [], harness := (true, "6342dbe49298c13b46cb91a4ea3d4a380382261cd82e041cec18bbd817569c16"), looks := true }, kinds := [], alts := [], goes := true, laidByText := true, laidKinds := [.data, .data, .data, .data, .handle, .data, .pinned, .pinned], laidTests := true, laidLooks := .later }
def AllUptoCardSaid : Prop := Claim7.holds Tryz.pinned (.plain (OpenSpec.upto allSpec)) allUptoCard

/-- THE SECOND FORM's CARD OF 'spotterkeep.Goes'. -/
def goesUptoCard : Claim7 := { stood := { row := goesUptoRow, standIns := [], harness := (true, "6342dbe49298c13b46cb91a4ea3d4a380382261cd82e041cec18bbd817569c16"), looks := true }, kinds := [], alts := [], goes := true, laidByText := true, laidKinds := [.handle, .data, .pinned], laidTests := true, laidLooks := .later }
def GoesUptoCardSaid : Prop := Claim7.holds Tryz.pinned (.plain (OpenSpec.upto goesSpec)) goesUptoCard

/-- THE SECOND FORM's CARD OF 'spotterkeep.Lossless'. -/
def losslessUptoCard : Claim7 := { stood := { row := losslessUptoRow, standIns := [], harness := (true, "6342dbe49298c13b46cb91a4ea3d4a380382261cd82e041cec18bbd817569c16"), looks := true }, kinds := [], alts := [], goes := true, laidByText := true, laidKinds := [.data, .data, .data, .handle, .data, .pinned], laidTests := true, laidLooks := .later }
def LosslessUptoCardSaid : Prop := Claim7.holds Tryz.pinned (.plain (OpenSpec.upto losslessSpec)) losslessUptoCard
end Rows
end Go.Proofs.YtfldcmdhneegmaaGreatDoor
