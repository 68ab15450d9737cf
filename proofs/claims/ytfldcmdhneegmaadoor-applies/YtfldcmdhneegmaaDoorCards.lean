/-
  DERIVED. GIVEN WITH THE SEED: THE CARDS: each row of YtfldcmdhneegmaaDoorRows.lean that lists a variable, with what it lists TIED to the program's text (the seventh form; the later family's looks); each row that meets fmt, with fmt's text TOLD by the authors' own Lean function (tested against real Go, not proved from fmt's source: count such statements apart). THE CARD IS WHAT COUNTS. Prove the row's statement (the work); the ties are given (YtfldcmdhneegmaaDoorTie.lean); close each card by the builder's one call (the guide's Derived/Test/ToyasCard.lean, 'card_holds'). Laid BY PROGRAM, IN A SANDBOX (cutbox-door.mjs). By AI agents, Wed Nov 11 2026. No macro, syntax, notation, axiom, sorry.
-/
import Derived.Test.YtfldcmdhneegmaaDoorRows
import GoSem.ClaimSeven
namespace Go.Proofs.YtfldcmdhneegmaaDoor
namespace Rows

/-- THE TIED CARD OF 'spotterlaw.Parses'. -/
def parsesCard : Claim7 := { stood := { row := parsesRow, standIns := [], harness := (true, "ed7f5aeba0ef4c66772fb68b78a03572f7daaa0e834a86c1006595ee44822404"), looks := true }, kinds := [], alts := [], laidByText := true, laidKinds := [.data, .data, .data, .data, .handle, .data, .pinned, .pinned], laidTests := true, laidLooks := .later }
def ParsesCardSaid : Prop := Claim7.holds Tryd.pinned (.plain (OpenSpec.ofChange parsesSpec)) parsesCard

/-- THE TIED CARD OF 'spotterlaw.Deltas'. -/
def deltasCard : Claim7 := { stood := { row := deltasRow, standIns := [], harness := (true, "ed7f5aeba0ef4c66772fb68b78a03572f7daaa0e834a86c1006595ee44822404"), looks := true }, kinds := [], alts := [], laidByText := true, laidKinds := [.handle], laidTests := true, laidLooks := .later }
def DeltasCardSaid : Prop := Claim7.holds Tryd.pinned (.plain (OpenSpec.ofChange deltasSpec)) deltasCard

/-- THE TIED CARD OF 'spotterlaw.Applies'. -/
def appliesCard : Claim7 := { stood := { row := appliesRow, standIns := [], harness := (true, "ed7f5aeba0ef4c66772fb68b78a03572f7daaa0e834a86c1006595ee44822404"), looks := true }, kinds := [], alts := [], laidByText := true, laidKinds := [.handle], laidTests := true, laidLooks := .later }
def AppliesCardSaid : Prop := Claim7.holds Tryd.pinned (.plain (OpenSpec.ofChange appliesSpec)) appliesCard

/-- THE TIED CARD OF 'spotterkeep.Canon'. -/
def canonCard : Claim7 := { stood := { row := canonRow, standIns := [], harness := (true, "ed7f5aeba0ef4c66772fb68b78a03572f7daaa0e834a86c1006595ee44822404"), looks := true }, kinds := [], alts := [], laidByText := true, laidKinds := [.data, .data, .data, .handle, .data, .pinned], laidTests := true, laidLooks := .later }
def CanonCardSaid : Prop := Claim7.holds Tryd.pinned (.plain (OpenSpec.ofChange canonSpec)) canonCard

/-- THE SECOND FORM's CARD OF 'spotterlaw.Parses'. -/
def parsesUptoCard : Claim7 := { stood := { row := parsesUptoRow, standIns := [], harness := (true, "ed7f5aeba0ef4c66772fb68b78a03572f7daaa0e834a86c1006595ee44822404"), looks := true }, kinds := [], alts := [], laidByText := true, laidKinds := [.data, .data, .data, .data, .handle, .data, .pinned, .pinned], laidTests := true, laidLooks := .later }
def ParsesUptoCardSaid : Prop := Claim7.holds Tryd.pinned (.plain (OpenSpec.upto parsesSpec)) parsesUptoCard

/-- THE SECOND FORM's CARD OF 'spotterlaw.Deltas'. -/
def deltasUptoCard : Claim7 := { stood := { row := deltasUptoRow, standIns := [], harness := (true, "ed7f5aeba0ef4c66772fb68b78a03572f7daaa0e834a86c1006595ee44822404"), looks := true }, kinds := [], alts := [], laidByText := true, laidKinds := [.handle], laidTests := true, laidLooks := .later }
def DeltasUptoCardSaid : Prop := Claim7.holds Tryd.pinned (.plain (OpenSpec.upto deltasSpec)) deltasUptoCard

/-- THE SECOND FORM's CARD OF 'spotterlaw.Applies'. -/
def appliesUptoCard : Claim7 := { stood := { row := appliesUptoRow, standIns := [], harness := (true, "ed7f5aeba0ef4c66772fb68b78a03572f7daaa0e834a86c1006595ee44822404"), looks := true }, kinds := [], alts := [], laidByText := true, laidKinds := [.handle], laidTests := true, laidLooks := .later }
def AppliesUptoCardSaid : Prop := Claim7.holds Tryd.pinned (.plain (OpenSpec.upto appliesSpec)) appliesUptoCard

/-- THE SECOND FORM's CARD OF 'spotterkeep.Canon'. -/
def canonUptoCard : Claim7 := { stood := { row := canonUptoRow, standIns := [], harness := (true, "ed7f5aeba0ef4c66772fb68b78a03572f7daaa0e834a86c1006595ee44822404"), looks := true }, kinds := [], alts := [], laidByText := true, laidKinds := [.data, .data, .data, .handle, .data, .pinned], laidTests := true, laidLooks := .later }
def CanonUptoCardSaid : Prop := Claim7.holds Tryd.pinned (.plain (OpenSpec.upto canonSpec)) canonUptoCard
end Rows
end Go.Proofs.YtfldcmdhneegmaaDoor
