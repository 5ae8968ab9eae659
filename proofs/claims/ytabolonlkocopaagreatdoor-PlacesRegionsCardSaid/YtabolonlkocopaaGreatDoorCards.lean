/-
  DERIVED. GIVEN WITH THE SEED: THE CARDS: each row of YtabolonlkocopaaGreatDoorRows.lean that lists a variable, with what it lists TIED to the program's text (the seventh form; the later family's looks); each row that meets fmt, with fmt's text TOLD by the authors' own Lean function (tested against real Go, not proved from fmt's source: count such statements apart). THE CARD IS WHAT COUNTS. Prove the row's statement (the work); the ties are given (YtabolonlkocopaaGreatDoorTie.lean); close each card by the builder's one call (the guide's Derived/Test/ToyasCard.lean, 'card_holds'). Laid BY PROGRAM, IN A SANDBOX (cutbox-door.mjs). By AI agents, Wed Nov 11 2026. No macro, syntax, notation, axiom, sorry.
-/
import Derived.Test.YtabolonlkocopaaGreatDoorRows
import GoSem.ClaimSeven
namespace Go.Proofs.YtabolonlkocopaaGreatDoor
namespace Rows

/-- THE TIED CARD OF 'noctuarylaw01.PlacesRegions'. -/
def placesRegionsCard : Claim7 := { stood := { row := placesRegionsRow, standIns := [], harness := (true, "d319b45e3395e90b1bda291bb25741fe69df9748de4f50a2fdf3a282fd2e4101"), looks := false }, kinds := [], alts := [], laidByText := true, laidKinds := [.data, .data, .data, .data], laidTests := true, laidLooks := .later }
def PlacesRegionsCardSaid : Prop := Claim7.holds Tryz.pinned (.plain (OpenSpec.ofChange placesRegionsSpec)) placesRegionsCard

/-- THE TIED CARD OF 'noctuarylaw01.PlacesCovers'. -/
def placesCoversCard : Claim7 := { stood := { row := placesCoversRow, standIns := [], harness := (true, "d319b45e3395e90b1bda291bb25741fe69df9748de4f50a2fdf3a282fd2e4101"), looks := false }, kinds := [], alts := [], laidByText := true, laidKinds := [.data, .data, .data, .data], laidTests := true, laidLooks := .later }
def PlacesCoversCardSaid : Prop := Claim7.holds Tryz.pinned (.plain (OpenSpec.ofChange placesCoversSpec)) placesCoversCard

/-- THE TIED CARD OF 'noctuarylaw01.PlacesTexts'. -/
def placesTextsCard : Claim7 := { stood := { row := placesTextsRow, standIns := [], harness := (true, "d319b45e3395e90b1bda291bb25741fe69df9748de4f50a2fdf3a282fd2e4101"), looks := false }, kinds := [], alts := [], laidByText := true, laidKinds := [.data, .data, .data, .data], laidTests := true, laidLooks := .later }
def PlacesTextsCardSaid : Prop := Claim7.holds Tryz.pinned (.plain (OpenSpec.ofChange placesTextsSpec)) placesTextsCard

/-- THE SECOND FORM's CARD OF 'noctuarylaw01.PlacesRegions'. -/
def placesRegionsUptoCard : Claim7 := { stood := { row := placesRegionsUptoRow, standIns := [], harness := (true, "d319b45e3395e90b1bda291bb25741fe69df9748de4f50a2fdf3a282fd2e4101"), looks := false }, kinds := [], alts := [], laidByText := true, laidKinds := [.data, .data, .data, .data], laidTests := true, laidLooks := .later }
def PlacesRegionsUptoCardSaid : Prop := Claim7.holds Tryz.pinned (.plain (OpenSpec.upto placesRegionsSpec)) placesRegionsUptoCard

/-- THE SECOND FORM's CARD OF 'noctuarylaw01.PlacesCovers'. -/
def placesCoversUptoCard : Claim7 := { stood := { row := placesCoversUptoRow, standIns := [], harness := (true, "d319b45e3395e90b1bda291bb25741fe69df9748de4f50a2fdf3a282fd2e4101"), looks := false }, kinds := [], alts := [], laidByText := true, laidKinds := [.data, .data, .data, .data], laidTests := true, laidLooks := .later }
def PlacesCoversUptoCardSaid : Prop := Claim7.holds Tryz.pinned (.plain (OpenSpec.upto placesCoversSpec)) placesCoversUptoCard

/-- THE SECOND FORM's CARD OF 'noctuarylaw01.PlacesTexts'. -/
def placesTextsUptoCard : Claim7 := { stood := { row := placesTextsUptoRow, standIns := [], harness := (true, "d319b45e3395e90b1bda291bb25741fe69df9748de4f50a2fdf3a282fd2e4101"), looks := false }, kinds := [], alts := [], laidByText := true, laidKinds := [.data, .data, .data, .data], laidTests := true, laidLooks := .later }
def PlacesTextsUptoCardSaid : Prop := Claim7.holds Tryz.pinned (.plain (OpenSpec.upto placesTextsSpec)) placesTextsUptoCard
end Rows
end Go.Proofs.YtabolonlkocopaaGreatDoor
