/-
  DERIVED. GIVEN WITH THE SEED: THE CARDS: each row of YtijidcigfdblaaaGreatDoorRows.lean that lists a variable, with what it lists TIED to the program's text (the seventh form; the later family's looks); each row that meets fmt, with fmt's text TOLD by the authors' own Lean function (tested against real Go, not proved from fmt's source: count such statements apart). THE CARD IS WHAT COUNTS. Prove the row's statement (the work); the ties are given (YtijidcigfdblaaaGreatDoorTie.lean); close each card by the builder's one call (the guide's Derived/Test/ToyasCard.lean, 'card_holds'). Laid BY PROGRAM, IN A SANDBOX (cutbox-door.mjs). By AI agents, Wed Nov 11 2026. No macro, syntax, notation, axiom, sorry.
-/
import Derived.Test.YtijidcigfdblaaaGreatDoorRows
import GoSem.ClaimSeven
namespace Go.Proofs.YtijidcigfdblaaaGreatDoor
namespace Rows

/-- THE TIED CARD OF 'noctuarylaw04.SheetsChecks'. -/
def sheetsChecksCard : Claim7 := { stood := { row := sheetsChecksRow, standIns := [], harness := (true, "ab7181437f9aeaad4a59cd38734e662c3f2122e82a6799f02c1c5ed9aa67d71b"), looks := true }, kinds := [], alts := [], laidByText := true, laidKinds := [.data, .data, .data, .data, .sentinel, .sentinel, .data, .pinned], laidTests := true, laidLooks := .later }
def SheetsChecksCardSaid : Prop := Claim7.holds Tryz.pinned (.plain (OpenSpec.ofChange sheetsChecksSpec)) sheetsChecksCard

/-- THE TIED CARD OF 'noctuarylaw04.SheetsTexts'. -/
def sheetsTextsCard : Claim7 := { stood := { row := sheetsTextsRow, standIns := [], harness := (true, "ab7181437f9aeaad4a59cd38734e662c3f2122e82a6799f02c1c5ed9aa67d71b"), looks := true }, kinds := [], alts := [], laidByText := true, laidKinds := [.data, .data, .data, .data, .sentinel, .sentinel, .data, .pinned], laidTests := true, laidLooks := .later }
def SheetsTextsCardSaid : Prop := Claim7.holds Tryz.pinned (.plain (OpenSpec.ofChange sheetsTextsSpec)) sheetsTextsCard

/-- THE TIED CARD OF 'noctuarylaw04.SheetsBounds'. -/
def sheetsBoundsCard : Claim7 := { stood := { row := sheetsBoundsRow, standIns := [], harness := (true, "ab7181437f9aeaad4a59cd38734e662c3f2122e82a6799f02c1c5ed9aa67d71b"), looks := true }, kinds := [], alts := [], laidByText := true, laidKinds := [.data, .data, .data, .data, .sentinel, .sentinel, .data, .pinned], laidTests := true, laidLooks := .later }
def SheetsBoundsCardSaid : Prop := Claim7.holds Tryz.pinned (.plain (OpenSpec.ofChange sheetsBoundsSpec)) sheetsBoundsCard

/-- THE TIED CARD OF 'noctuarylaw04.SheetsNames'. -/
def sheetsNamesCard : Claim7 := { stood := { row := sheetsNamesRow, standIns := [], harness := (true, "ab7181437f9aeaad4a59cd38734e662c3f2122e82a6799f02c1c5ed9aa67d71b"), looks := true }, kinds := [], alts := [], laidByText := true, laidKinds := [.data, .data, .data, .data, .sentinel, .sentinel, .data, .pinned], laidTests := true, laidLooks := .later }
def SheetsNamesCardSaid : Prop := Claim7.holds Tryz.pinned (.plain (OpenSpec.ofChange sheetsNamesSpec)) sheetsNamesCard

/-- THE TIED CARD OF 'noctuarylaw04.SheetsRules'. -/
def sheetsRulesCard : Claim7 := { stood := { row := sheetsRulesRow, standIns := [], harness := (true, "ab7181437f9aeaad4a59cd38734e662c3f2122e82a6799f02c1c5ed9aa67d71b"), looks := true }, kinds := [], alts := [], laidByText := true, laidKinds := [.data, .data, .data, .data, .sentinel, .sentinel, .data, .pinned], laidTests := true, laidLooks := .later }
def SheetsRulesCardSaid : Prop := Claim7.holds Tryz.pinned (.plain (OpenSpec.ofChange sheetsRulesSpec)) sheetsRulesCard

/-- THE TIED CARD OF 'noctuarylaw04.SheetsMerges'. -/
def sheetsMergesCard : Claim7 := { stood := { row := sheetsMergesRow, standIns := [], harness := (true, "ab7181437f9aeaad4a59cd38734e662c3f2122e82a6799f02c1c5ed9aa67d71b"), looks := true }, kinds := [], alts := [], laidByText := true, laidKinds := [.data, .data, .data, .data, .sentinel, .sentinel, .data, .pinned], laidTests := true, laidLooks := .later }
def SheetsMergesCardSaid : Prop := Claim7.holds Tryz.pinned (.plain (OpenSpec.ofChange sheetsMergesSpec)) sheetsMergesCard

/-- THE TIED CARD OF 'noctuarylaw04.SheetsBack'. -/
def sheetsBackCard : Claim7 := { stood := { row := sheetsBackRow, standIns := [], harness := (true, "ab7181437f9aeaad4a59cd38734e662c3f2122e82a6799f02c1c5ed9aa67d71b"), looks := true }, kinds := [], alts := [], laidByText := true, laidKinds := [.data, .data, .data, .data, .sentinel, .sentinel, .data, .pinned], laidTests := true, laidLooks := .later }
def SheetsBackCardSaid : Prop := Claim7.holds Tryz.pinned (.plain (OpenSpec.ofChange sheetsBackSpec)) sheetsBackCard

/-- THE TIED CARD OF 'noctuarylaw04.SheetsTight'. -/
def sheetsTightCard : Claim7 := { stood := { row := sheetsTightRow, standIns := [], harness := (true, "ab7181437f9aeaad4a59cd38734e662c3f2122e82a6799f02c1c5ed9aa67d71b"), looks := true }, kinds := [], alts := [], laidByText := true, laidKinds := [.data, .data, .data, .data, .sentinel, .sentinel, .data, .pinned], laidTests := true, laidLooks := .later }
def SheetsTightCardSaid : Prop := Claim7.holds Tryz.pinned (.plain (OpenSpec.ofChange sheetsTightSpec)) sheetsTightCard

/-- THE TIED CARD OF 'noctuarylaw04.SheetsRest'. -/
def sheetsRestCard : Claim7 := { stood := { row := sheetsRestRow, standIns := [], harness := (true, "ab7181437f9aeaad4a59cd38734e662c3f2122e82a6799f02c1c5ed9aa67d71b"), looks := true }, kinds := [], alts := [], laidByText := true, laidKinds := [.data, .data, .data, .data, .sentinel, .sentinel, .data, .pinned], laidTests := true, laidLooks := .later }
def SheetsRestCardSaid : Prop := Claim7.holds Tryz.pinned (.plain (OpenSpec.ofChange sheetsRestSpec)) sheetsRestCard

/-- THE TIED CARD OF 'noctuarylaw04.SheetsDoubts'. -/
def sheetsDoubtsCard : Claim7 := { stood := { row := sheetsDoubtsRow, standIns := [], harness := (true, "ab7181437f9aeaad4a59cd38734e662c3f2122e82a6799f02c1c5ed9aa67d71b"), looks := true }, kinds := [], alts := [], laidByText := true, laidKinds := [.data, .data, .data, .data, .sentinel, .sentinel, .data, .pinned], laidTests := true, laidLooks := .later }
def SheetsDoubtsCardSaid : Prop := Claim7.holds Tryz.pinned (.plain (OpenSpec.ofChange sheetsDoubtsSpec)) sheetsDoubtsCard

/-- THE TIED CARD OF 'noctuarylaw04.SheetsCopies'. -/
def sheetsCopiesCard : Claim7 := { stood := { row := sheetsCopiesRow, standIns := [], harness := (true, "ab7181437f9aeaad4a59cd38734e662c3f2122e82a6799f02c1c5ed9aa67d71b"), looks := true }, kinds := [], alts := [], laidByText := true, laidKinds := [.data, .data, .data, .data, .sentinel, .sentinel, .data, .pinned], laidTests := true, laidLooks := .later }
def SheetsCopiesCardSaid : Prop := Claim7.holds Tryz.pinned (.plain (OpenSpec.ofChange sheetsCopiesSpec)) sheetsCopiesCard

/-- THE TIED CARD OF 'noctuarylaw04.SheetsTwins'. -/
def sheetsTwinsCard : Claim7 := { stood := { row := sheetsTwinsRow, standIns := [], harness := (true, "ab7181437f9aeaad4a59cd38734e662c3f2122e82a6799f02c1c5ed9aa67d71b"), looks := true }, kinds := [], alts := [], laidByText := true, laidKinds := [.data, .data, .data, .data, .sentinel, .sentinel, .data, .pinned], laidTests := true, laidLooks := .later }
def SheetsTwinsCardSaid : Prop := Claim7.holds Tryz.pinned (.plain (OpenSpec.ofChange sheetsTwinsSpec)) sheetsTwinsCard

/-- THE TIED CARD OF 'noctuarylaw04.SheetsFits'. -/
def sheetsFitsCard : Claim7 := { stood := { row := sheetsFitsRow, standIns := [], harness := (true, "ab7181437f9aeaad4a59cd38734e662c3f2122e82a6799f02c1c5ed9aa67d71b"), looks := true }, kinds := [], alts := [], laidByText := true, laidKinds := [.data, .data, .data, .data, .sentinel, .sentinel, .data, .pinned], laidTests := true, laidLooks := .later }
def SheetsFitsCardSaid : Prop := Claim7.holds Tryz.pinned (.plain (OpenSpec.ofChange sheetsFitsSpec)) sheetsFitsCard

/-- THE SECOND FORM's CARD OF 'noctuarylaw04.SheetsChecks'. -/
def sheetsChecksUptoCard : Claim7 := { stood := { row := sheetsChecksUptoRow, standIns := [], harness := (true, "ab7181437f9aeaad4a59cd38734e662c3f2122e82a6799f02c1c5ed9aa67d71b"), looks := true }, kinds := [], alts := [], laidByText := true, laidKinds := [.data, .data, .data, .data, .sentinel, .sentinel, .data, .pinned], laidTests := true, laidLooks := .later }
def SheetsChecksUptoCardSaid : Prop := Claim7.holds Tryz.pinned (.plain (OpenSpec.upto sheetsChecksSpec)) sheetsChecksUptoCard

/-- THE SECOND FORM's CARD OF 'noctuarylaw04.SheetsTexts'. -/
def sheetsTextsUptoCard : Claim7 := { stood := { row := sheetsTextsUptoRow, standIns := [], harness := (true, "ab7181437f9aeaad4a59cd38734e662c3f2122e82a6799f02c1c5ed9aa67d71b"), looks := true }, kinds := [], alts := [], laidByText := true, laidKinds := [.data, .data, .data, .data, .sentinel, .sentinel, .data, .pinned], laidTests := true, laidLooks := .later }
def SheetsTextsUptoCardSaid : Prop := Claim7.holds Tryz.pinned (.plain (OpenSpec.upto sheetsTextsSpec)) sheetsTextsUptoCard

/-- THE SECOND FORM's CARD OF 'noctuarylaw04.SheetsBounds'. -/
def sheetsBoundsUptoCard : Claim7 := { stood := { row := sheetsBoundsUptoRow, standIns := [], harness := (true, "ab7181437f9aeaad4a59cd38734e662c3f2122e82a6799f02c1c5ed9aa67d71b"), looks := true }, kinds := [], alts := [], laidByText := true, laidKinds := [.data, .data, .data, .data, .sentinel, .sentinel, .data, .pinned], laidTests := true, laidLooks := .later }
def SheetsBoundsUptoCardSaid : Prop := Claim7.holds Tryz.pinned (.plain (OpenSpec.upto sheetsBoundsSpec)) sheetsBoundsUptoCard

/-- THE SECOND FORM's CARD OF 'noctuarylaw04.SheetsNames'. -/
def sheetsNamesUptoCard : Claim7 := { stood := { row := sheetsNamesUptoRow, standIns := [], harness := (true, "ab7181437f9aeaad4a59cd38734e662c3f2122e82a6799f02c1c5ed9aa67d71b"), looks := true }, kinds := [], alts := [], laidByText := true, laidKinds := [.data, .data, .data, .data, .sentinel, .sentinel, .data, .pinned], laidTests := true, laidLooks := .later }
def SheetsNamesUptoCardSaid : Prop := Claim7.holds Tryz.pinned (.plain (OpenSpec.upto sheetsNamesSpec)) sheetsNamesUptoCard

/-- THE SECOND FORM's CARD OF 'noctuarylaw04.SheetsRules'. -/
def sheetsRulesUptoCard : Claim7 := { stood := { row := sheetsRulesUptoRow, standIns := [], harness := (true, "ab7181437f9aeaad4a59cd38734e662c3f2122e82a6799f02c1c5ed9aa67d71b"), looks := true }, kinds := [], alts := [], laidByText := true, laidKinds := [.data, .data, .data, .data, .sentinel, .sentinel, .data, .pinned], laidTests := true, laidLooks := .later }
def SheetsRulesUptoCardSaid : Prop := Claim7.holds Tryz.pinned (.plain (OpenSpec.upto sheetsRulesSpec)) sheetsRulesUptoCard

/-- THE SECOND FORM's CARD OF 'noctuarylaw04.SheetsMerges'. -/
def sheetsMergesUptoCard : Claim7 := { stood := { row := sheetsMergesUptoRow, standIns := [], harness := (true, "ab7181437f9aeaad4a59cd38734e662c3f2122e82a6799f02c1c5ed9aa67d71b"), looks := true }, kinds := [], alts := [], laidByText := true, laidKinds := [.data, .data, .data, .data, .sentinel, .sentinel, .data, .pinned], laidTests := true, laidLooks := .later }
def SheetsMergesUptoCardSaid : Prop := Claim7.holds Tryz.pinned (.plain (OpenSpec.upto sheetsMergesSpec)) sheetsMergesUptoCard

/-- THE SECOND FORM's CARD OF 'noctuarylaw04.SheetsBack'. -/
def sheetsBackUptoCard : Claim7 := { stood := { row := sheetsBackUptoRow, standIns := [], harness := (true, "ab7181437f9aeaad4a59cd38734e662c3f2122e82a6799f02c1c5ed9aa67d71b"), looks := true }, kinds := [], alts := [], laidByText := true, laidKinds := [.data, .data, .data, .data, .sentinel, .sentinel, .data, .pinned], laidTests := true, laidLooks := .later }
def SheetsBackUptoCardSaid : Prop := Claim7.holds Tryz.pinned (.plain (OpenSpec.upto sheetsBackSpec)) sheetsBackUptoCard

/-- THE SECOND FORM's CARD OF 'noctuarylaw04.SheetsTight'. -/
def sheetsTightUptoCard : Claim7 := { stood := { row := sheetsTightUptoRow, standIns := [], harness := (true, "ab7181437f9aeaad4a59cd38734e662c3f2122e82a6799f02c1c5ed9aa67d71b"), looks := true }, kinds := [], alts := [], laidByText := true, laidKinds := [.data, .data, .data, .data, .sentinel, .sentinel, .data, .pinned], laidTests := true, laidLooks := .later }
def SheetsTightUptoCardSaid : Prop := Claim7.holds Tryz.pinned (.plain (OpenSpec.upto sheetsTightSpec)) sheetsTightUptoCard

/-- THE SECOND FORM's CARD OF 'noctuarylaw04.SheetsRest'. -/
def sheetsRestUptoCard : Claim7 := { stood := { row := sheetsRestUptoRow, standIns := [], harness := (true, "ab7181437f9aeaad4a59cd38734e662c3f2122e82a6799f02c1c5ed9aa67d71b"), looks := true }, kinds := [], alts := [], laidByText := true, laidKinds := [.data, .data, .data, .data, .sentinel, .sentinel, .data, .pinned], laidTests := true, laidLooks := .later }
def SheetsRestUptoCardSaid : Prop := Claim7.holds Tryz.pinned (.plain (OpenSpec.upto sheetsRestSpec)) sheetsRestUptoCard

/-- THE SECOND FORM's CARD OF 'noctuarylaw04.SheetsDoubts'. -/
def sheetsDoubtsUptoCard : Claim7 := { stood := { row := sheetsDoubtsUptoRow, standIns := [], harness := (true, "ab7181437f9aeaad4a59cd38734e662c3f2122e82a6799f02c1c5ed9aa67d71b"), looks := true }, kinds := [], alts := [], laidByText := true, laidKinds := [.data, .data, .data, .data, .sentinel, .sentinel, .data, .pinned], laidTests := true, laidLooks := .later }
def SheetsDoubtsUptoCardSaid : Prop := Claim7.holds Tryz.pinned (.plain (OpenSpec.upto sheetsDoubtsSpec)) sheetsDoubtsUptoCard

/-- THE SECOND FORM's CARD OF 'noctuarylaw04.SheetsCopies'. -/
def sheetsCopiesUptoCard : Claim7 := { stood := { row := sheetsCopiesUptoRow, standIns := [], harness := (true, "ab7181437f9aeaad4a59cd38734e662c3f2122e82a6799f02c1c5ed9aa67d71b"), looks := true }, kinds := [], alts := [], laidByText := true, laidKinds := [.data, .data, .data, .data, .sentinel, .sentinel, .data, .pinned], laidTests := true, laidLooks := .later }
def SheetsCopiesUptoCardSaid : Prop := Claim7.holds Tryz.pinned (.plain (OpenSpec.upto sheetsCopiesSpec)) sheetsCopiesUptoCard

/-- THE SECOND FORM's CARD OF 'noctuarylaw04.SheetsTwins'. -/
def sheetsTwinsUptoCard : Claim7 := { stood := { row := sheetsTwinsUptoRow, standIns := [], harness := (true, "ab7181437f9aeaad4a59cd38734e662c3f2122e82a6799f02c1c5ed9aa67d71b"), looks := true }, kinds := [], alts := [], laidByText := true, laidKinds := [.data, .data, .data, .data, .sentinel, .sentinel, .data, .pinned], laidTests := true, laidLooks := .later }
def SheetsTwinsUptoCardSaid : Prop := Claim7.holds Tryz.pinned (.plain (OpenSpec.upto sheetsTwinsSpec)) sheetsTwinsUptoCard

/-- THE SECOND FORM's CARD OF 'noctuarylaw04.SheetsFits'. -/
def sheetsFitsUptoCard : Claim7 := { stood := { row := sheetsFitsUptoRow, standIns := [], harness := (true, "ab7181437f9aeaad4a59cd38734e662c3f2122e82a6799f02c1c5ed9aa67d71b"), looks := true }, kinds := [], alts := [], laidByText := true, laidKinds := [.data, .data, .data, .data, .sentinel, .sentinel, .data, .pinned], laidTests := true, laidLooks := .later }
def SheetsFitsUptoCardSaid : Prop := Claim7.holds Tryz.pinned (.plain (OpenSpec.upto sheetsFitsSpec)) sheetsFitsUptoCard
end Rows
end Go.Proofs.YtijidcigfdblaaaGreatDoor
