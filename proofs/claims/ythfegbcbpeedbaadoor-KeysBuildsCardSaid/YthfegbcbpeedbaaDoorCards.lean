/-
  DERIVED. GIVEN WITH THE SEED: THE CARDS: each row of YthfegbcbpeedbaaDoorRows.lean that lists a variable, with what it lists TIED to the program's text (the seventh form; the later family's looks); each row that meets fmt, with fmt's text TOLD by the authors' own Lean function (tested against real Go, not proved from fmt's source: count such statements apart). THE CARD IS WHAT COUNTS. Prove the row's statement (the work); the ties are given (YthfegbcbpeedbaaDoorTie.lean); close each card by the builder's one call (the guide's Derived/Test/ToyasCard.lean, 'card_holds'). Laid BY PROGRAM, IN A SANDBOX (cutbox-door.mjs). By AI agents, Wed Nov 11 2026. No macro, syntax, notation, axiom, sorry.
-/
import Derived.Test.YthfegbcbpeedbaaDoorRows
import GoSem.ClaimSeven
namespace Go.Proofs.YthfegbcbpeedbaaDoor
namespace Rows

/-- THE TIED CARD OF 'noctuarylaw03.KeysRows'. -/
def keysRowsCard : Claim7 := { stood := { row := keysRowsRow, standIns := [], harness := (true, "34135ab7e2f928a54a97d77730561f349d28a3cfcc3f221443215a78dd19334e"), looks := false }, kinds := [], alts := [], laidByText := true, laidKinds := [.data, .data], laidTests := true, laidLooks := .later }
def KeysRowsCardSaid : Prop := Claim7.holds Tryd.pinned (.plain (OpenSpec.ofChange keysRowsSpec)) keysRowsCard

/-- THE TIED CARD OF 'noctuarylaw03.KeysNames'. -/
def keysNamesCard : Claim7 := { stood := { row := keysNamesRow, standIns := [], harness := (true, "34135ab7e2f928a54a97d77730561f349d28a3cfcc3f221443215a78dd19334e"), looks := false }, kinds := [], alts := [], laidByText := true, laidKinds := [.data, .data], laidTests := true, laidLooks := .later }
def KeysNamesCardSaid : Prop := Claim7.holds Tryd.pinned (.plain (OpenSpec.ofChange keysNamesSpec)) keysNamesCard

/-- THE TIED CARD OF 'noctuarylaw03.KeysFollow'. -/
def keysFollowCard : Claim7 := { stood := { row := keysFollowRow, standIns := [], harness := (true, "34135ab7e2f928a54a97d77730561f349d28a3cfcc3f221443215a78dd19334e"), looks := false }, kinds := [], alts := [], laidByText := true, laidKinds := [.data, .data], laidTests := true, laidLooks := .later }
def KeysFollowCardSaid : Prop := Claim7.holds Tryd.pinned (.plain (OpenSpec.ofChange keysFollowSpec)) keysFollowCard

/-- THE TIED CARD OF 'noctuarylaw03.KeysBuilds'. -/
def keysBuildsCard : Claim7 := { stood := { row := keysBuildsRow, standIns := [], harness := (true, "34135ab7e2f928a54a97d77730561f349d28a3cfcc3f221443215a78dd19334e"), looks := false }, kinds := [], alts := [], laidByText := true, laidKinds := [.data, .data], laidTests := true, laidLooks := .later }
def KeysBuildsCardSaid : Prop := Claim7.holds Tryd.pinned (.plain (OpenSpec.ofChange keysBuildsSpec)) keysBuildsCard

/-- THE TIED CARD OF 'noctuarylaw03.KeysFitting'. -/
def keysFittingCard : Claim7 := { stood := { row := keysFittingRow, standIns := [], harness := (true, "34135ab7e2f928a54a97d77730561f349d28a3cfcc3f221443215a78dd19334e"), looks := false }, kinds := [], alts := [], laidByText := true, laidKinds := [.data, .data], laidTests := true, laidLooks := .later }
def KeysFittingCardSaid : Prop := Claim7.holds Tryd.pinned (.plain (OpenSpec.ofChange keysFittingSpec)) keysFittingCard

/-- THE TIED CARD OF 'noctuarylaw03.KeysApart'. -/
def keysApartCard : Claim7 := { stood := { row := keysApartRow, standIns := [], harness := (true, "34135ab7e2f928a54a97d77730561f349d28a3cfcc3f221443215a78dd19334e"), looks := false }, kinds := [], alts := [], laidByText := true, laidKinds := [.data, .data], laidTests := true, laidLooks := .later }
def KeysApartCardSaid : Prop := Claim7.holds Tryd.pinned (.plain (OpenSpec.ofChange keysApartSpec)) keysApartCard

/-- THE TIED CARD OF 'noctuarylaw03.KeysQuestions'. -/
def keysQuestionsCard : Claim7 := { stood := { row := keysQuestionsRow, standIns := [], harness := (true, "34135ab7e2f928a54a97d77730561f349d28a3cfcc3f221443215a78dd19334e"), looks := false }, kinds := [], alts := [], laidByText := true, laidKinds := [.data, .data], laidTests := true, laidLooks := .later }
def KeysQuestionsCardSaid : Prop := Claim7.holds Tryd.pinned (.plain (OpenSpec.ofChange keysQuestionsSpec)) keysQuestionsCard

/-- THE TIED CARD OF 'noctuarylaw03.KeysPaths'. -/
def keysPathsCard : Claim7 := { stood := { row := keysPathsRow, standIns := [], harness := (true, "34135ab7e2f928a54a97d77730561f349d28a3cfcc3f221443215a78dd19334e"), looks := false }, kinds := [], alts := [], laidByText := true, laidKinds := [.data, .data], laidTests := true, laidLooks := .later }
def KeysPathsCardSaid : Prop := Claim7.holds Tryd.pinned (.plain (OpenSpec.ofChange keysPathsSpec)) keysPathsCard

/-- THE TIED CARD OF 'noctuarylaw03.KeysProof'. -/
def keysProofCard : Claim7 := { stood := { row := keysProofRow, standIns := [], harness := (true, "34135ab7e2f928a54a97d77730561f349d28a3cfcc3f221443215a78dd19334e"), looks := false }, kinds := [], alts := [], laidByText := true, laidKinds := [.data, .data], laidTests := true, laidLooks := .later }
def KeysProofCardSaid : Prop := Claim7.holds Tryd.pinned (.plain (OpenSpec.ofChange keysProofSpec)) keysProofCard

/-- THE TIED CARD OF 'noctuarylaw03.KeysBest'. -/
def keysBestCard : Claim7 := { stood := { row := keysBestRow, standIns := [], harness := (true, "34135ab7e2f928a54a97d77730561f349d28a3cfcc3f221443215a78dd19334e"), looks := false }, kinds := [], alts := [], laidByText := true, laidKinds := [.data, .data], laidTests := true, laidLooks := .later }
def KeysBestCardSaid : Prop := Claim7.holds Tryd.pinned (.plain (OpenSpec.ofChange keysBestSpec)) keysBestCard

/-- THE TIED CARD OF 'noctuarylaw03.KeysConfusion'. -/
def keysConfusionCard : Claim7 := { stood := { row := keysConfusionRow, standIns := [], harness := (true, "34135ab7e2f928a54a97d77730561f349d28a3cfcc3f221443215a78dd19334e"), looks := false }, kinds := [], alts := [], laidByText := true, laidKinds := [.data, .data], laidTests := true, laidLooks := .later }
def KeysConfusionCardSaid : Prop := Claim7.holds Tryd.pinned (.plain (OpenSpec.ofChange keysConfusionSpec)) keysConfusionCard

/-- THE SECOND FORM's CARD OF 'noctuarylaw03.KeysRows'. -/
def keysRowsUptoCard : Claim7 := { stood := { row := keysRowsUptoRow, standIns := [], harness := (true, "34135ab7e2f928a54a97d77730561f349d28a3cfcc3f221443215a78dd19334e"), looks := false }, kinds := [], alts := [], laidByText := true, laidKinds := [.data, .data], laidTests := true, laidLooks := .later }
def KeysRowsUptoCardSaid : Prop := Claim7.holds Tryd.pinned (.plain (OpenSpec.upto keysRowsSpec)) keysRowsUptoCard

/-- THE SECOND FORM's CARD OF 'noctuarylaw03.KeysNames'. -/
def keysNamesUptoCard : Claim7 := { stood := { row := keysNamesUptoRow, standIns := [], harness := (true, "34135ab7e2f928a54a97d77730561f349d28a3cfcc3f221443215a78dd19334e"), looks := false }, kinds := [], alts := [], laidByText := true, laidKinds := [.data, .data], laidTests := true, laidLooks := .later }
def KeysNamesUptoCardSaid : Prop := Claim7.holds Tryd.pinned (.plain (OpenSpec.upto keysNamesSpec)) keysNamesUptoCard

/-- THE SECOND FORM's CARD OF 'noctuarylaw03.KeysFollow'. -/
def keysFollowUptoCard : Claim7 := { stood := { row := keysFollowUptoRow, standIns := [], harness := (true, "34135ab7e2f928a54a97d77730561f349d28a3cfcc3f221443215a78dd19334e"), looks := false }, kinds := [], alts := [], laidByText := true, laidKinds := [.data, .data], laidTests := true, laidLooks := .later }
def KeysFollowUptoCardSaid : Prop := Claim7.holds Tryd.pinned (.plain (OpenSpec.upto keysFollowSpec)) keysFollowUptoCard

/-- THE SECOND FORM's CARD OF 'noctuarylaw03.KeysBuilds'. -/
def keysBuildsUptoCard : Claim7 := { stood := { row := keysBuildsUptoRow, standIns := [], harness := (true, "34135ab7e2f928a54a97d77730561f349d28a3cfcc3f221443215a78dd19334e"), looks := false }, kinds := [], alts := [], laidByText := true, laidKinds := [.data, .data], laidTests := true, laidLooks := .later }
def KeysBuildsUptoCardSaid : Prop := Claim7.holds Tryd.pinned (.plain (OpenSpec.upto keysBuildsSpec)) keysBuildsUptoCard

/-- THE SECOND FORM's CARD OF 'noctuarylaw03.KeysFitting'. -/
def keysFittingUptoCard : Claim7 := { stood := { row := keysFittingUptoRow, standIns := [], harness := (true, "34135ab7e2f928a54a97d77730561f349d28a3cfcc3f221443215a78dd19334e"), looks := false }, kinds := [], alts := [], laidByText := true, laidKinds := [.data, .data], laidTests := true, laidLooks := .later }
def KeysFittingUptoCardSaid : Prop := Claim7.holds Tryd.pinned (.plain (OpenSpec.upto keysFittingSpec)) keysFittingUptoCard

/-- THE SECOND FORM's CARD OF 'noctuarylaw03.KeysApart'. -/
def keysApartUptoCard : Claim7 := { stood := { row := keysApartUptoRow, standIns := [], harness := (true, "34135ab7e2f928a54a97d77730561f349d28a3cfcc3f221443215a78dd19334e"), looks := false }, kinds := [], alts := [], laidByText := true, laidKinds := [.data, .data], laidTests := true, laidLooks := .later }
def KeysApartUptoCardSaid : Prop := Claim7.holds Tryd.pinned (.plain (OpenSpec.upto keysApartSpec)) keysApartUptoCard

/-- THE SECOND FORM's CARD OF 'noctuarylaw03.KeysQuestions'. -/
def keysQuestionsUptoCard : Claim7 := { stood := { row := keysQuestionsUptoRow, standIns := [], harness := (true, "34135ab7e2f928a54a97d77730561f349d28a3cfcc3f221443215a78dd19334e"), looks := false }, kinds := [], alts := [], laidByText := true, laidKinds := [.data, .data], laidTests := true, laidLooks := .later }
def KeysQuestionsUptoCardSaid : Prop := Claim7.holds Tryd.pinned (.plain (OpenSpec.upto keysQuestionsSpec)) keysQuestionsUptoCard

/-- THE SECOND FORM's CARD OF 'noctuarylaw03.KeysPaths'. -/
def keysPathsUptoCard : Claim7 := { stood := { row := keysPathsUptoRow, standIns := [], harness := (true, "34135ab7e2f928a54a97d77730561f349d28a3cfcc3f221443215a78dd19334e"), looks := false }, kinds := [], alts := [], laidByText := true, laidKinds := [.data, .data], laidTests := true, laidLooks := .later }
def KeysPathsUptoCardSaid : Prop := Claim7.holds Tryd.pinned (.plain (OpenSpec.upto keysPathsSpec)) keysPathsUptoCard

/-- THE SECOND FORM's CARD OF 'noctuarylaw03.KeysProof'. -/
def keysProofUptoCard : Claim7 := { stood := { row := keysProofUptoRow, standIns := [], harness := (true, "34135ab7e2f928a54a97d77730561f349d28a3cfcc3f221443215a78dd19334e"), looks := false }, kinds := [], alts := [], laidByText := true, laidKinds := [.data, .data], laidTests := true, laidLooks := .later }
def KeysProofUptoCardSaid : Prop := Claim7.holds Tryd.pinned (.plain (OpenSpec.upto keysProofSpec)) keysProofUptoCard

/-- THE SECOND FORM's CARD OF 'noctuarylaw03.KeysBest'. -/
def keysBestUptoCard : Claim7 := { stood := { row := keysBestUptoRow, standIns := [], harness := (true, "34135ab7e2f928a54a97d77730561f349d28a3cfcc3f221443215a78dd19334e"), looks := false }, kinds := [], alts := [], laidByText := true, laidKinds := [.data, .data], laidTests := true, laidLooks := .later }
def KeysBestUptoCardSaid : Prop := Claim7.holds Tryd.pinned (.plain (OpenSpec.upto keysBestSpec)) keysBestUptoCard

/-- THE SECOND FORM's CARD OF 'noctuarylaw03.KeysConfusion'. -/
def keysConfusionUptoCard : Claim7 := { stood := { row := keysConfusionUptoRow, standIns := [], harness := (true, "34135ab7e2f928a54a97d77730561f349d28a3cfcc3f221443215a78dd19334e"), looks := false }, kinds := [], alts := [], laidByText := true, laidKinds := [.data, .data], laidTests := true, laidLooks := .later }
def KeysConfusionUptoCardSaid : Prop := Claim7.holds Tryd.pinned (.plain (OpenSpec.upto keysConfusionSpec)) keysConfusionUptoCard
end Rows
end Go.Proofs.YthfegbcbpeedbaaDoor
