/-
  DERIVED. GIVEN WITH THE SEED: THE CARDS: each row of YtabolonlkocopaaDoorRows.lean that lists a variable, with what it lists TIED to the program's text (the seventh form; the later family's looks); each row that meets fmt, with fmt's text TOLD by the authors' own Lean function (tested against real Go, not proved from fmt's source: count such statements apart). THE CARD IS WHAT COUNTS. Prove the row's statement (the work); the ties are given (YtabolonlkocopaaDoorTie.lean); close each card by the builder's one call (the guide's Derived/Test/ToyasCard.lean, 'card_holds'). Laid BY PROGRAM, IN A SANDBOX (cutbox-door.mjs). By AI agents, Wed Nov 11 2026. No macro, syntax, notation, axiom, sorry.
-/
import Derived.Test.YtabolonlkocopaaDoorRows
import GoSem.ClaimSeven
namespace Go.Proofs.YtabolonlkocopaaDoor
namespace Rows

/-- THE TIED CARD OF 'noctuarylaw01.PlacesSquares'. -/
def placesSquaresCard : Claim7 := { stood := { row := placesSquaresRow, standIns := [], harness := (true, "6322d4184f58421b3e1bc1920f9ab32eaea435bc8a149f4e8d6d643391eee7b1"), looks := false }, kinds := [], alts := [], laidByText := true, laidKinds := [.data, .data, .data, .data], laidTests := true, laidLooks := .later }
def PlacesSquaresCardSaid : Prop := Claim7.holds Tryd.pinned (.plain (OpenSpec.ofChange placesSquaresSpec)) placesSquaresCard

/-- THE TIED CARD OF 'noctuarylaw01.PlacesNights'. -/
def placesNightsCard : Claim7 := { stood := { row := placesNightsRow, standIns := [], harness := (true, "6322d4184f58421b3e1bc1920f9ab32eaea435bc8a149f4e8d6d643391eee7b1"), looks := false }, kinds := [], alts := [], laidByText := true, laidKinds := [.data, .data, .data, .data], laidTests := true, laidLooks := .later }
def PlacesNightsCardSaid : Prop := Claim7.holds Tryd.pinned (.plain (OpenSpec.ofChange placesNightsSpec)) placesNightsCard

/-- THE TIED CARD OF 'noctuarylaw01.PlacesFamily'. -/
def placesFamilyCard : Claim7 := { stood := { row := placesFamilyRow, standIns := [], harness := (true, "6322d4184f58421b3e1bc1920f9ab32eaea435bc8a149f4e8d6d643391eee7b1"), looks := false }, kinds := [], alts := [], laidByText := true, laidKinds := [.data, .data, .data, .data], laidTests := true, laidLooks := .later }
def PlacesFamilyCardSaid : Prop := Claim7.holds Tryd.pinned (.plain (OpenSpec.ofChange placesFamilySpec)) placesFamilyCard

/-- THE TIED CARD OF 'noctuarylaw01.PlacesNormal'. -/
def placesNormalCard : Claim7 := { stood := { row := placesNormalRow, standIns := [], harness := (true, "6322d4184f58421b3e1bc1920f9ab32eaea435bc8a149f4e8d6d643391eee7b1"), looks := false }, kinds := [], alts := [], laidByText := true, laidKinds := [.data, .data, .data, .data], laidTests := true, laidLooks := .later }
def PlacesNormalCardSaid : Prop := Claim7.holds Tryd.pinned (.plain (OpenSpec.ofChange placesNormalSpec)) placesNormalCard

/-- THE TIED CARD OF 'noctuarylaw01.PlacesAlgebra'. -/
def placesAlgebraCard : Claim7 := { stood := { row := placesAlgebraRow, standIns := [], harness := (true, "6322d4184f58421b3e1bc1920f9ab32eaea435bc8a149f4e8d6d643391eee7b1"), looks := false }, kinds := [], alts := [], laidByText := true, laidKinds := [.data, .data, .data, .data], laidTests := true, laidLooks := .later }
def PlacesAlgebraCardSaid : Prop := Claim7.holds Tryd.pinned (.plain (OpenSpec.ofChange placesAlgebraSpec)) placesAlgebraCard

/-- THE TIED CARD OF 'noctuarylaw01.PlacesAreas'. -/
def placesAreasCard : Claim7 := { stood := { row := placesAreasRow, standIns := [], harness := (true, "6322d4184f58421b3e1bc1920f9ab32eaea435bc8a149f4e8d6d643391eee7b1"), looks := false }, kinds := [], alts := [], laidByText := true, laidKinds := [.data, .data, .data, .data], laidTests := true, laidLooks := .later }
def PlacesAreasCardSaid : Prop := Claim7.holds Tryd.pinned (.plain (OpenSpec.ofChange placesAreasSpec)) placesAreasCard

/-- THE TIED CARD OF 'noctuarylaw01.PlacesCovering'. -/
def placesCoveringCard : Claim7 := { stood := { row := placesCoveringRow, standIns := [], harness := (true, "6322d4184f58421b3e1bc1920f9ab32eaea435bc8a149f4e8d6d643391eee7b1"), looks := false }, kinds := [], alts := [], laidByText := true, laidKinds := [.data, .data, .data, .data], laidTests := true, laidLooks := .later }
def PlacesCoveringCardSaid : Prop := Claim7.holds Tryd.pinned (.plain (OpenSpec.ofChange placesCoveringSpec)) placesCoveringCard

/-- THE TIED CARD OF 'noctuarylaw01.PlacesDates'. -/
def placesDatesCard : Claim7 := { stood := { row := placesDatesRow, standIns := [], harness := (true, "6322d4184f58421b3e1bc1920f9ab32eaea435bc8a149f4e8d6d643391eee7b1"), looks := false }, kinds := [], alts := [], laidByText := true, laidKinds := [.data, .data, .data, .data], laidTests := true, laidLooks := .later }
def PlacesDatesCardSaid : Prop := Claim7.holds Tryd.pinned (.plain (OpenSpec.ofChange placesDatesSpec)) placesDatesCard

/-- THE TIED CARD OF 'noctuarylaw01.PlacesSeasons'. -/
def placesSeasonsCard : Claim7 := { stood := { row := placesSeasonsRow, standIns := [], harness := (true, "6322d4184f58421b3e1bc1920f9ab32eaea435bc8a149f4e8d6d643391eee7b1"), looks := false }, kinds := [], alts := [], laidByText := true, laidKinds := [.data, .data, .data, .data], laidTests := true, laidLooks := .later }
def PlacesSeasonsCardSaid : Prop := Claim7.holds Tryd.pinned (.plain (OpenSpec.ofChange placesSeasonsSpec)) placesSeasonsCard

/-- THE TIED CARD OF 'noctuarylaw01.PlacesBack'. -/
def placesBackCard : Claim7 := { stood := { row := placesBackRow, standIns := [], harness := (true, "6322d4184f58421b3e1bc1920f9ab32eaea435bc8a149f4e8d6d643391eee7b1"), looks := false }, kinds := [], alts := [], laidByText := true, laidKinds := [.data, .data, .data, .data], laidTests := true, laidLooks := .later }
def PlacesBackCardSaid : Prop := Claim7.holds Tryd.pinned (.plain (OpenSpec.ofChange placesBackSpec)) placesBackCard

/-- THE SECOND FORM's CARD OF 'noctuarylaw01.PlacesSquares'. -/
def placesSquaresUptoCard : Claim7 := { stood := { row := placesSquaresUptoRow, standIns := [], harness := (true, "6322d4184f58421b3e1bc1920f9ab32eaea435bc8a149f4e8d6d643391eee7b1"), looks := false }, kinds := [], alts := [], laidByText := true, laidKinds := [.data, .data, .data, .data], laidTests := true, laidLooks := .later }
def PlacesSquaresUptoCardSaid : Prop := Claim7.holds Tryd.pinned (.plain (OpenSpec.upto placesSquaresSpec)) placesSquaresUptoCard

/-- THE SECOND FORM's CARD OF 'noctuarylaw01.PlacesNights'. -/
def placesNightsUptoCard : Claim7 := { stood := { row := placesNightsUptoRow, standIns := [], harness := (true, "6322d4184f58421b3e1bc1920f9ab32eaea435bc8a149f4e8d6d643391eee7b1"), looks := false }, kinds := [], alts := [], laidByText := true, laidKinds := [.data, .data, .data, .data], laidTests := true, laidLooks := .later }
def PlacesNightsUptoCardSaid : Prop := Claim7.holds Tryd.pinned (.plain (OpenSpec.upto placesNightsSpec)) placesNightsUptoCard

/-- THE SECOND FORM's CARD OF 'noctuarylaw01.PlacesFamily'. -/
def placesFamilyUptoCard : Claim7 := { stood := { row := placesFamilyUptoRow, standIns := [], harness := (true, "6322d4184f58421b3e1bc1920f9ab32eaea435bc8a149f4e8d6d643391eee7b1"), looks := false }, kinds := [], alts := [], laidByText := true, laidKinds := [.data, .data, .data, .data], laidTests := true, laidLooks := .later }
def PlacesFamilyUptoCardSaid : Prop := Claim7.holds Tryd.pinned (.plain (OpenSpec.upto placesFamilySpec)) placesFamilyUptoCard

/-- THE SECOND FORM's CARD OF 'noctuarylaw01.PlacesNormal'. -/
def placesNormalUptoCard : Claim7 := { stood := { row := placesNormalUptoRow, standIns := [], harness := (true, "6322d4184f58421b3e1bc1920f9ab32eaea435bc8a149f4e8d6d643391eee7b1"), looks := false }, kinds := [], alts := [], laidByText := true, laidKinds := [.data, .data, .data, .data], laidTests := true, laidLooks := .later }
def PlacesNormalUptoCardSaid : Prop := Claim7.holds Tryd.pinned (.plain (OpenSpec.upto placesNormalSpec)) placesNormalUptoCard

/-- THE SECOND FORM's CARD OF 'noctuarylaw01.PlacesAlgebra'. -/
def placesAlgebraUptoCard : Claim7 := { stood := { row := placesAlgebraUptoRow, standIns := [], harness := (true, "6322d4184f58421b3e1bc1920f9ab32eaea435bc8a149f4e8d6d643391eee7b1"), looks := false }, kinds := [], alts := [], laidByText := true, laidKinds := [.data, .data, .data, .data], laidTests := true, laidLooks := .later }
def PlacesAlgebraUptoCardSaid : Prop := Claim7.holds Tryd.pinned (.plain (OpenSpec.upto placesAlgebraSpec)) placesAlgebraUptoCard

/-- THE SECOND FORM's CARD OF 'noctuarylaw01.PlacesAreas'. -/
def placesAreasUptoCard : Claim7 := { stood := { row := placesAreasUptoRow, standIns := [], harness := (true, "6322d4184f58421b3e1bc1920f9ab32eaea435bc8a149f4e8d6d643391eee7b1"), looks := false }, kinds := [], alts := [], laidByText := true, laidKinds := [.data, .data, .data, .data], laidTests := true, laidLooks := .later }
def PlacesAreasUptoCardSaid : Prop := Claim7.holds Tryd.pinned (.plain (OpenSpec.upto placesAreasSpec)) placesAreasUptoCard

/-- THE SECOND FORM's CARD OF 'noctuarylaw01.PlacesCovering'. -/
def placesCoveringUptoCard : Claim7 := { stood := { row := placesCoveringUptoRow, standIns := [], harness := (true, "6322d4184f58421b3e1bc1920f9ab32eaea435bc8a149f4e8d6d643391eee7b1"), looks := false }, kinds := [], alts := [], laidByText := true, laidKinds := [.data, .data, .data, .data], laidTests := true, laidLooks := .later }
def PlacesCoveringUptoCardSaid : Prop := Claim7.holds Tryd.pinned (.plain (OpenSpec.upto placesCoveringSpec)) placesCoveringUptoCard

/-- THE SECOND FORM's CARD OF 'noctuarylaw01.PlacesDates'. -/
def placesDatesUptoCard : Claim7 := { stood := { row := placesDatesUptoRow, standIns := [], harness := (true, "6322d4184f58421b3e1bc1920f9ab32eaea435bc8a149f4e8d6d643391eee7b1"), looks := false }, kinds := [], alts := [], laidByText := true, laidKinds := [.data, .data, .data, .data], laidTests := true, laidLooks := .later }
def PlacesDatesUptoCardSaid : Prop := Claim7.holds Tryd.pinned (.plain (OpenSpec.upto placesDatesSpec)) placesDatesUptoCard

/-- THE SECOND FORM's CARD OF 'noctuarylaw01.PlacesSeasons'. -/
def placesSeasonsUptoCard : Claim7 := { stood := { row := placesSeasonsUptoRow, standIns := [], harness := (true, "6322d4184f58421b3e1bc1920f9ab32eaea435bc8a149f4e8d6d643391eee7b1"), looks := false }, kinds := [], alts := [], laidByText := true, laidKinds := [.data, .data, .data, .data], laidTests := true, laidLooks := .later }
def PlacesSeasonsUptoCardSaid : Prop := Claim7.holds Tryd.pinned (.plain (OpenSpec.upto placesSeasonsSpec)) placesSeasonsUptoCard

/-- THE SECOND FORM's CARD OF 'noctuarylaw01.PlacesBack'. -/
def placesBackUptoCard : Claim7 := { stood := { row := placesBackUptoRow, standIns := [], harness := (true, "6322d4184f58421b3e1bc1920f9ab32eaea435bc8a149f4e8d6d643391eee7b1"), looks := false }, kinds := [], alts := [], laidByText := true, laidKinds := [.data, .data, .data, .data], laidTests := true, laidLooks := .later }
def PlacesBackUptoCardSaid : Prop := Claim7.holds Tryd.pinned (.plain (OpenSpec.upto placesBackSpec)) placesBackUptoCard
end Rows
end Go.Proofs.YtabolonlkocopaaDoor
