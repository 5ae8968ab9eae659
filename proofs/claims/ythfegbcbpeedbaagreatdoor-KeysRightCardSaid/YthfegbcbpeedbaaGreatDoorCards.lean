/-
  DERIVED. GIVEN WITH THE SEED: THE CARDS: each row of YthfegbcbpeedbaaGreatDoorRows.lean that lists a variable, with what it lists TIED to the program's text (the seventh form; the later family's looks); each row that meets fmt, with fmt's text TOLD by the authors' own Lean function (tested against real Go, not proved from fmt's source: count such statements apart). THE CARD IS WHAT COUNTS. Prove the row's statement (the work); the ties are given (YthfegbcbpeedbaaGreatDoorTie.lean); close each card by the builder's one call (the guide's Derived/Test/ToyasCard.lean, 'card_holds'). Laid BY PROGRAM, IN A SANDBOX (cutbox-door.mjs). By AI agents, Wed Nov 11 2026. No macro, syntax, notation, axiom, sorry.
-/
import Derived.Test.YthfegbcbpeedbaaGreatDoorRows
import GoSem.ClaimSeven
namespace Go.Proofs.YthfegbcbpeedbaaGreatDoor
namespace Rows

/-- THE TIED CARD OF 'noctuarylaw03.KeysRight'. -/
def keysRightCard : Claim7 := { stood := { row := keysRightRow, standIns := [], harness := (true, "a89f7f62196c96d08c35d4e9664d2509b07ce66c27b40da8d93ff5ba353b4af6"), looks := false }, kinds := [], alts := [], laidByText := true, laidKinds := [.data, .data], laidTests := true, laidLooks := .later }
def KeysRightCardSaid : Prop := Claim7.holds Tryz.pinned (.plain (OpenSpec.ofChange keysRightSpec)) keysRightCard

/-- THE SECOND FORM's CARD OF 'noctuarylaw03.KeysRight'. -/
def keysRightUptoCard : Claim7 := { stood := { row := keysRightUptoRow, standIns := [], harness := (true, "a89f7f62196c96d08c35d4e9664d2509b07ce66c27b40da8d93ff5ba353b4af6"), looks := false }, kinds := [], alts := [], laidByText := true, laidKinds := [.data, .data], laidTests := true, laidLooks := .later }
def KeysRightUptoCardSaid : Prop := Claim7.holds Tryz.pinned (.plain (OpenSpec.upto keysRightSpec)) keysRightUptoCard
end Rows
end Go.Proofs.YthfegbcbpeedbaaGreatDoor
