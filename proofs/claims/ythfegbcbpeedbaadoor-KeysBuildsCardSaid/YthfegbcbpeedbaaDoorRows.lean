/-
  NARROWER THAN 'FOR EVERY INPUT', by the rows' own cells (each row's printed sentence says how): KeysRows: laid · KeysNames: laid · KeysFollow: laid · KeysBuilds: laid · KeysFitting: laid · KeysApart: laid · KeysQuestions: laid · KeysPaths: laid · KeysProof: laid · KeysBest: laid · KeysConfusion: laid.
  DERIVED. THE GIVEN ROWS OF THIS SEAT. 11 by the template 'for every input the law returns true; each argument reads behind the call as it read before'; 0 by the template 'total and deterministic' (their statements: YthfegbcbpeedbaaDoorTotals.lean).
  GIVEN WITH THE SEED: the statements are not yours to turn. If you find one false, say at which input.
  Laid BY PROGRAM, IN A SANDBOX (cutbox-rows.mjs): the forced cells as the released guide's own fill.sh prints them over the translation 0dc3f574d03c5f77… (all of the seat's roots in one cut). By AI agents, Wed Nov 11 2026. No macro, syntax, notation, axiom, sorry.
-/
import Derived.Test.YthfegbcbpeedbaaDoorChecked
import GoSem.Claim
import GoSem.ClaimJoined
import GoSem.ClaimMapViews
import Derived.JoinedTies
import Derived.KernelRfl
namespace Go.Proofs.YthfegbcbpeedbaaDoor
/- THE CELL 'sum', in the pinned program and in every row, IS THE sha256 OF THE DUMP (.gsa) THAT YthfegbcbpeedbaaDoorProg.lean LOADS. Nothing in Lean hashes anything: it is a label: what it is worth is what the hold of that sum in a sandbox is worth. -/
noncomputable def Tryd.pinned : Pinned := { name := "ythfegbcbpeedbaadoor", sum := "0dc3f574d03c5f77a16d68b417d844a5f06d8899111b91935a7085b0c17112f0", checked := Tryd.checked }
namespace Rows
def none {H : Type} : Left H := { results := [], args := [] }

/- WHAT THE LISTED PACKAGE-LEVEL VARIABLES READ AS WHEN THE CALL BEGINS. Each datum BY PROGRAM (the guide's laid-datum.mjs) off the statement by which the dump's own 'gosem.cut.vars' lays the variable. In a bare row this is a premise. The card (YthfegbcbpeedbaaDoorCards.lean) ties it to the program's text. -/
def laid_math_bits_deBruijn32tab {H : Type} : DataW H := .agg [.lit (.int .u8 0), .lit (.int .u8 1), .lit (.int .u8 28), .lit (.int .u8 2), .lit (.int .u8 29), .lit (.int .u8 14), .lit (.int .u8 24), .lit (.int .u8 3), .lit (.int .u8 30), .lit (.int .u8 22), .lit (.int .u8 20), .lit (.int .u8 15), .lit (.int .u8 25), .lit (.int .u8 17), .lit (.int .u8 4), .lit (.int .u8 8), .lit (.int .u8 31), .lit (.int .u8 27), .lit (.int .u8 13), .lit (.int .u8 23), .lit (.int .u8 21), .lit (.int .u8 19), .lit (.int .u8 16), .lit (.int .u8 7), .lit (.int .u8 26), .lit (.int .u8 12), .lit (.int .u8 18), .lit (.int .u8 6), .lit (.int .u8 11), .lit (.int .u8 5), .lit (.int .u8 10), .lit (.int .u8 9)]
def laid_math_bits_deBruijn64tab {H : Type} : DataW H := .agg [.lit (.int .u8 0), .lit (.int .u8 1), .lit (.int .u8 56), .lit (.int .u8 2), .lit (.int .u8 57), .lit (.int .u8 49), .lit (.int .u8 28), .lit (.int .u8 3), .lit (.int .u8 61), .lit (.int .u8 58), .lit (.int .u8 42), .lit (.int .u8 50), .lit (.int .u8 38), .lit (.int .u8 29), .lit (.int .u8 17), .lit (.int .u8 4), .lit (.int .u8 62), .lit (.int .u8 47), .lit (.int .u8 59), .lit (.int .u8 36), .lit (.int .u8 45), .lit (.int .u8 43), .lit (.int .u8 51), .lit (.int .u8 22), .lit (.int .u8 53), .lit (.int .u8 39), .lit (.int .u8 33), .lit (.int .u8 30), .lit (.int .u8 24), .lit (.int .u8 18), .lit (.int .u8 12), .lit (.int .u8 5), .lit (.int .u8 63), .lit (.int .u8 55), .lit (.int .u8 48), .lit (.int .u8 27), .lit (.int .u8 60), .lit (.int .u8 41), .lit (.int .u8 37), .lit (.int .u8 16), .lit (.int .u8 46), .lit (.int .u8 35), .lit (.int .u8 44), .lit (.int .u8 21), .lit (.int .u8 52), .lit (.int .u8 32), .lit (.int .u8 23), .lit (.int .u8 11), .lit (.int .u8 54), .lit (.int .u8 26), .lit (.int .u8 40), .lit (.int .u8 15), .lit (.int .u8 34), .lit (.int .u8 20), .lit (.int .u8 31), .lit (.int .u8 10), .lit (.int .u8 25), .lit (.int .u8 14), .lit (.int .u8 19), .lit (.int .u8 9), .lit (.int .u8 13), .lit (.int .u8 8), .lit (.int .u8 7), .lit (.int .u8 6)]

/-- 'noctuarylaw03.KeysRows': WHATEVER THE INPUT: true; the input reads as it did. -/
def keysRowsSpec : ChangeSpec := { name := "keysRows", fn := fun _ => fun
  | [d1, d2] => { results := [.lit (.bool true)], args := [d1, d2] }
  | _ => none }
def keysRowsRow : OpenClaim := { program := "ythfegbcbpeedbaadoor", sum := "0dc3f574d03c5f77a16d68b417d844a5f06d8899111b91935a7085b0c17112f0", func := "noctuary/noctuarylaw03.KeysRows", spec := "keysRows", unfollowed := true, recurses := true, named := ["math/bits.deBruijn32tab", "math/bits.deBruijn64tab"], apart := false, laid := [("math/bits.deBruijn32tab", laid_math_bits_deBruijn32tab), ("math/bits.deBruijn64tab", laid_math_bits_deBruijn64tab)] }
def KeysRowsSaid : Prop := keysRowsRow.holds Tryd.pinned (OpenSpec.ofChange keysRowsSpec)

/-- ITS FALSE NEIGHBOUR: 'it returns false'. Refute it at one input. -/
def keysRowsWrong : ChangeSpec := { name := "keysRows", fn := fun _ => fun
  | [d1, d2] => { results := [.lit (.bool false)], args := [d1, d2] }
  | _ => none }
def KeysRowsWrongFalsely : Prop := keysRowsRow.holds Tryd.pinned (OpenSpec.ofChange keysRowsWrong)

/-- 'noctuarylaw03.KeysNames': WHATEVER THE INPUT: true; the input reads as it did. -/
def keysNamesSpec : ChangeSpec := { name := "keysNames", fn := fun _ => fun
  | [d1, d2] => { results := [.lit (.bool true)], args := [d1, d2] }
  | _ => none }
def keysNamesRow : OpenClaim := { program := "ythfegbcbpeedbaadoor", sum := "0dc3f574d03c5f77a16d68b417d844a5f06d8899111b91935a7085b0c17112f0", func := "noctuary/noctuarylaw03.KeysNames", spec := "keysNames", unfollowed := true, recurses := true, named := ["math/bits.deBruijn32tab", "math/bits.deBruijn64tab"], apart := false, laid := [("math/bits.deBruijn32tab", laid_math_bits_deBruijn32tab), ("math/bits.deBruijn64tab", laid_math_bits_deBruijn64tab)] }
def KeysNamesSaid : Prop := keysNamesRow.holds Tryd.pinned (OpenSpec.ofChange keysNamesSpec)

/-- ITS FALSE NEIGHBOUR: 'it returns false'. Refute it at one input. -/
def keysNamesWrong : ChangeSpec := { name := "keysNames", fn := fun _ => fun
  | [d1, d2] => { results := [.lit (.bool false)], args := [d1, d2] }
  | _ => none }
def KeysNamesWrongFalsely : Prop := keysNamesRow.holds Tryd.pinned (OpenSpec.ofChange keysNamesWrong)

/-- 'noctuarylaw03.KeysFollow': WHATEVER THE INPUT: true; the input reads as it did. -/
def keysFollowSpec : ChangeSpec := { name := "keysFollow", fn := fun _ => fun
  | [d1, d2, d3] => { results := [.lit (.bool true)], args := [d1, d2, d3] }
  | _ => none }
def keysFollowRow : OpenClaim := { program := "ythfegbcbpeedbaadoor", sum := "0dc3f574d03c5f77a16d68b417d844a5f06d8899111b91935a7085b0c17112f0", func := "noctuary/noctuarylaw03.KeysFollow", spec := "keysFollow", unfollowed := true, recurses := true, named := ["math/bits.deBruijn32tab", "math/bits.deBruijn64tab"], apart := false, laid := [("math/bits.deBruijn32tab", laid_math_bits_deBruijn32tab), ("math/bits.deBruijn64tab", laid_math_bits_deBruijn64tab)] }
def KeysFollowSaid : Prop := keysFollowRow.holds Tryd.pinned (OpenSpec.ofChange keysFollowSpec)

/-- ITS FALSE NEIGHBOUR: 'it returns false'. Refute it at one input. -/
def keysFollowWrong : ChangeSpec := { name := "keysFollow", fn := fun _ => fun
  | [d1, d2, d3] => { results := [.lit (.bool false)], args := [d1, d2, d3] }
  | _ => none }
def KeysFollowWrongFalsely : Prop := keysFollowRow.holds Tryd.pinned (OpenSpec.ofChange keysFollowWrong)

/-- 'noctuarylaw03.KeysBuilds': WHATEVER THE INPUT: true; the input reads as it did. -/
def keysBuildsSpec : ChangeSpec := { name := "keysBuilds", fn := fun _ => fun
  | [d] => { results := [.lit (.bool true)], args := [d] }
  | _ => none }
def keysBuildsRow : OpenClaim := { program := "ythfegbcbpeedbaadoor", sum := "0dc3f574d03c5f77a16d68b417d844a5f06d8899111b91935a7085b0c17112f0", func := "noctuary/noctuarylaw03.KeysBuilds", spec := "keysBuilds", unfollowed := true, recurses := true, named := ["math/bits.deBruijn32tab", "math/bits.deBruijn64tab"], apart := false, laid := [("math/bits.deBruijn32tab", laid_math_bits_deBruijn32tab), ("math/bits.deBruijn64tab", laid_math_bits_deBruijn64tab)] }
def KeysBuildsSaid : Prop := keysBuildsRow.holds Tryd.pinned (OpenSpec.ofChange keysBuildsSpec)

/-- ITS FALSE NEIGHBOUR: 'it returns false'. Refute it at one input. -/
def keysBuildsWrong : ChangeSpec := { name := "keysBuilds", fn := fun _ => fun
  | [d] => { results := [.lit (.bool false)], args := [d] }
  | _ => none }
def KeysBuildsWrongFalsely : Prop := keysBuildsRow.holds Tryd.pinned (OpenSpec.ofChange keysBuildsWrong)

/-- 'noctuarylaw03.KeysFitting': WHATEVER THE INPUT: true; the input reads as it did. -/
def keysFittingSpec : ChangeSpec := { name := "keysFitting", fn := fun _ => fun
  | [d1, d2] => { results := [.lit (.bool true)], args := [d1, d2] }
  | _ => none }
def keysFittingRow : OpenClaim := { program := "ythfegbcbpeedbaadoor", sum := "0dc3f574d03c5f77a16d68b417d844a5f06d8899111b91935a7085b0c17112f0", func := "noctuary/noctuarylaw03.KeysFitting", spec := "keysFitting", unfollowed := true, recurses := true, named := ["math/bits.deBruijn32tab", "math/bits.deBruijn64tab"], apart := false, laid := [("math/bits.deBruijn32tab", laid_math_bits_deBruijn32tab), ("math/bits.deBruijn64tab", laid_math_bits_deBruijn64tab)] }
def KeysFittingSaid : Prop := keysFittingRow.holds Tryd.pinned (OpenSpec.ofChange keysFittingSpec)

/-- ITS FALSE NEIGHBOUR: 'it returns false'. Refute it at one input. -/
def keysFittingWrong : ChangeSpec := { name := "keysFitting", fn := fun _ => fun
  | [d1, d2] => { results := [.lit (.bool false)], args := [d1, d2] }
  | _ => none }
def KeysFittingWrongFalsely : Prop := keysFittingRow.holds Tryd.pinned (OpenSpec.ofChange keysFittingWrong)

/-- 'noctuarylaw03.KeysApart': WHATEVER THE INPUT: true; the input reads as it did. -/
def keysApartSpec : ChangeSpec := { name := "keysApart", fn := fun _ => fun
  | [d1, d2] => { results := [.lit (.bool true)], args := [d1, d2] }
  | _ => none }
def keysApartRow : OpenClaim := { program := "ythfegbcbpeedbaadoor", sum := "0dc3f574d03c5f77a16d68b417d844a5f06d8899111b91935a7085b0c17112f0", func := "noctuary/noctuarylaw03.KeysApart", spec := "keysApart", unfollowed := true, recurses := true, named := ["math/bits.deBruijn32tab", "math/bits.deBruijn64tab"], apart := false, laid := [("math/bits.deBruijn32tab", laid_math_bits_deBruijn32tab), ("math/bits.deBruijn64tab", laid_math_bits_deBruijn64tab)] }
def KeysApartSaid : Prop := keysApartRow.holds Tryd.pinned (OpenSpec.ofChange keysApartSpec)

/-- ITS FALSE NEIGHBOUR: 'it returns false'. Refute it at one input. -/
def keysApartWrong : ChangeSpec := { name := "keysApart", fn := fun _ => fun
  | [d1, d2] => { results := [.lit (.bool false)], args := [d1, d2] }
  | _ => none }
def KeysApartWrongFalsely : Prop := keysApartRow.holds Tryd.pinned (OpenSpec.ofChange keysApartWrong)

/-- 'noctuarylaw03.KeysQuestions': WHATEVER THE INPUT: true; the input reads as it did. -/
def keysQuestionsSpec : ChangeSpec := { name := "keysQuestions", fn := fun _ => fun
  | [d1, d2] => { results := [.lit (.bool true)], args := [d1, d2] }
  | _ => none }
def keysQuestionsRow : OpenClaim := { program := "ythfegbcbpeedbaadoor", sum := "0dc3f574d03c5f77a16d68b417d844a5f06d8899111b91935a7085b0c17112f0", func := "noctuary/noctuarylaw03.KeysQuestions", spec := "keysQuestions", unfollowed := true, recurses := true, named := ["math/bits.deBruijn32tab", "math/bits.deBruijn64tab"], apart := false, laid := [("math/bits.deBruijn32tab", laid_math_bits_deBruijn32tab), ("math/bits.deBruijn64tab", laid_math_bits_deBruijn64tab)] }
def KeysQuestionsSaid : Prop := keysQuestionsRow.holds Tryd.pinned (OpenSpec.ofChange keysQuestionsSpec)

/-- ITS FALSE NEIGHBOUR: 'it returns false'. Refute it at one input. -/
def keysQuestionsWrong : ChangeSpec := { name := "keysQuestions", fn := fun _ => fun
  | [d1, d2] => { results := [.lit (.bool false)], args := [d1, d2] }
  | _ => none }
def KeysQuestionsWrongFalsely : Prop := keysQuestionsRow.holds Tryd.pinned (OpenSpec.ofChange keysQuestionsWrong)

/-- 'noctuarylaw03.KeysPaths': WHATEVER THE INPUT: true; the input reads as it did. -/
def keysPathsSpec : ChangeSpec := { name := "keysPaths", fn := fun _ => fun
  | [d1, d2, d3] => { results := [.lit (.bool true)], args := [d1, d2, d3] }
  | _ => none }
def keysPathsRow : OpenClaim := { program := "ythfegbcbpeedbaadoor", sum := "0dc3f574d03c5f77a16d68b417d844a5f06d8899111b91935a7085b0c17112f0", func := "noctuary/noctuarylaw03.KeysPaths", spec := "keysPaths", unfollowed := true, recurses := true, named := ["math/bits.deBruijn32tab", "math/bits.deBruijn64tab"], apart := false, laid := [("math/bits.deBruijn32tab", laid_math_bits_deBruijn32tab), ("math/bits.deBruijn64tab", laid_math_bits_deBruijn64tab)] }
def KeysPathsSaid : Prop := keysPathsRow.holds Tryd.pinned (OpenSpec.ofChange keysPathsSpec)

/-- ITS FALSE NEIGHBOUR: 'it returns false'. Refute it at one input. -/
def keysPathsWrong : ChangeSpec := { name := "keysPaths", fn := fun _ => fun
  | [d1, d2, d3] => { results := [.lit (.bool false)], args := [d1, d2, d3] }
  | _ => none }
def KeysPathsWrongFalsely : Prop := keysPathsRow.holds Tryd.pinned (OpenSpec.ofChange keysPathsWrong)

/-- 'noctuarylaw03.KeysProof': WHATEVER THE INPUT: true; the input reads as it did. -/
def keysProofSpec : ChangeSpec := { name := "keysProof", fn := fun _ => fun
  | [d1, d2, d3] => { results := [.lit (.bool true)], args := [d1, d2, d3] }
  | _ => none }
def keysProofRow : OpenClaim := { program := "ythfegbcbpeedbaadoor", sum := "0dc3f574d03c5f77a16d68b417d844a5f06d8899111b91935a7085b0c17112f0", func := "noctuary/noctuarylaw03.KeysProof", spec := "keysProof", unfollowed := true, recurses := true, named := ["math/bits.deBruijn32tab", "math/bits.deBruijn64tab"], apart := false, laid := [("math/bits.deBruijn32tab", laid_math_bits_deBruijn32tab), ("math/bits.deBruijn64tab", laid_math_bits_deBruijn64tab)] }
def KeysProofSaid : Prop := keysProofRow.holds Tryd.pinned (OpenSpec.ofChange keysProofSpec)

/-- ITS FALSE NEIGHBOUR: 'it returns false'. Refute it at one input. -/
def keysProofWrong : ChangeSpec := { name := "keysProof", fn := fun _ => fun
  | [d1, d2, d3] => { results := [.lit (.bool false)], args := [d1, d2, d3] }
  | _ => none }
def KeysProofWrongFalsely : Prop := keysProofRow.holds Tryd.pinned (OpenSpec.ofChange keysProofWrong)

/-- 'noctuarylaw03.KeysBest': WHATEVER THE INPUT: true; the input reads as it did. -/
def keysBestSpec : ChangeSpec := { name := "keysBest", fn := fun _ => fun
  | [d] => { results := [.lit (.bool true)], args := [d] }
  | _ => none }
def keysBestRow : OpenClaim := { program := "ythfegbcbpeedbaadoor", sum := "0dc3f574d03c5f77a16d68b417d844a5f06d8899111b91935a7085b0c17112f0", func := "noctuary/noctuarylaw03.KeysBest", spec := "keysBest", unfollowed := true, recurses := true, named := ["math/bits.deBruijn32tab", "math/bits.deBruijn64tab"], apart := false, laid := [("math/bits.deBruijn32tab", laid_math_bits_deBruijn32tab), ("math/bits.deBruijn64tab", laid_math_bits_deBruijn64tab)] }
def KeysBestSaid : Prop := keysBestRow.holds Tryd.pinned (OpenSpec.ofChange keysBestSpec)

/-- ITS FALSE NEIGHBOUR: 'it returns false'. Refute it at one input. -/
def keysBestWrong : ChangeSpec := { name := "keysBest", fn := fun _ => fun
  | [d] => { results := [.lit (.bool false)], args := [d] }
  | _ => none }
def KeysBestWrongFalsely : Prop := keysBestRow.holds Tryd.pinned (OpenSpec.ofChange keysBestWrong)

/-- 'noctuarylaw03.KeysConfusion': WHATEVER THE INPUT: true; the input reads as it did. -/
def keysConfusionSpec : ChangeSpec := { name := "keysConfusion", fn := fun _ => fun
  | [d1, d2] => { results := [.lit (.bool true)], args := [d1, d2] }
  | _ => none }
def keysConfusionRow : OpenClaim := { program := "ythfegbcbpeedbaadoor", sum := "0dc3f574d03c5f77a16d68b417d844a5f06d8899111b91935a7085b0c17112f0", func := "noctuary/noctuarylaw03.KeysConfusion", spec := "keysConfusion", unfollowed := true, recurses := true, named := ["math/bits.deBruijn32tab", "math/bits.deBruijn64tab"], apart := false, laid := [("math/bits.deBruijn32tab", laid_math_bits_deBruijn32tab), ("math/bits.deBruijn64tab", laid_math_bits_deBruijn64tab)] }
def KeysConfusionSaid : Prop := keysConfusionRow.holds Tryd.pinned (OpenSpec.ofChange keysConfusionSpec)

/-- ITS FALSE NEIGHBOUR: 'it returns false'. Refute it at one input. -/
def keysConfusionWrong : ChangeSpec := { name := "keysConfusion", fn := fun _ => fun
  | [d1, d2] => { results := [.lit (.bool false)], args := [d1, d2] }
  | _ => none }
def KeysConfusionWrongFalsely : Prop := keysConfusionRow.holds Tryd.pinned (OpenSpec.ofChange keysConfusionWrong)

/- THE SECOND FORM. 'bulk': how many values and letters a reading holds, each counted each time it is reached (what is shared counts as often as it is met; a slice's spare places count too). A statement '..UptoSaid' is the law's where the arguments, and the package variables that the reading takes, are together of bulk at most 1048576: NARROWER than '..Said'. Prove '..Said' where nothing that the law and all that it calls make is longer than what came in: it says more and counts as full. Else prove '..UptoSaid'. A law counts once. -/
mutual
def uptoBulk {H : Type} : DataW H → Nat
  | .lit (.string bytes) => bytes.length + 1
  | .lit _ => 1
  | .nil => 1
  | .ptr d => uptoBulk d + 1
  | .slice elems spare => uptoBulkAll elems + uptoBulkAll spare + 1
  | .agg parts => uptoBulkAll parts + 1
  | .iface _ d => uptoBulk d + 1
  | .map entries => uptoBulkEntries entries + 1
  | .held _ => 1
def uptoBulkAll {H : Type} : List (DataW H) → Nat
  | [] => 0
  | d :: r => uptoBulk d + uptoBulkAll r
def uptoBulkEntries {H : Type} : List (Lit × DataW H) → Nat
  | [] => 0
  | x :: r => uptoBulkEntry x + uptoBulkEntries r
def uptoBulkEntry {H : Type} : Lit × DataW H → Nat
  | (.string bytes, d) => bytes.length + uptoBulk d + 1
  | (_, d) => uptoBulk d + 1
 end
def uptoSmall : (H : Type) → List (DataW H) → Bool := fun _ ds => decide (uptoBulkAll ds ≤ 1048576)
def OpenSpec.upto (s : _root_.Go.ChangeSpec) : _root_.Go.OpenSpec := { _root_.Go.OpenSpec.ofChange s with cond := some uptoSmall }

/-- 'noctuarylaw03.KeysRows', WHERE WHAT IT READS IS OF BULK AT MOST 1048576: true; the input reads as it did. -/
def keysRowsUptoRow : OpenClaim := { program := "ythfegbcbpeedbaadoor", sum := "0dc3f574d03c5f77a16d68b417d844a5f06d8899111b91935a7085b0c17112f0", func := "noctuary/noctuarylaw03.KeysRows", spec := "keysRows", unfollowed := true, recurses := true, named := ["math/bits.deBruijn32tab", "math/bits.deBruijn64tab"], apart := false, laid := [("math/bits.deBruijn32tab", laid_math_bits_deBruijn32tab), ("math/bits.deBruijn64tab", laid_math_bits_deBruijn64tab)], narrowed := true }
def KeysRowsUptoSaid : Prop := keysRowsUptoRow.holds Tryd.pinned (OpenSpec.upto keysRowsSpec)

/-- 'noctuarylaw03.KeysNames', WHERE WHAT IT READS IS OF BULK AT MOST 1048576: true; the input reads as it did. -/
def keysNamesUptoRow : OpenClaim := { program := "ythfegbcbpeedbaadoor", sum := "0dc3f574d03c5f77a16d68b417d844a5f06d8899111b91935a7085b0c17112f0", func := "noctuary/noctuarylaw03.KeysNames", spec := "keysNames", unfollowed := true, recurses := true, named := ["math/bits.deBruijn32tab", "math/bits.deBruijn64tab"], apart := false, laid := [("math/bits.deBruijn32tab", laid_math_bits_deBruijn32tab), ("math/bits.deBruijn64tab", laid_math_bits_deBruijn64tab)], narrowed := true }
def KeysNamesUptoSaid : Prop := keysNamesUptoRow.holds Tryd.pinned (OpenSpec.upto keysNamesSpec)

/-- 'noctuarylaw03.KeysFollow', WHERE WHAT IT READS IS OF BULK AT MOST 1048576: true; the input reads as it did. -/
def keysFollowUptoRow : OpenClaim := { program := "ythfegbcbpeedbaadoor", sum := "0dc3f574d03c5f77a16d68b417d844a5f06d8899111b91935a7085b0c17112f0", func := "noctuary/noctuarylaw03.KeysFollow", spec := "keysFollow", unfollowed := true, recurses := true, named := ["math/bits.deBruijn32tab", "math/bits.deBruijn64tab"], apart := false, laid := [("math/bits.deBruijn32tab", laid_math_bits_deBruijn32tab), ("math/bits.deBruijn64tab", laid_math_bits_deBruijn64tab)], narrowed := true }
def KeysFollowUptoSaid : Prop := keysFollowUptoRow.holds Tryd.pinned (OpenSpec.upto keysFollowSpec)

/-- 'noctuarylaw03.KeysBuilds', WHERE WHAT IT READS IS OF BULK AT MOST 1048576: true; the input reads as it did. -/
def keysBuildsUptoRow : OpenClaim := { program := "ythfegbcbpeedbaadoor", sum := "0dc3f574d03c5f77a16d68b417d844a5f06d8899111b91935a7085b0c17112f0", func := "noctuary/noctuarylaw03.KeysBuilds", spec := "keysBuilds", unfollowed := true, recurses := true, named := ["math/bits.deBruijn32tab", "math/bits.deBruijn64tab"], apart := false, laid := [("math/bits.deBruijn32tab", laid_math_bits_deBruijn32tab), ("math/bits.deBruijn64tab", laid_math_bits_deBruijn64tab)], narrowed := true }
def KeysBuildsUptoSaid : Prop := keysBuildsUptoRow.holds Tryd.pinned (OpenSpec.upto keysBuildsSpec)

/-- 'noctuarylaw03.KeysFitting', WHERE WHAT IT READS IS OF BULK AT MOST 1048576: true; the input reads as it did. -/
def keysFittingUptoRow : OpenClaim := { program := "ythfegbcbpeedbaadoor", sum := "0dc3f574d03c5f77a16d68b417d844a5f06d8899111b91935a7085b0c17112f0", func := "noctuary/noctuarylaw03.KeysFitting", spec := "keysFitting", unfollowed := true, recurses := true, named := ["math/bits.deBruijn32tab", "math/bits.deBruijn64tab"], apart := false, laid := [("math/bits.deBruijn32tab", laid_math_bits_deBruijn32tab), ("math/bits.deBruijn64tab", laid_math_bits_deBruijn64tab)], narrowed := true }
def KeysFittingUptoSaid : Prop := keysFittingUptoRow.holds Tryd.pinned (OpenSpec.upto keysFittingSpec)

/-- 'noctuarylaw03.KeysApart', WHERE WHAT IT READS IS OF BULK AT MOST 1048576: true; the input reads as it did. -/
def keysApartUptoRow : OpenClaim := { program := "ythfegbcbpeedbaadoor", sum := "0dc3f574d03c5f77a16d68b417d844a5f06d8899111b91935a7085b0c17112f0", func := "noctuary/noctuarylaw03.KeysApart", spec := "keysApart", unfollowed := true, recurses := true, named := ["math/bits.deBruijn32tab", "math/bits.deBruijn64tab"], apart := false, laid := [("math/bits.deBruijn32tab", laid_math_bits_deBruijn32tab), ("math/bits.deBruijn64tab", laid_math_bits_deBruijn64tab)], narrowed := true }
def KeysApartUptoSaid : Prop := keysApartUptoRow.holds Tryd.pinned (OpenSpec.upto keysApartSpec)

/-- 'noctuarylaw03.KeysQuestions', WHERE WHAT IT READS IS OF BULK AT MOST 1048576: true; the input reads as it did. -/
def keysQuestionsUptoRow : OpenClaim := { program := "ythfegbcbpeedbaadoor", sum := "0dc3f574d03c5f77a16d68b417d844a5f06d8899111b91935a7085b0c17112f0", func := "noctuary/noctuarylaw03.KeysQuestions", spec := "keysQuestions", unfollowed := true, recurses := true, named := ["math/bits.deBruijn32tab", "math/bits.deBruijn64tab"], apart := false, laid := [("math/bits.deBruijn32tab", laid_math_bits_deBruijn32tab), ("math/bits.deBruijn64tab", laid_math_bits_deBruijn64tab)], narrowed := true }
def KeysQuestionsUptoSaid : Prop := keysQuestionsUptoRow.holds Tryd.pinned (OpenSpec.upto keysQuestionsSpec)

/-- 'noctuarylaw03.KeysPaths', WHERE WHAT IT READS IS OF BULK AT MOST 1048576: true; the input reads as it did. -/
def keysPathsUptoRow : OpenClaim := { program := "ythfegbcbpeedbaadoor", sum := "0dc3f574d03c5f77a16d68b417d844a5f06d8899111b91935a7085b0c17112f0", func := "noctuary/noctuarylaw03.KeysPaths", spec := "keysPaths", unfollowed := true, recurses := true, named := ["math/bits.deBruijn32tab", "math/bits.deBruijn64tab"], apart := false, laid := [("math/bits.deBruijn32tab", laid_math_bits_deBruijn32tab), ("math/bits.deBruijn64tab", laid_math_bits_deBruijn64tab)], narrowed := true }
def KeysPathsUptoSaid : Prop := keysPathsUptoRow.holds Tryd.pinned (OpenSpec.upto keysPathsSpec)

/-- 'noctuarylaw03.KeysProof', WHERE WHAT IT READS IS OF BULK AT MOST 1048576: true; the input reads as it did. -/
def keysProofUptoRow : OpenClaim := { program := "ythfegbcbpeedbaadoor", sum := "0dc3f574d03c5f77a16d68b417d844a5f06d8899111b91935a7085b0c17112f0", func := "noctuary/noctuarylaw03.KeysProof", spec := "keysProof", unfollowed := true, recurses := true, named := ["math/bits.deBruijn32tab", "math/bits.deBruijn64tab"], apart := false, laid := [("math/bits.deBruijn32tab", laid_math_bits_deBruijn32tab), ("math/bits.deBruijn64tab", laid_math_bits_deBruijn64tab)], narrowed := true }
def KeysProofUptoSaid : Prop := keysProofUptoRow.holds Tryd.pinned (OpenSpec.upto keysProofSpec)

/-- 'noctuarylaw03.KeysBest', WHERE WHAT IT READS IS OF BULK AT MOST 1048576: true; the input reads as it did. -/
def keysBestUptoRow : OpenClaim := { program := "ythfegbcbpeedbaadoor", sum := "0dc3f574d03c5f77a16d68b417d844a5f06d8899111b91935a7085b0c17112f0", func := "noctuary/noctuarylaw03.KeysBest", spec := "keysBest", unfollowed := true, recurses := true, named := ["math/bits.deBruijn32tab", "math/bits.deBruijn64tab"], apart := false, laid := [("math/bits.deBruijn32tab", laid_math_bits_deBruijn32tab), ("math/bits.deBruijn64tab", laid_math_bits_deBruijn64tab)], narrowed := true }
def KeysBestUptoSaid : Prop := keysBestUptoRow.holds Tryd.pinned (OpenSpec.upto keysBestSpec)

/-- 'noctuarylaw03.KeysConfusion', WHERE WHAT IT READS IS OF BULK AT MOST 1048576: true; the input reads as it did. -/
def keysConfusionUptoRow : OpenClaim := { program := "ythfegbcbpeedbaadoor", sum := "0dc3f574d03c5f77a16d68b417d844a5f06d8899111b91935a7085b0c17112f0", func := "noctuary/noctuarylaw03.KeysConfusion", spec := "keysConfusion", unfollowed := true, recurses := true, named := ["math/bits.deBruijn32tab", "math/bits.deBruijn64tab"], apart := false, laid := [("math/bits.deBruijn32tab", laid_math_bits_deBruijn32tab), ("math/bits.deBruijn64tab", laid_math_bits_deBruijn64tab)], narrowed := true }
def KeysConfusionUptoSaid : Prop := keysConfusionUptoRow.holds Tryd.pinned (OpenSpec.upto keysConfusionSpec)

end Rows
end Go.Proofs.YthfegbcbpeedbaaDoor
