/-
  NARROWER THAN 'FOR EVERY INPUT', by the rows' own cells (each row's printed sentence says how): PlacesSquares: laid · PlacesNights: laid · PlacesFamily: laid · PlacesNormal: laid · PlacesAlgebra: laid · PlacesAreas: laid · PlacesCovering: laid · PlacesDates: laid · PlacesSeasons: laid · PlacesBack: laid.
  DERIVED. THE GIVEN ROWS OF THIS SEAT. 10 by the template 'for every input the law returns true; each argument reads behind the call as it read before'; 0 by the template 'total and deterministic' (their statements: YtabolonlkocopaaDoorTotals.lean).
  GIVEN WITH THE SEED: the statements are not yours to turn. If you find one false, say at which input.
  Laid BY PROGRAM, IN A SANDBOX (cutbox-rows.mjs): the forced cells as the released guide's own fill.sh prints them over the translation 185e1072bc5034ca… (all of the seat's roots in one cut). By AI agents, Wed Nov 11 2026. No macro, syntax, notation, axiom, sorry.
-/
import Derived.Test.YtabolonlkocopaaDoorChecked
import GoSem.Claim
import GoSem.ClaimJoined
import GoSem.ClaimMapViews
import Derived.JoinedTies
import Derived.KernelRfl
namespace Go.Proofs.YtabolonlkocopaaDoor
/- THE CELL 'sum', in the pinned program and in every row, IS THE sha256 OF THE DUMP (.gsa) THAT YtabolonlkocopaaDoorProg.lean LOADS. Nothing in Lean hashes anything: it is a label: what it is worth is what the hold of that sum in a sandbox is worth. -/
noncomputable def Tryd.pinned : Pinned := { name := "ytabolonlkocopaadoor", sum := "185e1072bc5034ca5714027f33c6d292726101cb028250f5d59201ab2a85c242", checked := Tryd.checked }
namespace Rows
def none {H : Type} : Left H := { results := [], args := [] }

/- WHAT THE LISTED PACKAGE-LEVEL VARIABLES READ AS WHEN THE CALL BEGINS. Each datum BY PROGRAM (the guide's laid-datum.mjs) off the statement by which the dump's own 'gosem.cut.vars' lays the variable. In a bare row this is a premise. The card (YtabolonlkocopaaDoorCards.lean) ties it to the program's text. -/
def laid_math_bits_deBruijn32tab {H : Type} : DataW H := .agg [.lit (.int .u8 0), .lit (.int .u8 1), .lit (.int .u8 28), .lit (.int .u8 2), .lit (.int .u8 29), .lit (.int .u8 14), .lit (.int .u8 24), .lit (.int .u8 3), .lit (.int .u8 30), .lit (.int .u8 22), .lit (.int .u8 20), .lit (.int .u8 15), .lit (.int .u8 25), .lit (.int .u8 17), .lit (.int .u8 4), .lit (.int .u8 8), .lit (.int .u8 31), .lit (.int .u8 27), .lit (.int .u8 13), .lit (.int .u8 23), .lit (.int .u8 21), .lit (.int .u8 19), .lit (.int .u8 16), .lit (.int .u8 7), .lit (.int .u8 26), .lit (.int .u8 12), .lit (.int .u8 18), .lit (.int .u8 6), .lit (.int .u8 11), .lit (.int .u8 5), .lit (.int .u8 10), .lit (.int .u8 9)]
def laid_math_bits_deBruijn64tab {H : Type} : DataW H := .agg [.lit (.int .u8 0), .lit (.int .u8 1), .lit (.int .u8 56), .lit (.int .u8 2), .lit (.int .u8 57), .lit (.int .u8 49), .lit (.int .u8 28), .lit (.int .u8 3), .lit (.int .u8 61), .lit (.int .u8 58), .lit (.int .u8 42), .lit (.int .u8 50), .lit (.int .u8 38), .lit (.int .u8 29), .lit (.int .u8 17), .lit (.int .u8 4), .lit (.int .u8 62), .lit (.int .u8 47), .lit (.int .u8 59), .lit (.int .u8 36), .lit (.int .u8 45), .lit (.int .u8 43), .lit (.int .u8 51), .lit (.int .u8 22), .lit (.int .u8 53), .lit (.int .u8 39), .lit (.int .u8 33), .lit (.int .u8 30), .lit (.int .u8 24), .lit (.int .u8 18), .lit (.int .u8 12), .lit (.int .u8 5), .lit (.int .u8 63), .lit (.int .u8 55), .lit (.int .u8 48), .lit (.int .u8 27), .lit (.int .u8 60), .lit (.int .u8 41), .lit (.int .u8 37), .lit (.int .u8 16), .lit (.int .u8 46), .lit (.int .u8 35), .lit (.int .u8 44), .lit (.int .u8 21), .lit (.int .u8 52), .lit (.int .u8 32), .lit (.int .u8 23), .lit (.int .u8 11), .lit (.int .u8 54), .lit (.int .u8 26), .lit (.int .u8 40), .lit (.int .u8 15), .lit (.int .u8 34), .lit (.int .u8 20), .lit (.int .u8 31), .lit (.int .u8 10), .lit (.int .u8 25), .lit (.int .u8 14), .lit (.int .u8 19), .lit (.int .u8 9), .lit (.int .u8 13), .lit (.int .u8 8), .lit (.int .u8 7), .lit (.int .u8 6)]
def laid_internal_strconv_uint64pow10 {H : Type} : DataW H := .agg [.lit (.int .u64 1), .lit (.int .u64 10), .lit (.int .u64 100), .lit (.int .u64 1000), .lit (.int .u64 10000), .lit (.int .u64 100000), .lit (.int .u64 1000000), .lit (.int .u64 10000000), .lit (.int .u64 100000000), .lit (.int .u64 1000000000), .lit (.int .u64 10000000000), .lit (.int .u64 100000000000), .lit (.int .u64 1000000000000), .lit (.int .u64 10000000000000), .lit (.int .u64 100000000000000), .lit (.int .u64 1000000000000000), .lit (.int .u64 10000000000000000), .lit (.int .u64 100000000000000000), .lit (.int .u64 1000000000000000000), .lit (.int .u64 10000000000000000000)]
def laid_noctuary_places_monthDays {H : Type} : DataW H := .agg [.lit (.int .i64 31), .lit (.int .i64 29), .lit (.int .i64 31), .lit (.int .i64 30), .lit (.int .i64 31), .lit (.int .i64 30), .lit (.int .i64 31), .lit (.int .i64 31), .lit (.int .i64 30), .lit (.int .i64 31), .lit (.int .i64 30), .lit (.int .i64 31)]

/-- 'noctuarylaw01.PlacesSquares': WHATEVER THE INPUT: true; the input reads as it did. -/
def placesSquaresSpec : ChangeSpec := { name := "placesSquares", fn := fun _ => fun
  | [d1, d2, d3] => { results := [.lit (.bool true)], args := [d1, d2, d3] }
  | _ => none }
def placesSquaresRow : OpenClaim := { program := "ytabolonlkocopaadoor", sum := "185e1072bc5034ca5714027f33c6d292726101cb028250f5d59201ab2a85c242", func := "noctuary/noctuarylaw01.PlacesSquares", spec := "placesSquares", unfollowed := true, recurses := true, named := ["noctuary/places.monthDays", "internal/strconv.uint64pow10", "math/bits.deBruijn32tab", "math/bits.deBruijn64tab"], plainKeys := false, apart := false, laid := [("math/bits.deBruijn32tab", laid_math_bits_deBruijn32tab), ("math/bits.deBruijn64tab", laid_math_bits_deBruijn64tab), ("internal/strconv.uint64pow10", laid_internal_strconv_uint64pow10), ("noctuary/places.monthDays", laid_noctuary_places_monthDays)] }
def PlacesSquaresSaid : Prop := placesSquaresRow.holds Tryd.pinned (OpenSpec.ofChange placesSquaresSpec)

/-- ITS FALSE NEIGHBOUR: 'it returns false'. Refute it at one input. -/
def placesSquaresWrong : ChangeSpec := { name := "placesSquares", fn := fun _ => fun
  | [d1, d2, d3] => { results := [.lit (.bool false)], args := [d1, d2, d3] }
  | _ => none }
def PlacesSquaresWrongFalsely : Prop := placesSquaresRow.holds Tryd.pinned (OpenSpec.ofChange placesSquaresWrong)

/-- 'noctuarylaw01.PlacesNights': WHATEVER THE INPUT: true; the input reads as it did. -/
def placesNightsSpec : ChangeSpec := { name := "placesNights", fn := fun _ => fun
  | [d1, d2, d3] => { results := [.lit (.bool true)], args := [d1, d2, d3] }
  | _ => none }
def placesNightsRow : OpenClaim := { program := "ytabolonlkocopaadoor", sum := "185e1072bc5034ca5714027f33c6d292726101cb028250f5d59201ab2a85c242", func := "noctuary/noctuarylaw01.PlacesNights", spec := "placesNights", unfollowed := true, recurses := true, named := ["noctuary/places.monthDays", "internal/strconv.uint64pow10", "math/bits.deBruijn32tab", "math/bits.deBruijn64tab"], plainKeys := false, apart := false, laid := [("math/bits.deBruijn32tab", laid_math_bits_deBruijn32tab), ("math/bits.deBruijn64tab", laid_math_bits_deBruijn64tab), ("internal/strconv.uint64pow10", laid_internal_strconv_uint64pow10), ("noctuary/places.monthDays", laid_noctuary_places_monthDays)] }
def PlacesNightsSaid : Prop := placesNightsRow.holds Tryd.pinned (OpenSpec.ofChange placesNightsSpec)

/-- ITS FALSE NEIGHBOUR: 'it returns false'. Refute it at one input. -/
def placesNightsWrong : ChangeSpec := { name := "placesNights", fn := fun _ => fun
  | [d1, d2, d3] => { results := [.lit (.bool false)], args := [d1, d2, d3] }
  | _ => none }
def PlacesNightsWrongFalsely : Prop := placesNightsRow.holds Tryd.pinned (OpenSpec.ofChange placesNightsWrong)

/-- 'noctuarylaw01.PlacesFamily': WHATEVER THE INPUT: true; the input reads as it did. -/
def placesFamilySpec : ChangeSpec := { name := "placesFamily", fn := fun _ => fun
  | [d1, d2, d3, d4] => { results := [.lit (.bool true)], args := [d1, d2, d3, d4] }
  | _ => none }
def placesFamilyRow : OpenClaim := { program := "ytabolonlkocopaadoor", sum := "185e1072bc5034ca5714027f33c6d292726101cb028250f5d59201ab2a85c242", func := "noctuary/noctuarylaw01.PlacesFamily", spec := "placesFamily", unfollowed := true, recurses := true, named := ["noctuary/places.monthDays", "internal/strconv.uint64pow10", "math/bits.deBruijn32tab", "math/bits.deBruijn64tab"], plainKeys := false, apart := false, laid := [("math/bits.deBruijn32tab", laid_math_bits_deBruijn32tab), ("math/bits.deBruijn64tab", laid_math_bits_deBruijn64tab), ("internal/strconv.uint64pow10", laid_internal_strconv_uint64pow10), ("noctuary/places.monthDays", laid_noctuary_places_monthDays)] }
def PlacesFamilySaid : Prop := placesFamilyRow.holds Tryd.pinned (OpenSpec.ofChange placesFamilySpec)

/-- ITS FALSE NEIGHBOUR: 'it returns false'. Refute it at one input. -/
def placesFamilyWrong : ChangeSpec := { name := "placesFamily", fn := fun _ => fun
  | [d1, d2, d3, d4] => { results := [.lit (.bool false)], args := [d1, d2, d3, d4] }
  | _ => none }
def PlacesFamilyWrongFalsely : Prop := placesFamilyRow.holds Tryd.pinned (OpenSpec.ofChange placesFamilyWrong)

/-- 'noctuarylaw01.PlacesNormal': WHATEVER THE INPUT: true; the input reads as it did. -/
def placesNormalSpec : ChangeSpec := { name := "placesNormal", fn := fun _ => fun
  | [d1, d2] => { results := [.lit (.bool true)], args := [d1, d2] }
  | _ => none }
def placesNormalRow : OpenClaim := { program := "ytabolonlkocopaadoor", sum := "185e1072bc5034ca5714027f33c6d292726101cb028250f5d59201ab2a85c242", func := "noctuary/noctuarylaw01.PlacesNormal", spec := "placesNormal", unfollowed := true, recurses := true, named := ["noctuary/places.monthDays", "internal/strconv.uint64pow10", "math/bits.deBruijn32tab", "math/bits.deBruijn64tab"], plainKeys := false, apart := false, laid := [("math/bits.deBruijn32tab", laid_math_bits_deBruijn32tab), ("math/bits.deBruijn64tab", laid_math_bits_deBruijn64tab), ("internal/strconv.uint64pow10", laid_internal_strconv_uint64pow10), ("noctuary/places.monthDays", laid_noctuary_places_monthDays)] }
def PlacesNormalSaid : Prop := placesNormalRow.holds Tryd.pinned (OpenSpec.ofChange placesNormalSpec)

/-- ITS FALSE NEIGHBOUR: 'it returns false'. Refute it at one input. -/
def placesNormalWrong : ChangeSpec := { name := "placesNormal", fn := fun _ => fun
  | [d1, d2] => { results := [.lit (.bool false)], args := [d1, d2] }
  | _ => none }
def PlacesNormalWrongFalsely : Prop := placesNormalRow.holds Tryd.pinned (OpenSpec.ofChange placesNormalWrong)

/-- 'noctuarylaw01.PlacesAlgebra': WHATEVER THE INPUT: true; the input reads as it did. -/
def placesAlgebraSpec : ChangeSpec := { name := "placesAlgebra", fn := fun _ => fun
  | [d1, d2, d3] => { results := [.lit (.bool true)], args := [d1, d2, d3] }
  | _ => none }
def placesAlgebraRow : OpenClaim := { program := "ytabolonlkocopaadoor", sum := "185e1072bc5034ca5714027f33c6d292726101cb028250f5d59201ab2a85c242", func := "noctuary/noctuarylaw01.PlacesAlgebra", spec := "placesAlgebra", unfollowed := true, recurses := true, named := ["noctuary/places.monthDays", "internal/strconv.uint64pow10", "math/bits.deBruijn32tab", "math/bits.deBruijn64tab"], plainKeys := false, apart := false, laid := [("math/bits.deBruijn32tab", laid_math_bits_deBruijn32tab), ("math/bits.deBruijn64tab", laid_math_bits_deBruijn64tab), ("internal/strconv.uint64pow10", laid_internal_strconv_uint64pow10), ("noctuary/places.monthDays", laid_noctuary_places_monthDays)] }
def PlacesAlgebraSaid : Prop := placesAlgebraRow.holds Tryd.pinned (OpenSpec.ofChange placesAlgebraSpec)

/-- ITS FALSE NEIGHBOUR: 'it returns false'. Refute it at one input. -/
def placesAlgebraWrong : ChangeSpec := { name := "placesAlgebra", fn := fun _ => fun
  | [d1, d2, d3] => { results := [.lit (.bool false)], args := [d1, d2, d3] }
  | _ => none }
def PlacesAlgebraWrongFalsely : Prop := placesAlgebraRow.holds Tryd.pinned (OpenSpec.ofChange placesAlgebraWrong)

/-- 'noctuarylaw01.PlacesAreas': WHATEVER THE INPUT: true; the input reads as it did. -/
def placesAreasSpec : ChangeSpec := { name := "placesAreas", fn := fun _ => fun
  | [d1, d2] => { results := [.lit (.bool true)], args := [d1, d2] }
  | _ => none }
def placesAreasRow : OpenClaim := { program := "ytabolonlkocopaadoor", sum := "185e1072bc5034ca5714027f33c6d292726101cb028250f5d59201ab2a85c242", func := "noctuary/noctuarylaw01.PlacesAreas", spec := "placesAreas", unfollowed := true, recurses := true, named := ["noctuary/places.monthDays", "internal/strconv.uint64pow10", "math/bits.deBruijn32tab", "math/bits.deBruijn64tab"], plainKeys := false, apart := false, laid := [("math/bits.deBruijn32tab", laid_math_bits_deBruijn32tab), ("math/bits.deBruijn64tab", laid_math_bits_deBruijn64tab), ("internal/strconv.uint64pow10", laid_internal_strconv_uint64pow10), ("noctuary/places.monthDays", laid_noctuary_places_monthDays)] }
def PlacesAreasSaid : Prop := placesAreasRow.holds Tryd.pinned (OpenSpec.ofChange placesAreasSpec)

/-- ITS FALSE NEIGHBOUR: 'it returns false'. Refute it at one input. -/
def placesAreasWrong : ChangeSpec := { name := "placesAreas", fn := fun _ => fun
  | [d1, d2] => { results := [.lit (.bool false)], args := [d1, d2] }
  | _ => none }
def PlacesAreasWrongFalsely : Prop := placesAreasRow.holds Tryd.pinned (OpenSpec.ofChange placesAreasWrong)

/-- 'noctuarylaw01.PlacesCovering': WHATEVER THE INPUT: true; the input reads as it did. -/
def placesCoveringSpec : ChangeSpec := { name := "placesCovering", fn := fun _ => fun
  | [d1, d2, d3] => { results := [.lit (.bool true)], args := [d1, d2, d3] }
  | _ => none }
def placesCoveringRow : OpenClaim := { program := "ytabolonlkocopaadoor", sum := "185e1072bc5034ca5714027f33c6d292726101cb028250f5d59201ab2a85c242", func := "noctuary/noctuarylaw01.PlacesCovering", spec := "placesCovering", unfollowed := true, recurses := true, named := ["noctuary/places.monthDays", "internal/strconv.uint64pow10", "math/bits.deBruijn32tab", "math/bits.deBruijn64tab"], plainKeys := false, apart := false, laid := [("math/bits.deBruijn32tab", laid_math_bits_deBruijn32tab), ("math/bits.deBruijn64tab", laid_math_bits_deBruijn64tab), ("internal/strconv.uint64pow10", laid_internal_strconv_uint64pow10), ("noctuary/places.monthDays", laid_noctuary_places_monthDays)] }
def PlacesCoveringSaid : Prop := placesCoveringRow.holds Tryd.pinned (OpenSpec.ofChange placesCoveringSpec)

/-- ITS FALSE NEIGHBOUR: 'it returns false'. Refute it at one input. -/
def placesCoveringWrong : ChangeSpec := { name := "placesCovering", fn := fun _ => fun
  | [d1, d2, d3] => { results := [.lit (.bool false)], args := [d1, d2, d3] }
  | _ => none }
def PlacesCoveringWrongFalsely : Prop := placesCoveringRow.holds Tryd.pinned (OpenSpec.ofChange placesCoveringWrong)

/-- 'noctuarylaw01.PlacesDates': WHATEVER THE INPUT: true; the input reads as it did. -/
def placesDatesSpec : ChangeSpec := { name := "placesDates", fn := fun _ => fun
  | [d1, d2, d3] => { results := [.lit (.bool true)], args := [d1, d2, d3] }
  | _ => none }
def placesDatesRow : OpenClaim := { program := "ytabolonlkocopaadoor", sum := "185e1072bc5034ca5714027f33c6d292726101cb028250f5d59201ab2a85c242", func := "noctuary/noctuarylaw01.PlacesDates", spec := "placesDates", unfollowed := true, recurses := true, named := ["noctuary/places.monthDays", "internal/strconv.uint64pow10", "math/bits.deBruijn32tab", "math/bits.deBruijn64tab"], plainKeys := false, apart := false, laid := [("math/bits.deBruijn32tab", laid_math_bits_deBruijn32tab), ("math/bits.deBruijn64tab", laid_math_bits_deBruijn64tab), ("internal/strconv.uint64pow10", laid_internal_strconv_uint64pow10), ("noctuary/places.monthDays", laid_noctuary_places_monthDays)] }
def PlacesDatesSaid : Prop := placesDatesRow.holds Tryd.pinned (OpenSpec.ofChange placesDatesSpec)

/-- ITS FALSE NEIGHBOUR: 'it returns false'. Refute it at one input. -/
def placesDatesWrong : ChangeSpec := { name := "placesDates", fn := fun _ => fun
  | [d1, d2, d3] => { results := [.lit (.bool false)], args := [d1, d2, d3] }
  | _ => none }
def PlacesDatesWrongFalsely : Prop := placesDatesRow.holds Tryd.pinned (OpenSpec.ofChange placesDatesWrong)

/-- 'noctuarylaw01.PlacesSeasons': WHATEVER THE INPUT: true; the input reads as it did. -/
def placesSeasonsSpec : ChangeSpec := { name := "placesSeasons", fn := fun _ => fun
  | [d1, d2] => { results := [.lit (.bool true)], args := [d1, d2] }
  | _ => none }
def placesSeasonsRow : OpenClaim := { program := "ytabolonlkocopaadoor", sum := "185e1072bc5034ca5714027f33c6d292726101cb028250f5d59201ab2a85c242", func := "noctuary/noctuarylaw01.PlacesSeasons", spec := "placesSeasons", unfollowed := true, recurses := true, named := ["noctuary/places.monthDays", "internal/strconv.uint64pow10", "math/bits.deBruijn32tab", "math/bits.deBruijn64tab"], plainKeys := false, apart := false, laid := [("math/bits.deBruijn32tab", laid_math_bits_deBruijn32tab), ("math/bits.deBruijn64tab", laid_math_bits_deBruijn64tab), ("internal/strconv.uint64pow10", laid_internal_strconv_uint64pow10), ("noctuary/places.monthDays", laid_noctuary_places_monthDays)] }
def PlacesSeasonsSaid : Prop := placesSeasonsRow.holds Tryd.pinned (OpenSpec.ofChange placesSeasonsSpec)

/-- ITS FALSE NEIGHBOUR: 'it returns false'. Refute it at one input. -/
def placesSeasonsWrong : ChangeSpec := { name := "placesSeasons", fn := fun _ => fun
  | [d1, d2] => { results := [.lit (.bool false)], args := [d1, d2] }
  | _ => none }
def PlacesSeasonsWrongFalsely : Prop := placesSeasonsRow.holds Tryd.pinned (OpenSpec.ofChange placesSeasonsWrong)

/-- 'noctuarylaw01.PlacesBack': WHATEVER THE INPUT: true; the input reads as it did. -/
def placesBackSpec : ChangeSpec := { name := "placesBack", fn := fun _ => fun
  | [d1, d2, d3] => { results := [.lit (.bool true)], args := [d1, d2, d3] }
  | _ => none }
def placesBackRow : OpenClaim := { program := "ytabolonlkocopaadoor", sum := "185e1072bc5034ca5714027f33c6d292726101cb028250f5d59201ab2a85c242", func := "noctuary/noctuarylaw01.PlacesBack", spec := "placesBack", unfollowed := true, recurses := true, named := ["noctuary/places.monthDays", "internal/strconv.uint64pow10", "math/bits.deBruijn32tab", "math/bits.deBruijn64tab"], plainKeys := false, apart := false, laid := [("math/bits.deBruijn32tab", laid_math_bits_deBruijn32tab), ("math/bits.deBruijn64tab", laid_math_bits_deBruijn64tab), ("internal/strconv.uint64pow10", laid_internal_strconv_uint64pow10), ("noctuary/places.monthDays", laid_noctuary_places_monthDays)] }
def PlacesBackSaid : Prop := placesBackRow.holds Tryd.pinned (OpenSpec.ofChange placesBackSpec)

/-- ITS FALSE NEIGHBOUR: 'it returns false'. Refute it at one input. -/
def placesBackWrong : ChangeSpec := { name := "placesBack", fn := fun _ => fun
  | [d1, d2, d3] => { results := [.lit (.bool false)], args := [d1, d2, d3] }
  | _ => none }
def PlacesBackWrongFalsely : Prop := placesBackRow.holds Tryd.pinned (OpenSpec.ofChange placesBackWrong)

/- THE SECOND FORM. 'bulk': how many values and letters a reading holds, each counted each time it is reached (what is shared counts as often as it is met; a slice's spare places count too). A statement '..UptoSaid' is the law's where the arguments, and the package variables that the reading takes, are together of bulk at most 1048576: NARROWER than '..Said'. Prove '..Said' where nothing that the law and all that it calls make is longer than what came in: it says more and counts as full. Else prove '..UptoSaid'. A law counts once. -/
mutual
def uptoBulk {H : Type} : DataW H → Nat
  | .lit (.string bytes) => bytes.length + 1
  | .lit _ => 1
  | .nil => 1
  | .ptr d => uptoBulk d + 1
  | .slice elems spare => uptoBulkAll elems + uptoBulkAll spare + 1
  | .agg parts => uptoBulkAll parts + 1
  | .iface _ d => uptoBulk d + 1
  | .map entries => uptoBulkEntries entries + 1
  | .held _ => 1
def uptoBulkAll {H : Type} : List (DataW H) → Nat
  | [] => 0
  | d :: r => uptoBulk d + uptoBulkAll r
def uptoBulkEntries {H : Type} : List (Lit × DataW H) → Nat
  | [] => 0
  | x :: r => uptoBulkEntry x + uptoBulkEntries r
def uptoBulkEntry {H : Type} : Lit × DataW H → Nat
  | (.string bytes, d) => bytes.length + uptoBulk d + 1
  | (_, d) => uptoBulk d + 1
 end
def uptoSmall : (H : Type) → List (DataW H) → Bool := fun _ ds => decide (uptoBulkAll ds ≤ 1048576)
def OpenSpec.upto (s : _root_.Go.ChangeSpec) : _root_.Go.OpenSpec := { _root_.Go.OpenSpec.ofChange s with cond := some uptoSmall }

/-- 'noctuarylaw01.PlacesSquares', WHERE WHAT IT READS IS OF BULK AT MOST 1048576: true; the input reads as it did. -/
def placesSquaresUptoRow : OpenClaim := { program := "ytabolonlkocopaadoor", sum := "185e1072bc5034ca5714027f33c6d292726101cb028250f5d59201ab2a85c242", func := "noctuary/noctuarylaw01.PlacesSquares", spec := "placesSquares", unfollowed := true, recurses := true, named := ["noctuary/places.monthDays", "internal/strconv.uint64pow10", "math/bits.deBruijn32tab", "math/bits.deBruijn64tab"], plainKeys := false, apart := false, laid := [("math/bits.deBruijn32tab", laid_math_bits_deBruijn32tab), ("math/bits.deBruijn64tab", laid_math_bits_deBruijn64tab), ("internal/strconv.uint64pow10", laid_internal_strconv_uint64pow10), ("noctuary/places.monthDays", laid_noctuary_places_monthDays)], narrowed := true }
def PlacesSquaresUptoSaid : Prop := placesSquaresUptoRow.holds Tryd.pinned (OpenSpec.upto placesSquaresSpec)

/-- 'noctuarylaw01.PlacesNights', WHERE WHAT IT READS IS OF BULK AT MOST 1048576: true; the input reads as it did. -/
def placesNightsUptoRow : OpenClaim := { program := "ytabolonlkocopaadoor", sum := "185e1072bc5034ca5714027f33c6d292726101cb028250f5d59201ab2a85c242", func := "noctuary/noctuarylaw01.PlacesNights", spec := "placesNights", unfollowed := true, recurses := true, named := ["noctuary/places.monthDays", "internal/strconv.uint64pow10", "math/bits.deBruijn32tab", "math/bits.deBruijn64tab"], plainKeys := false, apart := false, laid := [("math/bits.deBruijn32tab", laid_math_bits_deBruijn32tab), ("math/bits.deBruijn64tab", laid_math_bits_deBruijn64tab), ("internal/strconv.uint64pow10", laid_internal_strconv_uint64pow10), ("noctuary/places.monthDays", laid_noctuary_places_monthDays)], narrowed := true }
def PlacesNightsUptoSaid : Prop := placesNightsUptoRow.holds Tryd.pinned (OpenSpec.upto placesNightsSpec)

/-- 'noctuarylaw01.PlacesFamily', WHERE WHAT IT READS IS OF BULK AT MOST 1048576: true; the input reads as it did. -/
def placesFamilyUptoRow : OpenClaim := { program := "ytabolonlkocopaadoor", sum := "185e1072bc5034ca5714027f33c6d292726101cb028250f5d59201ab2a85c242", func := "noctuary/noctuarylaw01.PlacesFamily", spec := "placesFamily", unfollowed := true, recurses := true, named := ["noctuary/places.monthDays", "internal/strconv.uint64pow10", "math/bits.deBruijn32tab", "math/bits.deBruijn64tab"], plainKeys := false, apart := false, laid := [("math/bits.deBruijn32tab", laid_math_bits_deBruijn32tab), ("math/bits.deBruijn64tab", laid_math_bits_deBruijn64tab), ("internal/strconv.uint64pow10", laid_internal_strconv_uint64pow10), ("noctuary/places.monthDays", laid_noctuary_places_monthDays)], narrowed := true }
def PlacesFamilyUptoSaid : Prop := placesFamilyUptoRow.holds Tryd.pinned (OpenSpec.upto placesFamilySpec)

/-- 'noctuarylaw01.PlacesNormal', WHERE WHAT IT READS IS OF BULK AT MOST 1048576: true; the input reads as it did. -/
def placesNormalUptoRow : OpenClaim := { program := "ytabolonlkocopaadoor", sum := "185e1072bc5034ca5714027f33c6d292726101cb028250f5d59201ab2a85c242", func := "noctuary/noctuarylaw01.PlacesNormal", spec := "placesNormal", unfollowed := true, recurses := true, named := ["noctuary/places.monthDays", "internal/strconv.uint64pow10", "math/bits.deBruijn32tab", "math/bits.deBruijn64tab"], plainKeys := false, apart := false, laid := [("math/bits.deBruijn32tab", laid_math_bits_deBruijn32tab), ("math/bits.deBruijn64tab", laid_math_bits_deBruijn64tab), ("internal/strconv.uint64pow10", laid_internal_strconv_uint64pow10), ("noctuary/places.monthDays", laid_noctuary_places_monthDays)], narrowed := true }
def PlacesNormalUptoSaid : Prop := placesNormalUptoRow.holds Tryd.pinned (OpenSpec.upto placesNormalSpec)

/-- 'noctuarylaw01.PlacesAlgebra', WHERE WHAT IT READS IS OF BULK AT MOST 1048576: true; the input reads as it did. -/
def placesAlgebraUptoRow : OpenClaim := { program := "ytabolonlkocopaadoor", sum := "185e1072bc5034ca5714027f33c6d292726101cb028250f5d59201ab2a85c242", func := "noctuary/noctuarylaw01.PlacesAlgebra", spec := "placesAlgebra", unfollowed := true, recurses := true, named := ["noctuary/places.monthDays", "internal/strconv.uint64pow10", "math/bits.deBruijn32tab", "math/bits.deBruijn64tab"], plainKeys := false, apart := false, laid := [("math/bits.deBruijn32tab", laid_math_bits_deBruijn32tab), ("math/bits.deBruijn64tab", laid_math_bits_deBruijn64tab), ("internal/strconv.uint64pow10", laid_internal_strconv_uint64pow10), ("noctuary/places.monthDays", laid_noctuary_places_monthDays)], narrowed := true }
def PlacesAlgebraUptoSaid : Prop := placesAlgebraUptoRow.holds Tryd.pinned (OpenSpec.upto placesAlgebraSpec)

/-- 'noctuarylaw01.PlacesAreas', WHERE WHAT IT READS IS OF BULK AT MOST 1048576: true; the input reads as it did. -/
def placesAreasUptoRow : OpenClaim := { program := "ytabolonlkocopaadoor", sum := "185e1072bc5034ca5714027f33c6d292726101cb028250f5d59201ab2a85c242", func := "noctuary/noctuarylaw01.PlacesAreas", spec := "placesAreas", unfollowed := true, recurses := true, named := ["noctuary/places.monthDays", "internal/strconv.uint64pow10", "math/bits.deBruijn32tab", "math/bits.deBruijn64tab"], plainKeys := false, apart := false, laid := [("math/bits.deBruijn32tab", laid_math_bits_deBruijn32tab), ("math/bits.deBruijn64tab", laid_math_bits_deBruijn64tab), ("internal/strconv.uint64pow10", laid_internal_strconv_uint64pow10), ("noctuary/places.monthDays", laid_noctuary_places_monthDays)], narrowed := true }
def PlacesAreasUptoSaid : Prop := placesAreasUptoRow.holds Tryd.pinned (OpenSpec.upto placesAreasSpec)

/-- 'noctuarylaw01.PlacesCovering', WHERE WHAT IT READS IS OF BULK AT MOST 1048576: true; the input reads as it did. -/
def placesCoveringUptoRow : OpenClaim := { program := "ytabolonlkocopaadoor", sum := "185e1072bc5034ca5714027f33c6d292726101cb028250f5d59201ab2a85c242", func := "noctuary/noctuarylaw01.PlacesCovering", spec := "placesCovering", unfollowed := true, recurses := true, named := ["noctuary/places.monthDays", "internal/strconv.uint64pow10", "math/bits.deBruijn32tab", "math/bits.deBruijn64tab"], plainKeys := false, apart := false, laid := [("math/bits.deBruijn32tab", laid_math_bits_deBruijn32tab), ("math/bits.deBruijn64tab", laid_math_bits_deBruijn64tab), ("internal/strconv.uint64pow10", laid_internal_strconv_uint64pow10), ("noctuary/places.monthDays", laid_noctuary_places_monthDays)], narrowed := true }
def PlacesCoveringUptoSaid : Prop := placesCoveringUptoRow.holds Tryd.pinned (OpenSpec.upto placesCoveringSpec)

/-- 'noctuarylaw01.PlacesDates', WHERE WHAT IT READS IS OF BULK AT MOST 1048576: true; the input reads as it did. -/
def placesDatesUptoRow : OpenClaim := { program := "ytabolonlkocopaadoor", sum := "185e1072bc5034ca5714027f33c6d292726101cb028250f5d59201ab2a85c242", func := "noctuary/noctuarylaw01.PlacesDates", spec := "placesDates", unfollowed := true, recurses := true, named := ["noctuary/places.monthDays", "internal/strconv.uint64pow10", "math/bits.deBruijn32tab", "math/bits.deBruijn64tab"], plainKeys := false, apart := false, laid := [("math/bits.deBruijn32tab", laid_math_bits_deBruijn32tab), ("math/bits.deBruijn64tab", laid_math_bits_deBruijn64tab), ("internal/strconv.uint64pow10", laid_internal_strconv_uint64pow10), ("noctuary/places.monthDays", laid_noctuary_places_monthDays)], narrowed := true }
def PlacesDatesUptoSaid : Prop := placesDatesUptoRow.holds Tryd.pinned (OpenSpec.upto placesDatesSpec)

/-- 'noctuarylaw01.PlacesSeasons', WHERE WHAT IT READS IS OF BULK AT MOST 1048576: true; the input reads as it did. -/
def placesSeasonsUptoRow : OpenClaim := { program := "ytabolonlkocopaadoor", sum := "185e1072bc5034ca5714027f33c6d292726101cb028250f5d59201ab2a85c242", func := "noctuary/noctuarylaw01.PlacesSeasons", spec := "placesSeasons", unfollowed := true, recurses := true, named := ["noctuary/places.monthDays", "internal/strconv.uint64pow10", "math/bits.deBruijn32tab", "math/bits.deBruijn64tab"], plainKeys := false, apart := false, laid := [("math/bits.deBruijn32tab", laid_math_bits_deBruijn32tab), ("math/bits.deBruijn64tab", laid_math_bits_deBruijn64tab), ("internal/strconv.uint64pow10", laid_internal_strconv_uint64pow10), ("noctuary/places.monthDays", laid_noctuary_places_monthDays)], narrowed := true }
def PlacesSeasonsUptoSaid : Prop := placesSeasonsUptoRow.holds Tryd.pinned (OpenSpec.upto placesSeasonsSpec)

/-- 'noctuarylaw01.PlacesBack', WHERE WHAT IT READS IS OF BULK AT MOST 1048576: true; the input reads as it did. -/
def placesBackUptoRow : OpenClaim := { program := "ytabolonlkocopaadoor", sum := "185e1072bc5034ca5714027f33c6d292726101cb028250f5d59201ab2a85c242", func := "noctuary/noctuarylaw01.PlacesBack", spec := "placesBack", unfollowed := true, recurses := true, named := ["noctuary/places.monthDays", "internal/strconv.uint64pow10", "math/bits.deBruijn32tab", "math/bits.deBruijn64tab"], plainKeys := false, apart := false, laid := [("math/bits.deBruijn32tab", laid_math_bits_deBruijn32tab), ("math/bits.deBruijn64tab", laid_math_bits_deBruijn64tab), ("internal/strconv.uint64pow10", laid_internal_strconv_uint64pow10), ("noctuary/places.monthDays", laid_noctuary_places_monthDays)], narrowed := true }
def PlacesBackUptoSaid : Prop := placesBackUptoRow.holds Tryd.pinned (OpenSpec.upto placesBackSpec)

end Rows
end Go.Proofs.YtabolonlkocopaaDoor
