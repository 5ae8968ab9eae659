/-
  NARROWER THAN 'FOR EVERY INPUT', by the rows' own cells (each row's printed sentence says how): SheetsChecks: laid · SheetsTexts: laid · SheetsBounds: laid · SheetsNames: laid · SheetsRules: laid · SheetsMerges: laid · SheetsBack: laid · SheetsTight: laid · SheetsRest: laid · SheetsDoubts: laid · SheetsCopies: laid · SheetsTwins: laid · SheetsFits: laid.
  DERIVED. THE GIVEN ROWS OF THIS SEAT. 13 by the template 'for every input the law returns true; each argument reads behind the call as it read before'; 0 by the template 'total and deterministic' (their statements: YtijidcigfdblaaaGreatDoorTotals.lean).
  GIVEN WITH THE SEED: the statements are not yours to turn. If you find one false, say at which input.
  Laid BY PROGRAM, IN A SANDBOX (cutbox-rows.mjs): the forced cells as the released guide's own fill.sh prints them over the translation 0bdfb9c7f8615047… (all of the seat's roots in one cut). By AI agents, Wed Nov 11 2026. No macro, syntax, notation, axiom, sorry.
-/
import Derived.Test.YtijidcigfdblaaaGreatDoorChecked
import GoSem.PinnedTables
import GoSem.Claim
import GoSem.ClaimJoined
import GoSem.ClaimMapViews
import Derived.JoinedTies
import Derived.KernelRfl
namespace Go.Proofs.YtijidcigfdblaaaGreatDoor
/- THE CELL 'sum', in the pinned program and in every row, IS THE sha256 OF THE DUMP (.gsa) THAT YtijidcigfdblaaaGreatDoorProg.lean LOADS. Nothing in Lean hashes anything: it is a label: what it is worth is what the hold of that sum in a sandbox is worth. -/
noncomputable def Tryz.pinned : Pinned := { name := "ytijidcigfdblaaagreatdoor", sum := "0bdfb9c7f86150474a72d7c62d33a493a14978b542e9af3b251515f9331915cd", checked := Tryz.checked }
namespace Rows
def none {H : Type} : Left H := { results := [], args := [] }

/- WHAT THE LISTED PACKAGE-LEVEL VARIABLES READ AS WHEN THE CALL BEGINS. Each datum BY PROGRAM (the guide's laid-datum.mjs) off the statement by which the dump's own 'gosem.cut.vars' lays the variable. In a bare row this is a premise. The card (YtijidcigfdblaaaGreatDoorCards.lean) ties it to the program's text. -/
def laid_math_bits_deBruijn32tab {H : Type} : DataW H := .agg [.lit (.int .u8 0), .lit (.int .u8 1), .lit (.int .u8 28), .lit (.int .u8 2), .lit (.int .u8 29), .lit (.int .u8 14), .lit (.int .u8 24), .lit (.int .u8 3), .lit (.int .u8 30), .lit (.int .u8 22), .lit (.int .u8 20), .lit (.int .u8 15), .lit (.int .u8 25), .lit (.int .u8 17), .lit (.int .u8 4), .lit (.int .u8 8), .lit (.int .u8 31), .lit (.int .u8 27), .lit (.int .u8 13), .lit (.int .u8 23), .lit (.int .u8 21), .lit (.int .u8 19), .lit (.int .u8 16), .lit (.int .u8 7), .lit (.int .u8 26), .lit (.int .u8 12), .lit (.int .u8 18), .lit (.int .u8 6), .lit (.int .u8 11), .lit (.int .u8 5), .lit (.int .u8 10), .lit (.int .u8 9)]
def laid_math_bits_deBruijn64tab {H : Type} : DataW H := .agg [.lit (.int .u8 0), .lit (.int .u8 1), .lit (.int .u8 56), .lit (.int .u8 2), .lit (.int .u8 57), .lit (.int .u8 49), .lit (.int .u8 28), .lit (.int .u8 3), .lit (.int .u8 61), .lit (.int .u8 58), .lit (.int .u8 42), .lit (.int .u8 50), .lit (.int .u8 38), .lit (.int .u8 29), .lit (.int .u8 17), .lit (.int .u8 4), .lit (.int .u8 62), .lit (.int .u8 47), .lit (.int .u8 59), .lit (.int .u8 36), .lit (.int .u8 45), .lit (.int .u8 43), .lit (.int .u8 51), .lit (.int .u8 22), .lit (.int .u8 53), .lit (.int .u8 39), .lit (.int .u8 33), .lit (.int .u8 30), .lit (.int .u8 24), .lit (.int .u8 18), .lit (.int .u8 12), .lit (.int .u8 5), .lit (.int .u8 63), .lit (.int .u8 55), .lit (.int .u8 48), .lit (.int .u8 27), .lit (.int .u8 60), .lit (.int .u8 41), .lit (.int .u8 37), .lit (.int .u8 16), .lit (.int .u8 46), .lit (.int .u8 35), .lit (.int .u8 44), .lit (.int .u8 21), .lit (.int .u8 52), .lit (.int .u8 32), .lit (.int .u8 23), .lit (.int .u8 11), .lit (.int .u8 54), .lit (.int .u8 26), .lit (.int .u8 40), .lit (.int .u8 15), .lit (.int .u8 34), .lit (.int .u8 20), .lit (.int .u8 31), .lit (.int .u8 10), .lit (.int .u8 25), .lit (.int .u8 14), .lit (.int .u8 19), .lit (.int .u8 9), .lit (.int .u8 13), .lit (.int .u8 8), .lit (.int .u8 7), .lit (.int .u8 6)]
def laid_internal_strconv_uint64pow10 {H : Type} : DataW H := .agg [.lit (.int .u64 1), .lit (.int .u64 10), .lit (.int .u64 100), .lit (.int .u64 1000), .lit (.int .u64 10000), .lit (.int .u64 100000), .lit (.int .u64 1000000), .lit (.int .u64 10000000), .lit (.int .u64 100000000), .lit (.int .u64 1000000000), .lit (.int .u64 10000000000), .lit (.int .u64 100000000000), .lit (.int .u64 1000000000000), .lit (.int .u64 10000000000000), .lit (.int .u64 100000000000000), .lit (.int .u64 1000000000000000), .lit (.int .u64 10000000000000000), .lit (.int .u64 100000000000000000), .lit (.int .u64 1000000000000000000), .lit (.int .u64 10000000000000000000)]
def laid_unicode_utf8_acceptRanges {H : Type} : DataW H := .agg [.agg [.lit (.int .u8 128), .lit (.int .u8 191)], .agg [.lit (.int .u8 160), .lit (.int .u8 191)], .agg [.lit (.int .u8 128), .lit (.int .u8 159)], .agg [.lit (.int .u8 144), .lit (.int .u8 191)], .agg [.lit (.int .u8 128), .lit (.int .u8 143)], .agg [.lit (.int .u8 0), .lit (.int .u8 0)], .agg [.lit (.int .u8 0), .lit (.int .u8 0)], .agg [.lit (.int .u8 0), .lit (.int .u8 0)], .agg [.lit (.int .u8 0), .lit (.int .u8 0)], .agg [.lit (.int .u8 0), .lit (.int .u8 0)], .agg [.lit (.int .u8 0), .lit (.int .u8 0)], .agg [.lit (.int .u8 0), .lit (.int .u8 0)], .agg [.lit (.int .u8 0), .lit (.int .u8 0)], .agg [.lit (.int .u8 0), .lit (.int .u8 0)], .agg [.lit (.int .u8 0), .lit (.int .u8 0)], .agg [.lit (.int .u8 0), .lit (.int .u8 0)]]
def laid_strconv_ErrRange {H : Type} : DataW H := .iface "*errors.errorString" (.ptr (.agg [.lit (.string [118, 97, 108, 117, 101, 32, 111, 117, 116, 32, 111, 102, 32, 114, 97, 110, 103, 101])]))
def laid_strconv_ErrSyntax {H : Type} : DataW H := .iface "*errors.errorString" (.ptr (.agg [.lit (.string [105, 110, 118, 97, 108, 105, 100, 32, 115, 121, 110, 116, 97, 120])]))
def laid_noctuary_places_monthDays {H : Type} : DataW H := .agg [.lit (.int .i64 31), .lit (.int .i64 29), .lit (.int .i64 31), .lit (.int .i64 30), .lit (.int .i64 31), .lit (.int .i64 30), .lit (.int .i64 31), .lit (.int .i64 31), .lit (.int .i64 30), .lit (.int .i64 31), .lit (.int .i64 30), .lit (.int .i64 31)]
/-- One of Go's own tables, pinned by name: the form's constant. -/
def laid_unicode_utf8_first : DataW Unit := Go.Pinned.utf8First

/-- 'noctuarylaw04.SheetsChecks': WHATEVER THE INPUT: true; the input reads as it did. -/
def sheetsChecksSpec : ChangeSpec := { name := "sheetsChecks", fn := fun _ => fun
  | [d1, d2, d3] => { results := [.lit (.bool true)], args := [d1, d2, d3] }
  | _ => none }
def sheetsChecksRow : OpenClaim := { program := "ytijidcigfdblaaagreatdoor", sum := "0bdfb9c7f86150474a72d7c62d33a493a14978b542e9af3b251515f9331915cd", func := "noctuary/noctuarylaw04.SheetsChecks", spec := "sheetsChecks", inPlace := ["internal/bytealg.IndexByteString", "internal/bytealg.IndexString", "internal/bytealg.CountString"], unfollowed := true, recurses := true, named := ["internal/strconv.uint64pow10", "math/bits.deBruijn32tab", "math/bits.deBruijn64tab", "internal/bytealg.MaxLen", "unicode/utf8.first", "unicode/utf8.acceptRanges", "strconv.ErrSyntax", "strconv.ErrRange", "noctuary/places.monthDays"], plainKeys := false, apart := false, laid := [("math/bits.deBruijn32tab", laid_math_bits_deBruijn32tab), ("math/bits.deBruijn64tab", laid_math_bits_deBruijn64tab), ("internal/strconv.uint64pow10", laid_internal_strconv_uint64pow10), ("unicode/utf8.acceptRanges", laid_unicode_utf8_acceptRanges), ("strconv.ErrRange", laid_strconv_ErrRange), ("strconv.ErrSyntax", laid_strconv_ErrSyntax), ("noctuary/places.monthDays", laid_noctuary_places_monthDays), ("unicode/utf8.first", laid_unicode_utf8_first)] }
def SheetsChecksSaid : Prop := sheetsChecksRow.holds Tryz.pinned (OpenSpec.ofChange sheetsChecksSpec)

/-- ITS FALSE NEIGHBOUR: 'it returns false'. Refute it at one input. -/
def sheetsChecksWrong : ChangeSpec := { name := "sheetsChecks", fn := fun _ => fun
  | [d1, d2, d3] => { results := [.lit (.bool false)], args := [d1, d2, d3] }
  | _ => none }
def SheetsChecksWrongFalsely : Prop := sheetsChecksRow.holds Tryz.pinned (OpenSpec.ofChange sheetsChecksWrong)

/-- 'noctuarylaw04.SheetsTexts': WHATEVER THE INPUT: true; the input reads as it did. -/
def sheetsTextsSpec : ChangeSpec := { name := "sheetsTexts", fn := fun _ => fun
  | [d1, d2] => { results := [.lit (.bool true)], args := [d1, d2] }
  | _ => none }
def sheetsTextsRow : OpenClaim := { program := "ytijidcigfdblaaagreatdoor", sum := "0bdfb9c7f86150474a72d7c62d33a493a14978b542e9af3b251515f9331915cd", func := "noctuary/noctuarylaw04.SheetsTexts", spec := "sheetsTexts", inPlace := ["internal/bytealg.IndexByteString", "internal/bytealg.IndexString", "internal/bytealg.CountString"], unfollowed := true, recurses := true, named := ["internal/strconv.uint64pow10", "math/bits.deBruijn32tab", "math/bits.deBruijn64tab", "internal/bytealg.MaxLen", "unicode/utf8.first", "unicode/utf8.acceptRanges", "strconv.ErrSyntax", "strconv.ErrRange", "noctuary/places.monthDays"], plainKeys := false, apart := false, laid := [("math/bits.deBruijn32tab", laid_math_bits_deBruijn32tab), ("math/bits.deBruijn64tab", laid_math_bits_deBruijn64tab), ("internal/strconv.uint64pow10", laid_internal_strconv_uint64pow10), ("unicode/utf8.acceptRanges", laid_unicode_utf8_acceptRanges), ("strconv.ErrRange", laid_strconv_ErrRange), ("strconv.ErrSyntax", laid_strconv_ErrSyntax), ("noctuary/places.monthDays", laid_noctuary_places_monthDays), ("unicode/utf8.first", laid_unicode_utf8_first)] }
def SheetsTextsSaid : Prop := sheetsTextsRow.holds Tryz.pinned (OpenSpec.ofChange sheetsTextsSpec)

/-- ITS FALSE NEIGHBOUR: 'it returns false'. Refute it at one input. -/
def sheetsTextsWrong : ChangeSpec := { name := "sheetsTexts", fn := fun _ => fun
  | [d1, d2] => { results := [.lit (.bool false)], args := [d1, d2] }
  | _ => none }
def SheetsTextsWrongFalsely : Prop := sheetsTextsRow.holds Tryz.pinned (OpenSpec.ofChange sheetsTextsWrong)

/-- 'noctuarylaw04.SheetsBounds': WHATEVER THE INPUT: true; the input reads as it did. -/
def sheetsBoundsSpec : ChangeSpec := { name := "sheetsBounds", fn := fun _ => fun
  | [d] => { results := [.lit (.bool true)], args := [d] }
  | _ => none }
def sheetsBoundsRow : OpenClaim := { program := "ytijidcigfdblaaagreatdoor", sum := "0bdfb9c7f86150474a72d7c62d33a493a14978b542e9af3b251515f9331915cd", func := "noctuary/noctuarylaw04.SheetsBounds", spec := "sheetsBounds", inPlace := ["internal/bytealg.IndexByteString", "internal/bytealg.IndexString", "internal/bytealg.CountString"], unfollowed := true, recurses := true, named := ["internal/strconv.uint64pow10", "math/bits.deBruijn32tab", "math/bits.deBruijn64tab", "internal/bytealg.MaxLen", "unicode/utf8.first", "unicode/utf8.acceptRanges", "strconv.ErrSyntax", "strconv.ErrRange", "noctuary/places.monthDays"], plainKeys := false, apart := false, laid := [("math/bits.deBruijn32tab", laid_math_bits_deBruijn32tab), ("math/bits.deBruijn64tab", laid_math_bits_deBruijn64tab), ("internal/strconv.uint64pow10", laid_internal_strconv_uint64pow10), ("unicode/utf8.acceptRanges", laid_unicode_utf8_acceptRanges), ("strconv.ErrRange", laid_strconv_ErrRange), ("strconv.ErrSyntax", laid_strconv_ErrSyntax), ("noctuary/places.monthDays", laid_noctuary_places_monthDays), ("unicode/utf8.first", laid_unicode_utf8_first)] }
def SheetsBoundsSaid : Prop := sheetsBoundsRow.holds Tryz.pinned (OpenSpec.ofChange sheetsBoundsSpec)

/-- ITS FALSE NEIGHBOUR: 'it returns false'. Refute it at one input. -/
def sheetsBoundsWrong : ChangeSpec := { name := "sheetsBounds", fn := fun _ => fun
  | [d] => { results := [.lit (.bool false)], args := [d] }
  | _ => none }
def SheetsBoundsWrongFalsely : Prop := sheetsBoundsRow.holds Tryz.pinned (OpenSpec.ofChange sheetsBoundsWrong)

/-- 'noctuarylaw04.SheetsNames': WHATEVER THE INPUT: true; the input reads as it did. -/
def sheetsNamesSpec : ChangeSpec := { name := "sheetsNames", fn := fun _ => fun
  | [d1, d2] => { results := [.lit (.bool true)], args := [d1, d2] }
  | _ => none }
def sheetsNamesRow : OpenClaim := { program := "ytijidcigfdblaaagreatdoor", sum := "0bdfb9c7f86150474a72d7c62d33a493a14978b542e9af3b251515f9331915cd", func := "noctuary/noctuarylaw04.SheetsNames", spec := "sheetsNames", inPlace := ["internal/bytealg.IndexByteString", "internal/bytealg.IndexString", "internal/bytealg.CountString"], unfollowed := true, recurses := true, named := ["internal/strconv.uint64pow10", "math/bits.deBruijn32tab", "math/bits.deBruijn64tab", "internal/bytealg.MaxLen", "unicode/utf8.first", "unicode/utf8.acceptRanges", "strconv.ErrSyntax", "strconv.ErrRange", "noctuary/places.monthDays"], plainKeys := false, apart := false, laid := [("math/bits.deBruijn32tab", laid_math_bits_deBruijn32tab), ("math/bits.deBruijn64tab", laid_math_bits_deBruijn64tab), ("internal/strconv.uint64pow10", laid_internal_strconv_uint64pow10), ("unicode/utf8.acceptRanges", laid_unicode_utf8_acceptRanges), ("strconv.ErrRange", laid_strconv_ErrRange), ("strconv.ErrSyntax", laid_strconv_ErrSyntax), ("noctuary/places.monthDays", laid_noctuary_places_monthDays), ("unicode/utf8.first", laid_unicode_utf8_first)] }
def SheetsNamesSaid : Prop := sheetsNamesRow.holds Tryz.pinned (OpenSpec.ofChange sheetsNamesSpec)

/-- ITS FALSE NEIGHBOUR: 'it returns false'. Refute it at one input. -/
def sheetsNamesWrong : ChangeSpec := { name := "sheetsNames", fn := fun _ => fun
  | [d1, d2] => { results := [.lit (.bool false)], args := [d1, d2] }
  | _ => none }
def SheetsNamesWrongFalsely : Prop := sheetsNamesRow.holds Tryz.pinned (OpenSpec.ofChange sheetsNamesWrong)

/-- 'noctuarylaw04.SheetsRules': WHATEVER THE INPUT: true; the input reads as it did. -/
def sheetsRulesSpec : ChangeSpec := { name := "sheetsRules", fn := fun _ => fun
  | [d1, d2, d3] => { results := [.lit (.bool true)], args := [d1, d2, d3] }
  | _ => none }
def sheetsRulesRow : OpenClaim := { program := "ytijidcigfdblaaagreatdoor", sum := "0bdfb9c7f86150474a72d7c62d33a493a14978b542e9af3b251515f9331915cd", func := "noctuary/noctuarylaw04.SheetsRules", spec := "sheetsRules", inPlace := ["internal/bytealg.IndexByteString", "internal/bytealg.IndexString", "internal/bytealg.CountString"], unfollowed := true, recurses := true, named := ["internal/strconv.uint64pow10", "math/bits.deBruijn32tab", "math/bits.deBruijn64tab", "internal/bytealg.MaxLen", "unicode/utf8.first", "unicode/utf8.acceptRanges", "strconv.ErrSyntax", "strconv.ErrRange", "noctuary/places.monthDays"], plainKeys := false, apart := false, laid := [("math/bits.deBruijn32tab", laid_math_bits_deBruijn32tab), ("math/bits.deBruijn64tab", laid_math_bits_deBruijn64tab), ("internal/strconv.uint64pow10", laid_internal_strconv_uint64pow10), ("unicode/utf8.acceptRanges", laid_unicode_utf8_acceptRanges), ("strconv.ErrRange", laid_strconv_ErrRange), ("strconv.ErrSyntax", laid_strconv_ErrSyntax), ("noctuary/places.monthDays", laid_noctuary_places_monthDays), ("unicode/utf8.first", laid_unicode_utf8_first)] }
def SheetsRulesSaid : Prop := sheetsRulesRow.holds Tryz.pinned (OpenSpec.ofChange sheetsRulesSpec)

/-- ITS FALSE NEIGHBOUR: 'it returns false'. Refute it at one input. -/
def sheetsRulesWrong : ChangeSpec := { name := "sheetsRules", fn := fun _ => fun
  | [d1, d2, d3] => { results := [.lit (.bool false)], args := [d1, d2, d3] }
  | _ => none }
def SheetsRulesWrongFalsely : Prop := sheetsRulesRow.holds Tryz.pinned (OpenSpec.ofChange sheetsRulesWrong)

/-- 'noctuarylaw04.SheetsMerges': WHATEVER THE INPUT: true; the input reads as it did. -/
def sheetsMergesSpec : ChangeSpec := { name := "sheetsMerges", fn := fun _ => fun
  | [d1, d2, d3] => { results := [.lit (.bool true)], args := [d1, d2, d3] }
  | _ => none }
def sheetsMergesRow : OpenClaim := { program := "ytijidcigfdblaaagreatdoor", sum := "0bdfb9c7f86150474a72d7c62d33a493a14978b542e9af3b251515f9331915cd", func := "noctuary/noctuarylaw04.SheetsMerges", spec := "sheetsMerges", inPlace := ["internal/bytealg.IndexByteString", "internal/bytealg.IndexString", "internal/bytealg.CountString"], unfollowed := true, recurses := true, named := ["internal/strconv.uint64pow10", "math/bits.deBruijn32tab", "math/bits.deBruijn64tab", "internal/bytealg.MaxLen", "unicode/utf8.first", "unicode/utf8.acceptRanges", "strconv.ErrSyntax", "strconv.ErrRange", "noctuary/places.monthDays"], plainKeys := false, apart := false, laid := [("math/bits.deBruijn32tab", laid_math_bits_deBruijn32tab), ("math/bits.deBruijn64tab", laid_math_bits_deBruijn64tab), ("internal/strconv.uint64pow10", laid_internal_strconv_uint64pow10), ("unicode/utf8.acceptRanges", laid_unicode_utf8_acceptRanges), ("strconv.ErrRange", laid_strconv_ErrRange), ("strconv.ErrSyntax", laid_strconv_ErrSyntax), ("noctuary/places.monthDays", laid_noctuary_places_monthDays), ("unicode/utf8.first", laid_unicode_utf8_first)] }
def SheetsMergesSaid : Prop := sheetsMergesRow.holds Tryz.pinned (OpenSpec.ofChange sheetsMergesSpec)

/-- ITS FALSE NEIGHBOUR: 'it returns false'. Refute it at one input. -/
def sheetsMergesWrong : ChangeSpec := { name := "sheetsMerges", fn := fun _ => fun
  | [d1, d2, d3] => { results := [.lit (.bool false)], args := [d1, d2, d3] }
  | _ => none }
def SheetsMergesWrongFalsely : Prop := sheetsMergesRow.holds Tryz.pinned (OpenSpec.ofChange sheetsMergesWrong)

/-- 'noctuarylaw04.SheetsBack': WHATEVER THE INPUT: true; the input reads as it did. -/
def sheetsBackSpec : ChangeSpec := { name := "sheetsBack", fn := fun _ => fun
  | [d1, d2, d3] => { results := [.lit (.bool true)], args := [d1, d2, d3] }
  | _ => none }
def sheetsBackRow : OpenClaim := { program := "ytijidcigfdblaaagreatdoor", sum := "0bdfb9c7f86150474a72d7c62d33a493a14978b542e9af3b251515f9331915cd", func := "noctuary/noctuarylaw04.SheetsBack", spec := "sheetsBack", inPlace := ["internal/bytealg.IndexByteString", "internal/bytealg.IndexString", "internal/bytealg.CountString"], unfollowed := true, recurses := true, named := ["internal/strconv.uint64pow10", "math/bits.deBruijn32tab", "math/bits.deBruijn64tab", "internal/bytealg.MaxLen", "unicode/utf8.first", "unicode/utf8.acceptRanges", "strconv.ErrSyntax", "strconv.ErrRange", "noctuary/places.monthDays"], plainKeys := false, apart := false, laid := [("math/bits.deBruijn32tab", laid_math_bits_deBruijn32tab), ("math/bits.deBruijn64tab", laid_math_bits_deBruijn64tab), ("internal/strconv.uint64pow10", laid_internal_strconv_uint64pow10), ("unicode/utf8.acceptRanges", laid_unicode_utf8_acceptRanges), ("strconv.ErrRange", laid_strconv_ErrRange), ("strconv.ErrSyntax", laid_strconv_ErrSyntax), ("noctuary/places.monthDays", laid_noctuary_places_monthDays), ("unicode/utf8.first", laid_unicode_utf8_first)] }
def SheetsBackSaid : Prop := sheetsBackRow.holds Tryz.pinned (OpenSpec.ofChange sheetsBackSpec)

/-- ITS FALSE NEIGHBOUR: 'it returns false'. Refute it at one input. -/
def sheetsBackWrong : ChangeSpec := { name := "sheetsBack", fn := fun _ => fun
  | [d1, d2, d3] => { results := [.lit (.bool false)], args := [d1, d2, d3] }
  | _ => none }
def SheetsBackWrongFalsely : Prop := sheetsBackRow.holds Tryz.pinned (OpenSpec.ofChange sheetsBackWrong)

/-- 'noctuarylaw04.SheetsTight': WHATEVER THE INPUT: true; the input reads as it did. -/
def sheetsTightSpec : ChangeSpec := { name := "sheetsTight", fn := fun _ => fun
  | [d1, d2, d3] => { results := [.lit (.bool true)], args := [d1, d2, d3] }
  | _ => none }
def sheetsTightRow : OpenClaim := { program := "ytijidcigfdblaaagreatdoor", sum := "0bdfb9c7f86150474a72d7c62d33a493a14978b542e9af3b251515f9331915cd", func := "noctuary/noctuarylaw04.SheetsTight", spec := "sheetsTight", inPlace := ["internal/bytealg.IndexByteString", "internal/bytealg.IndexString", "internal/bytealg.CountString"], unfollowed := true, recurses := true, named := ["internal/strconv.uint64pow10", "math/bits.deBruijn32tab", "math/bits.deBruijn64tab", "internal/bytealg.MaxLen", "unicode/utf8.first", "unicode/utf8.acceptRanges", "strconv.ErrSyntax", "strconv.ErrRange", "noctuary/places.monthDays"], plainKeys := false, apart := false, laid := [("math/bits.deBruijn32tab", laid_math_bits_deBruijn32tab), ("math/bits.deBruijn64tab", laid_math_bits_deBruijn64tab), ("internal/strconv.uint64pow10", laid_internal_strconv_uint64pow10), ("unicode/utf8.acceptRanges", laid_unicode_utf8_acceptRanges), ("strconv.ErrRange", laid_strconv_ErrRange), ("strconv.ErrSyntax", laid_strconv_ErrSyntax), ("noctuary/places.monthDays", laid_noctuary_places_monthDays), ("unicode/utf8.first", laid_unicode_utf8_first)] }
def SheetsTightSaid : Prop := sheetsTightRow.holds Tryz.pinned (OpenSpec.ofChange sheetsTightSpec)

/-- ITS FALSE NEIGHBOUR: 'it returns false'. Refute it at one input. -/
def sheetsTightWrong : ChangeSpec := { name := "sheetsTight", fn := fun _ => fun
  | [d1, d2, d3] => { results := [.lit (.bool false)], args := [d1, d2, d3] }
  | _ => none }
def SheetsTightWrongFalsely : Prop := sheetsTightRow.holds Tryz.pinned (OpenSpec.ofChange sheetsTightWrong)

/-- 'noctuarylaw04.SheetsRest': WHATEVER THE INPUT: true; the input reads as it did. -/
def sheetsRestSpec : ChangeSpec := { name := "sheetsRest", fn := fun _ => fun
  | [d1, d2, d3] => { results := [.lit (.bool true)], args := [d1, d2, d3] }
  | _ => none }
def sheetsRestRow : OpenClaim := { program := "ytijidcigfdblaaagreatdoor", sum := "0bdfb9c7f86150474a72d7c62d33a493a14978b542e9af3b251515f9331915cd", func := "noctuary/noctuarylaw04.SheetsRest", spec := "sheetsRest", inPlace := ["internal/bytealg.IndexByteString", "internal/bytealg.IndexString", "internal/bytealg.CountString"], unfollowed := true, recurses := true, named := ["internal/strconv.uint64pow10", "math/bits.deBruijn32tab", "math/bits.deBruijn64tab", "internal/bytealg.MaxLen", "unicode/utf8.first", "unicode/utf8.acceptRanges", "strconv.ErrSyntax", "strconv.ErrRange", "noctuary/places.monthDays"], plainKeys := false, apart := false, laid := [("math/bits.deBruijn32tab", laid_math_bits_deBruijn32tab), ("math/bits.deBruijn64tab", laid_math_bits_deBruijn64tab), ("internal/strconv.uint64pow10", laid_internal_strconv_uint64pow10), ("unicode/utf8.acceptRanges", laid_unicode_utf8_acceptRanges), ("strconv.ErrRange", laid_strconv_ErrRange), ("strconv.ErrSyntax", laid_strconv_ErrSyntax), ("noctuary/places.monthDays", laid_noctuary_places_monthDays), ("unicode/utf8.first", laid_unicode_utf8_first)] }
def SheetsRestSaid : Prop := sheetsRestRow.holds Tryz.pinned (OpenSpec.ofChange sheetsRestSpec)

/-- ITS FALSE NEIGHBOUR: 'it returns false'. Refute it at one input. -/
def sheetsRestWrong : ChangeSpec := { name := "sheetsRest", fn := fun _ => fun
  | [d1, d2, d3] => { results := [.lit (.bool false)], args := [d1, d2, d3] }
  | _ => none }
def SheetsRestWrongFalsely : Prop := sheetsRestRow.holds Tryz.pinned (OpenSpec.ofChange sheetsRestWrong)

/-- 'noctuarylaw04.SheetsDoubts': WHATEVER THE INPUT: true; the input reads as it did. -/
def sheetsDoubtsSpec : ChangeSpec := { name := "sheetsDoubts", fn := fun _ => fun
  | [d1, d2, d3] => { results := [.lit (.bool true)], args := [d1, d2, d3] }
  | _ => none }
def sheetsDoubtsRow : OpenClaim := { program := "ytijidcigfdblaaagreatdoor", sum := "0bdfb9c7f86150474a72d7c62d33a493a14978b542e9af3b251515f9331915cd", func := "noctuary/noctuarylaw04.SheetsDoubts", spec := "sheetsDoubts", inPlace := ["internal/bytealg.IndexByteString", "internal/bytealg.IndexString", "internal/bytealg.CountString"], unfollowed := true, recurses := true, named := ["internal/strconv.uint64pow10", "math/bits.deBruijn32tab", "math/bits.deBruijn64tab", "internal/bytealg.MaxLen", "unicode/utf8.first", "unicode/utf8.acceptRanges", "strconv.ErrSyntax", "strconv.ErrRange", "noctuary/places.monthDays"], plainKeys := false, apart := false, laid := [("math/bits.deBruijn32tab", laid_math_bits_deBruijn32tab), ("math/bits.deBruijn64tab", laid_math_bits_deBruijn64tab), ("internal/strconv.uint64pow10", laid_internal_strconv_uint64pow10), ("unicode/utf8.acceptRanges", laid_unicode_utf8_acceptRanges), ("strconv.ErrRange", laid_strconv_ErrRange), ("strconv.ErrSyntax", laid_strconv_ErrSyntax), ("noctuary/places.monthDays", laid_noctuary_places_monthDays), ("unicode/utf8.first", laid_unicode_utf8_first)] }
def SheetsDoubtsSaid : Prop := sheetsDoubtsRow.holds Tryz.pinned (OpenSpec.ofChange sheetsDoubtsSpec)

/-- ITS FALSE NEIGHBOUR: 'it returns false'. Refute it at one input. -/
def sheetsDoubtsWrong : ChangeSpec := { name := "sheetsDoubts", fn := fun _ => fun
  | [d1, d2, d3] => { results := [.lit (.bool false)], args := [d1, d2, d3] }
  | _ => none }
def SheetsDoubtsWrongFalsely : Prop := sheetsDoubtsRow.holds Tryz.pinned (OpenSpec.ofChange sheetsDoubtsWrong)

/-- 'noctuarylaw04.SheetsCopies': WHATEVER THE INPUT: true; the input reads as it did. -/
def sheetsCopiesSpec : ChangeSpec := { name := "sheetsCopies", fn := fun _ => fun
  | [d1, d2, d3] => { results := [.lit (.bool true)], args := [d1, d2, d3] }
  | _ => none }
def sheetsCopiesRow : OpenClaim := { program := "ytijidcigfdblaaagreatdoor", sum := "0bdfb9c7f86150474a72d7c62d33a493a14978b542e9af3b251515f9331915cd", func := "noctuary/noctuarylaw04.SheetsCopies", spec := "sheetsCopies", inPlace := ["internal/bytealg.IndexByteString", "internal/bytealg.IndexString", "internal/bytealg.CountString"], unfollowed := true, recurses := true, named := ["internal/strconv.uint64pow10", "math/bits.deBruijn32tab", "math/bits.deBruijn64tab", "internal/bytealg.MaxLen", "unicode/utf8.first", "unicode/utf8.acceptRanges", "strconv.ErrSyntax", "strconv.ErrRange", "noctuary/places.monthDays"], plainKeys := false, apart := false, laid := [("math/bits.deBruijn32tab", laid_math_bits_deBruijn32tab), ("math/bits.deBruijn64tab", laid_math_bits_deBruijn64tab), ("internal/strconv.uint64pow10", laid_internal_strconv_uint64pow10), ("unicode/utf8.acceptRanges", laid_unicode_utf8_acceptRanges), ("strconv.ErrRange", laid_strconv_ErrRange), ("strconv.ErrSyntax", laid_strconv_ErrSyntax), ("noctuary/places.monthDays", laid_noctuary_places_monthDays), ("unicode/utf8.first", laid_unicode_utf8_first)] }
def SheetsCopiesSaid : Prop := sheetsCopiesRow.holds Tryz.pinned (OpenSpec.ofChange sheetsCopiesSpec)

/-- ITS FALSE NEIGHBOUR: 'it returns false'. Refute it at one input. -/
def sheetsCopiesWrong : ChangeSpec := { name := "sheetsCopies", fn := fun _ => fun
  | [d1, d2, d3] => { results := [.lit (.bool false)], args := [d1, d2, d3] }
  | _ => none }
def SheetsCopiesWrongFalsely : Prop := sheetsCopiesRow.holds Tryz.pinned (OpenSpec.ofChange sheetsCopiesWrong)

/-- 'noctuarylaw04.SheetsTwins': WHATEVER THE INPUT: true; the input reads as it did. -/
def sheetsTwinsSpec : ChangeSpec := { name := "sheetsTwins", fn := fun _ => fun
  | [d1, d2] => { results := [.lit (.bool true)], args := [d1, d2] }
  | _ => none }
def sheetsTwinsRow : OpenClaim := { program := "ytijidcigfdblaaagreatdoor", sum := "0bdfb9c7f86150474a72d7c62d33a493a14978b542e9af3b251515f9331915cd", func := "noctuary/noctuarylaw04.SheetsTwins", spec := "sheetsTwins", inPlace := ["internal/bytealg.IndexByteString", "internal/bytealg.IndexString", "internal/bytealg.CountString"], unfollowed := true, recurses := true, named := ["internal/strconv.uint64pow10", "math/bits.deBruijn32tab", "math/bits.deBruijn64tab", "internal/bytealg.MaxLen", "unicode/utf8.first", "unicode/utf8.acceptRanges", "strconv.ErrSyntax", "strconv.ErrRange", "noctuary/places.monthDays"], plainKeys := false, apart := false, laid := [("math/bits.deBruijn32tab", laid_math_bits_deBruijn32tab), ("math/bits.deBruijn64tab", laid_math_bits_deBruijn64tab), ("internal/strconv.uint64pow10", laid_internal_strconv_uint64pow10), ("unicode/utf8.acceptRanges", laid_unicode_utf8_acceptRanges), ("strconv.ErrRange", laid_strconv_ErrRange), ("strconv.ErrSyntax", laid_strconv_ErrSyntax), ("noctuary/places.monthDays", laid_noctuary_places_monthDays), ("unicode/utf8.first", laid_unicode_utf8_first)] }
def SheetsTwinsSaid : Prop := sheetsTwinsRow.holds Tryz.pinned (OpenSpec.ofChange sheetsTwinsSpec)

/-- ITS FALSE NEIGHBOUR: 'it returns false'. Refute it at one input. -/
def sheetsTwinsWrong : ChangeSpec := { name := "sheetsTwins", fn := fun _ => fun
  | [d1, d2] => { results := [.lit (.bool false)], args := [d1, d2] }
  | _ => none }
def SheetsTwinsWrongFalsely : Prop := sheetsTwinsRow.holds Tryz.pinned (OpenSpec.ofChange sheetsTwinsWrong)

/-- 'noctuarylaw04.SheetsFits': WHATEVER THE INPUT: true; the input reads as it did. -/
def sheetsFitsSpec : ChangeSpec := { name := "sheetsFits", fn := fun _ => fun
  | [d1, d2] => { results := [.lit (.bool true)], args := [d1, d2] }
  | _ => none }
def sheetsFitsRow : OpenClaim := { program := "ytijidcigfdblaaagreatdoor", sum := "0bdfb9c7f86150474a72d7c62d33a493a14978b542e9af3b251515f9331915cd", func := "noctuary/noctuarylaw04.SheetsFits", spec := "sheetsFits", inPlace := ["internal/bytealg.IndexByteString", "internal/bytealg.IndexString", "internal/bytealg.CountString"], unfollowed := true, recurses := true, named := ["internal/strconv.uint64pow10", "math/bits.deBruijn32tab", "math/bits.deBruijn64tab", "internal/bytealg.MaxLen", "unicode/utf8.first", "unicode/utf8.acceptRanges", "strconv.ErrSyntax", "strconv.ErrRange", "noctuary/places.monthDays"], plainKeys := false, apart := false, laid := [("math/bits.deBruijn32tab", laid_math_bits_deBruijn32tab), ("math/bits.deBruijn64tab", laid_math_bits_deBruijn64tab), ("internal/strconv.uint64pow10", laid_internal_strconv_uint64pow10), ("unicode/utf8.acceptRanges", laid_unicode_utf8_acceptRanges), ("strconv.ErrRange", laid_strconv_ErrRange), ("strconv.ErrSyntax", laid_strconv_ErrSyntax), ("noctuary/places.monthDays", laid_noctuary_places_monthDays), ("unicode/utf8.first", laid_unicode_utf8_first)] }
def SheetsFitsSaid : Prop := sheetsFitsRow.holds Tryz.pinned (OpenSpec.ofChange sheetsFitsSpec)

/-- ITS FALSE NEIGHBOUR: 'it returns false'. Refute it at one input. -/
def sheetsFitsWrong : ChangeSpec := { name := "sheetsFits", fn := fun _ => fun
  | [d1, d2] => { results := [.lit (.bool false)], args := [d1, d2] }
  | _ => none }
def SheetsFitsWrongFalsely : Prop := sheetsFitsRow.holds Tryz.pinned (OpenSpec.ofChange sheetsFitsWrong)

/- THE SECOND FORM. 'bulk': how many values and letters a reading holds, each counted each time it is reached (what is shared counts as often as it is met; a slice's spare places count too). A statement '..UptoSaid' is the law's where the arguments, and the package variables that the reading takes, are together of bulk at most 1048576: NARROWER than '..Said'. Prove '..Said' where nothing that the law and all that it calls make is longer than what came in: it says more and counts as full. Else prove '..UptoSaid'. A law counts once. -/
mutual
def uptoBulk {H : Type} : DataW H → Nat
  | .lit (.string bytes) => bytes.length + 1
  | .lit _ => 1
  | .nil => 1
  | .ptr d => uptoBulk d + 1
  | .slice elems spare => uptoBulkAll elems + uptoBulkAll spare + 1
  | .agg parts => uptoBulkAll parts + 1
  | .iface _ d => uptoBulk d + 1
  | .map entries => uptoBulkEntries entries + 1
  | .held _ => 1
def uptoBulkAll {H : Type} : List (DataW H) → Nat
  | [] => 0
  | d :: r => uptoBulk d + uptoBulkAll r
def uptoBulkEntries {H : Type} : List (Lit × DataW H) → Nat
  | [] => 0
  | x :: r => uptoBulkEntry x + uptoBulkEntries r
def uptoBulkEntry {H : Type} : Lit × DataW H → Nat
  | (.string bytes, d) => bytes.length + uptoBulk d + 1
  | (_, d) => uptoBulk d + 1
 end
def uptoSmall : (H : Type) → List (DataW H) → Bool := fun _ ds => decide (uptoBulkAll ds ≤ 1048576)
def OpenSpec.upto (s : _root_.Go.ChangeSpec) : _root_.Go.OpenSpec := { _root_.Go.OpenSpec.ofChange s with cond := some uptoSmall }

/-- 'noctuarylaw04.SheetsChecks', WHERE WHAT IT READS IS OF BULK AT MOST 1048576: true; the input reads as it did. -/
def sheetsChecksUptoRow : OpenClaim := { program := "ytijidcigfdblaaagreatdoor", sum := "0bdfb9c7f86150474a72d7c62d33a493a14978b542e9af3b251515f9331915cd", func := "noctuary/noctuarylaw04.SheetsChecks", spec := "sheetsChecks", inPlace := ["internal/bytealg.IndexByteString", "internal/bytealg.IndexString", "internal/bytealg.CountString"], unfollowed := true, recurses := true, named := ["internal/strconv.uint64pow10", "math/bits.deBruijn32tab", "math/bits.deBruijn64tab", "internal/bytealg.MaxLen", "unicode/utf8.first", "unicode/utf8.acceptRanges", "strconv.ErrSyntax", "strconv.ErrRange", "noctuary/places.monthDays"], plainKeys := false, apart := false, laid := [("math/bits.deBruijn32tab", laid_math_bits_deBruijn32tab), ("math/bits.deBruijn64tab", laid_math_bits_deBruijn64tab), ("internal/strconv.uint64pow10", laid_internal_strconv_uint64pow10), ("unicode/utf8.acceptRanges", laid_unicode_utf8_acceptRanges), ("strconv.ErrRange", laid_strconv_ErrRange), ("strconv.ErrSyntax", laid_strconv_ErrSyntax), ("noctuary/places.monthDays", laid_noctuary_places_monthDays), ("unicode/utf8.first", laid_unicode_utf8_first)], narrowed := true }
def SheetsChecksUptoSaid : Prop := sheetsChecksUptoRow.holds Tryz.pinned (OpenSpec.upto sheetsChecksSpec)

/-- 'noctuarylaw04.SheetsTexts', WHERE WHAT IT READS IS OF BULK AT MOST 1048576: true; the input reads as it did. -/
def sheetsTextsUptoRow : OpenClaim := { program := "ytijidcigfdblaaagreatdoor", sum := "0bdfb9c7f86150474a72d7c62d33a493a14978b542e9af3b251515f9331915cd", func := "noctuary/noctuarylaw04.SheetsTexts", spec := "sheetsTexts", inPlace := ["internal/bytealg.IndexByteString", "internal/bytealg.IndexString", "internal/bytealg.CountString"], unfollowed := true, recurses := true, named := ["internal/strconv.uint64pow10", "math/bits.deBruijn32tab", "math/bits.deBruijn64tab", "internal/bytealg.MaxLen", "unicode/utf8.first", "unicode/utf8.acceptRanges", "strconv.ErrSyntax", "strconv.ErrRange", "noctuary/places.monthDays"], plainKeys := false, apart := false, laid := [("math/bits.deBruijn32tab", laid_math_bits_deBruijn32tab), ("math/bits.deBruijn64tab", laid_math_bits_deBruijn64tab), ("internal/strconv.uint64pow10", laid_internal_strconv_uint64pow10), ("unicode/utf8.acceptRanges", laid_unicode_utf8_acceptRanges), ("strconv.ErrRange", laid_strconv_ErrRange), ("strconv.ErrSyntax", laid_strconv_ErrSyntax), ("noctuary/places.monthDays", laid_noctuary_places_monthDays), ("unicode/utf8.first", laid_unicode_utf8_first)], narrowed := true }
def SheetsTextsUptoSaid : Prop := sheetsTextsUptoRow.holds Tryz.pinned (OpenSpec.upto sheetsTextsSpec)

/-- 'noctuarylaw04.SheetsBounds', WHERE WHAT IT READS IS OF BULK AT MOST 1048576: true; the input reads as it did. -/
def sheetsBoundsUptoRow : OpenClaim := { program := "ytijidcigfdblaaagreatdoor", sum := "0bdfb9c7f86150474a72d7c62d33a493a14978b542e9af3b251515f9331915cd", func := "noctuary/noctuarylaw04.SheetsBounds", spec := "sheetsBounds", inPlace := ["internal/bytealg.IndexByteString", "internal/bytealg.IndexString", "internal/bytealg.CountString"], unfollowed := true, recurses := true, named := ["internal/strconv.uint64pow10", "math/bits.deBruijn32tab", "math/bits.deBruijn64tab", "internal/bytealg.MaxLen", "unicode/utf8.first", "unicode/utf8.acceptRanges", "strconv.ErrSyntax", "strconv.ErrRange", "noctuary/places.monthDays"], plainKeys := false, apart := false, laid := [("math/bits.deBruijn32tab", laid_math_bits_deBruijn32tab), ("math/bits.deBruijn64tab", laid_math_bits_deBruijn64tab), ("internal/strconv.uint64pow10", laid_internal_strconv_uint64pow10), ("unicode/utf8.acceptRanges", laid_unicode_utf8_acceptRanges), ("strconv.ErrRange", laid_strconv_ErrRange), ("strconv.ErrSyntax", laid_strconv_ErrSyntax), ("noctuary/places.monthDays", laid_noctuary_places_monthDays), ("unicode/utf8.first", laid_unicode_utf8_first)], narrowed := true }
def SheetsBoundsUptoSaid : Prop := sheetsBoundsUptoRow.holds Tryz.pinned (OpenSpec.upto sheetsBoundsSpec)

/-- 'noctuarylaw04.SheetsNames', WHERE WHAT IT READS IS OF BULK AT MOST 1048576: true; the input reads as it did. -/
def sheetsNamesUptoRow : OpenClaim := { program := "ytijidcigfdblaaagreatdoor", sum := "0bdfb9c7f86150474a72d7c62d33a493a14978b542e9af3b251515f9331915cd", func := "noctuary/noctuarylaw04.SheetsNames", spec := "sheetsNames", inPlace := ["internal/bytealg.IndexByteString", "internal/bytealg.IndexString", "internal/bytealg.CountString"], unfollowed := true, recurses := true, named := ["internal/strconv.uint64pow10", "math/bits.deBruijn32tab", "math/bits.deBruijn64tab", "internal/bytealg.MaxLen", "unicode/utf8.first", "unicode/utf8.acceptRanges", "strconv.ErrSyntax", "strconv.ErrRange", "noctuary/places.monthDays"], plainKeys := false, apart := false, laid := [("math/bits.deBruijn32tab", laid_math_bits_deBruijn32tab), ("math/bits.deBruijn64tab", laid_math_bits_deBruijn64tab), ("internal/strconv.uint64pow10", laid_internal_strconv_uint64pow10), ("unicode/utf8.acceptRanges", laid_unicode_utf8_acceptRanges), ("strconv.ErrRange", laid_strconv_ErrRange), ("strconv.ErrSyntax", laid_strconv_ErrSyntax), ("noctuary/places.monthDays", laid_noctuary_places_monthDays), ("unicode/utf8.first", laid_unicode_utf8_first)], narrowed := true }
def SheetsNamesUptoSaid : Prop := sheetsNamesUptoRow.holds Tryz.pinned (OpenSpec.upto sheetsNamesSpec)

/-- 'noctuarylaw04.SheetsRules', WHERE WHAT IT READS IS OF BULK AT MOST 1048576: true; the input reads as it did. -/
def sheetsRulesUptoRow : OpenClaim := { program := "ytijidcigfdblaaagreatdoor", sum := "0bdfb9c7f86150474a72d7c62d33a493a14978b542e9af3b251515f9331915cd", func := "noctuary/noctuarylaw04.SheetsRules", spec := "sheetsRules", inPlace := ["internal/bytealg.IndexByteString", "internal/bytealg.IndexString", "internal/bytealg.CountString"], unfollowed := true, recurses := true, named := ["internal/strconv.uint64pow10", "math/bits.deBruijn32tab", "math/bits.deBruijn64tab", "internal/bytealg.MaxLen", "unicode/utf8.first", "unicode/utf8.acceptRanges", "strconv.ErrSyntax", "strconv.ErrRange", "noctuary/places.monthDays"], plainKeys := false, apart := false, laid := [("math/bits.deBruijn32tab", laid_math_bits_deBruijn32tab), ("math/bits.deBruijn64tab", laid_math_bits_deBruijn64tab), ("internal/strconv.uint64pow10", laid_internal_strconv_uint64pow10), ("unicode/utf8.acceptRanges", laid_unicode_utf8_acceptRanges), ("strconv.ErrRange", laid_strconv_ErrRange), ("strconv.ErrSyntax", laid_strconv_ErrSyntax), ("noctuary/places.monthDays", laid_noctuary_places_monthDays), ("unicode/utf8.first", laid_unicode_utf8_first)], narrowed := true }
def SheetsRulesUptoSaid : Prop := sheetsRulesUptoRow.holds Tryz.pinned (OpenSpec.upto sheetsRulesSpec)

/-- 'noctuarylaw04.SheetsMerges', WHERE WHAT IT READS IS OF BULK AT MOST 1048576: true; the input reads as it did. -/
def sheetsMergesUptoRow : OpenClaim := { program := "ytijidcigfdblaaagreatdoor", sum := "0bdfb9c7f86150474a72d7c62d33a493a14978b542e9af3b251515f9331915cd", func := "noctuary/noctuarylaw04.SheetsMerges", spec := "sheetsMerges", inPlace := ["internal/bytealg.IndexByteString", "internal/bytealg.IndexString", "internal/bytealg.CountString"], unfollowed := true, recurses := true, named := ["internal/strconv.uint64pow10", "math/bits.deBruijn32tab", "math/bits.deBruijn64tab", "internal/bytealg.MaxLen", "unicode/utf8.first", "unicode/utf8.acceptRanges", "strconv.ErrSyntax", "strconv.ErrRange", "noctuary/places.monthDays"], plainKeys := false, apart := false, laid := [("math/bits.deBruijn32tab", laid_math_bits_deBruijn32tab), ("math/bits.deBruijn64tab", laid_math_bits_deBruijn64tab), ("internal/strconv.uint64pow10", laid_internal_strconv_uint64pow10), ("unicode/utf8.acceptRanges", laid_unicode_utf8_acceptRanges), ("strconv.ErrRange", laid_strconv_ErrRange), ("strconv.ErrSyntax", laid_strconv_ErrSyntax), ("noctuary/places.monthDays", laid_noctuary_places_monthDays), ("unicode/utf8.first", laid_unicode_utf8_first)], narrowed := true }
def SheetsMergesUptoSaid : Prop := sheetsMergesUptoRow.holds Tryz.pinned (OpenSpec.upto sheetsMergesSpec)

/-- 'noctuarylaw04.SheetsBack', WHERE WHAT IT READS IS OF BULK AT MOST 1048576: true; the input reads as it did. -/
def sheetsBackUptoRow : OpenClaim := { program := "ytijidcigfdblaaagreatdoor", sum := "0bdfb9c7f86150474a72d7c62d33a493a14978b542e9af3b251515f9331915cd", func := "noctuary/noctuarylaw04.SheetsBack", spec := "sheetsBack", inPlace := ["internal/bytealg.IndexByteString", "internal/bytealg.IndexString", "internal/bytealg.CountString"], unfollowed := true, recurses := true, named := ["internal/strconv.uint64pow10", "math/bits.deBruijn32tab", "math/bits.deBruijn64tab", "internal/bytealg.MaxLen", "unicode/utf8.first", "unicode/utf8.acceptRanges", "strconv.ErrSyntax", "strconv.ErrRange", "noctuary/places.monthDays"], plainKeys := false, apart := false, laid := [("math/bits.deBruijn32tab", laid_math_bits_deBruijn32tab), ("math/bits.deBruijn64tab", laid_math_bits_deBruijn64tab), ("internal/strconv.uint64pow10", laid_internal_strconv_uint64pow10), ("unicode/utf8.acceptRanges", laid_unicode_utf8_acceptRanges), ("strconv.ErrRange", laid_strconv_ErrRange), ("strconv.ErrSyntax", laid_strconv_ErrSyntax), ("noctuary/places.monthDays", laid_noctuary_places_monthDays), ("unicode/utf8.first", laid_unicode_utf8_first)], narrowed := true }
def SheetsBackUptoSaid : Prop := sheetsBackUptoRow.holds Tryz.pinned (OpenSpec.upto sheetsBackSpec)

/-- 'noctuarylaw04.SheetsTight', WHERE WHAT IT READS IS OF BULK AT MOST 1048576: true; the input reads as it did. -/
def sheetsTightUptoRow : OpenClaim := { program := "ytijidcigfdblaaagreatdoor", sum := "0bdfb9c7f86150474a72d7c62d33a493a14978b542e9af3b251515f9331915cd", func := "noctuary/noctuarylaw04.SheetsTight", spec := "sheetsTight", inPlace := ["internal/bytealg.IndexByteString", "internal/bytealg.IndexString", "internal/bytealg.CountString"], unfollowed := true, recurses := true, named := ["internal/strconv.uint64pow10", "math/bits.deBruijn32tab", "math/bits.deBruijn64tab", "internal/bytealg.MaxLen", "unicode/utf8.first", "unicode/utf8.acceptRanges", "strconv.ErrSyntax", "strconv.ErrRange", "noctuary/places.monthDays"], plainKeys := false, apart := false, laid := [("math/bits.deBruijn32tab", laid_math_bits_deBruijn32tab), ("math/bits.deBruijn64tab", laid_math_bits_deBruijn64tab), ("internal/strconv.uint64pow10", laid_internal_strconv_uint64pow10), ("unicode/utf8.acceptRanges", laid_unicode_utf8_acceptRanges), ("strconv.ErrRange", laid_strconv_ErrRange), ("strconv.ErrSyntax", laid_strconv_ErrSyntax), ("noctuary/places.monthDays", laid_noctuary_places_monthDays), ("unicode/utf8.first", laid_unicode_utf8_first)], narrowed := true }
def SheetsTightUptoSaid : Prop := sheetsTightUptoRow.holds Tryz.pinned (OpenSpec.upto sheetsTightSpec)

/-- 'noctuarylaw04.SheetsRest', WHERE WHAT IT READS IS OF BULK AT MOST 1048576: true; the input reads as it did. -/
def sheetsRestUptoRow : OpenClaim := { program := "ytijidcigfdblaaagreatdoor", sum := "0bdfb9c7f86150474a72d7c62d33a493a14978b542e9af3b251515f9331915cd", func := "noctuary/noctuarylaw04.SheetsRest", spec := "sheetsRest", inPlace := ["internal/bytealg.IndexByteString", "internal/bytealg.IndexString", "internal/bytealg.CountString"], unfollowed := true, recurses := true, named := ["internal/strconv.uint64pow10", "math/bits.deBruijn32tab", "math/bits.deBruijn64tab", "internal/bytealg.MaxLen", "unicode/utf8.first", "unicode/utf8.acceptRanges", "strconv.ErrSyntax", "strconv.ErrRange", "noctuary/places.monthDays"], plainKeys := false, apart := false, laid := [("math/bits.deBruijn32tab", laid_math_bits_deBruijn32tab), ("math/bits.deBruijn64tab", laid_math_bits_deBruijn64tab), ("internal/strconv.uint64pow10", laid_internal_strconv_uint64pow10), ("unicode/utf8.acceptRanges", laid_unicode_utf8_acceptRanges), ("strconv.ErrRange", laid_strconv_ErrRange), ("strconv.ErrSyntax", laid_strconv_ErrSyntax), ("noctuary/places.monthDays", laid_noctuary_places_monthDays), ("unicode/utf8.first", laid_unicode_utf8_first)], narrowed := true }
def SheetsRestUptoSaid : Prop := sheetsRestUptoRow.holds Tryz.pinned (OpenSpec.upto sheetsRestSpec)

/-- 'noctuarylaw04.SheetsDoubts', WHERE WHAT IT READS IS OF BULK AT MOST 1048576: true; the input reads as it did. -/
def sheetsDoubtsUptoRow : OpenClaim := { program := "ytijidcigfdblaaagreatdoor", sum := "0bdfb9c7f86150474a72d7c62d33a493a14978b542e9af3b251515f9331915cd", func := "noctuary/noctuarylaw04.SheetsDoubts", spec := "sheetsDoubts", inPlace := ["internal/bytealg.IndexByteString", "internal/bytealg.IndexString", "internal/bytealg.CountString"], unfollowed := true, recurses := true, named := ["internal/strconv.uint64pow10", "math/bits.deBruijn32tab", "math/bits.deBruijn64tab", "internal/bytealg.MaxLen", "unicode/utf8.first", "unicode/utf8.acceptRanges", "strconv.ErrSyntax", "strconv.ErrRange", "noctuary/places.monthDays"], plainKeys := false, apart := false, laid := [("math/bits.deBruijn32tab", laid_math_bits_deBruijn32tab), ("math/bits.deBruijn64tab", laid_math_bits_deBruijn64tab), ("internal/strconv.uint64pow10", laid_internal_strconv_uint64pow10), ("unicode/utf8.acceptRanges", laid_unicode_utf8_acceptRanges), ("strconv.ErrRange", laid_strconv_ErrRange), ("strconv.ErrSyntax", laid_strconv_ErrSyntax), ("noctuary/places.monthDays", laid_noctuary_places_monthDays), ("unicode/utf8.first", laid_unicode_utf8_first)], narrowed := true }
def SheetsDoubtsUptoSaid : Prop := sheetsDoubtsUptoRow.holds Tryz.pinned (OpenSpec.upto sheetsDoubtsSpec)

/-- 'noctuarylaw04.SheetsCopies', WHERE WHAT IT READS IS OF BULK AT MOST 1048576: true; the input reads as it did. -/
def sheetsCopiesUptoRow : OpenClaim := { program := "ytijidcigfdblaaagreatdoor", sum := "0bdfb9c7f86150474a72d7c62d33a493a14978b542e9af3b251515f9331915cd", func := "noctuary/noctuarylaw04.SheetsCopies", spec := "sheetsCopies", inPlace := ["internal/bytealg.IndexByteString", "internal/bytealg.IndexString", "internal/bytealg.CountString"], unfollowed := true, recurses := true, named := ["internal/strconv.uint64pow10", "math/bits.deBruijn32tab", "math/bits.deBruijn64tab", "internal/bytealg.MaxLen", "unicode/utf8.first", "unicode/utf8.acceptRanges", "strconv.ErrSyntax", "strconv.ErrRange", "noctuary/places.monthDays"], plainKeys := false, apart := false, laid := [("math/bits.deBruijn32tab", laid_math_bits_deBruijn32tab), ("math/bits.deBruijn64tab", laid_math_bits_deBruijn64tab), ("internal/strconv.uint64pow10", laid_internal_strconv_uint64pow10), ("unicode/utf8.acceptRanges", laid_unicode_utf8_acceptRanges), ("strconv.ErrRange", laid_strconv_ErrRange), ("strconv.ErrSyntax", laid_strconv_ErrSyntax), ("noctuary/places.monthDays", laid_noctuary_places_monthDays), ("unicode/utf8.first", laid_unicode_utf8_first)], narrowed := true }
def SheetsCopiesUptoSaid : Prop := sheetsCopiesUptoRow.holds Tryz.pinned (OpenSpec.upto sheetsCopiesSpec)

/-- 'noctuarylaw04.SheetsTwins', WHERE WHAT IT READS IS OF BULK AT MOST 1048576: true; the input reads as it did. -/
def sheetsTwinsUptoRow : OpenClaim := { program := "ytijidcigfdblaaagreatdoor", sum := "0bdfb9c7f86150474a72d7c62d33a493a14978b542e9af3b251515f9331915cd", func := "noctuary/noctuarylaw04.SheetsTwins", spec := "sheetsTwins", inPlace := ["internal/bytealg.IndexByteString", "internal/bytealg.IndexString", "internal/bytealg.CountString"], unfollowed := true, recurses := true, named := ["internal/strconv.uint64pow10", "math/bits.deBruijn32tab", "math/bits.deBruijn64tab", "internal/bytealg.MaxLen", "unicode/utf8.first", "unicode/utf8.acceptRanges", "strconv.ErrSyntax", "strconv.ErrRange", "noctuary/places.monthDays"], plainKeys := false, apart := false, laid := [("math/bits.deBruijn32tab", laid_math_bits_deBruijn32tab), ("math/bits.deBruijn64tab", laid_math_bits_deBruijn64tab), ("internal/strconv.uint64pow10", laid_internal_strconv_uint64pow10), ("unicode/utf8.acceptRanges", laid_unicode_utf8_acceptRanges), ("strconv.ErrRange", laid_strconv_ErrRange), ("strconv.ErrSyntax", laid_strconv_ErrSyntax), ("noctuary/places.monthDays", laid_noctuary_places_monthDays), ("unicode/utf8.first", laid_unicode_utf8_first)], narrowed := true }
def SheetsTwinsUptoSaid : Prop := sheetsTwinsUptoRow.holds Tryz.pinned (OpenSpec.upto sheetsTwinsSpec)

/-- 'noctuarylaw04.SheetsFits', WHERE WHAT IT READS IS OF BULK AT MOST 1048576: true; the input reads as it did. -/
def sheetsFitsUptoRow : OpenClaim := { program := "ytijidcigfdblaaagreatdoor", sum := "0bdfb9c7f86150474a72d7c62d33a493a14978b542e9af3b251515f9331915cd", func := "noctuary/noctuarylaw04.SheetsFits", spec := "sheetsFits", inPlace := ["internal/bytealg.IndexByteString", "internal/bytealg.IndexString", "internal/bytealg.CountString"], unfollowed := true, recurses := true, named := ["internal/strconv.uint64pow10", "math/bits.deBruijn32tab", "math/bits.deBruijn64tab", "internal/bytealg.MaxLen", "unicode/utf8.first", "unicode/utf8.acceptRanges", "strconv.ErrSyntax", "strconv.ErrRange", "noctuary/places.monthDays"], plainKeys := false, apart := false, laid := [("math/bits.deBruijn32tab", laid_math_bits_deBruijn32tab), ("math/bits.deBruijn64tab", laid_math_bits_deBruijn64tab), ("internal/strconv.uint64pow10", laid_internal_strconv_uint64pow10), ("unicode/utf8.acceptRanges", laid_unicode_utf8_acceptRanges), ("strconv.ErrRange", laid_strconv_ErrRange), ("strconv.ErrSyntax", laid_strconv_ErrSyntax), ("noctuary/places.monthDays", laid_noctuary_places_monthDays), ("unicode/utf8.first", laid_unicode_utf8_first)], narrowed := true }
def SheetsFitsUptoSaid : Prop := sheetsFitsUptoRow.holds Tryz.pinned (OpenSpec.upto sheetsFitsSpec)

end Rows
end Go.Proofs.YtijidcigfdblaaaGreatDoor
