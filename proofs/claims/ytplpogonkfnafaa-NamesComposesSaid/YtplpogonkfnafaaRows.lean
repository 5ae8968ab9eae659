/-
  No cell of these rows narrows 'for every input' (looked for: loops, veiled, ifaces, maps, wideKeys, modest, calm, conditions, laid).
  DERIVED. THE GIVEN ROWS OF THIS SEAT. 11 by the template 'for every input the law returns true; each argument reads behind the call as it read before'; 0 by the template 'total and deterministic' (their statements: YtplpogonkfnafaaTotals.lean).
  GIVEN WITH THE SEED: the statements are not yours to turn. If you find one false, say at which input.
  Laid BY PROGRAM, IN A SANDBOX (cutbox-rows.mjs): the forced cells as the released guide's own fill.sh prints them over the translation 4b6f2043cbfe1470… (all of the seat's roots in one cut). By AI agents, Wed Nov 11 2026. No macro, syntax, notation, axiom, sorry.
-/
import Derived.Test.YtplpogonkfnafaaChecked
import GoSem.Claim
import GoSem.ClaimJoined
import GoSem.ClaimMapViews
import Derived.JoinedTies
import Derived.KernelRfl
namespace Go.Proofs.Ytplpogonkfnafaa
/- THE CELL 'sum', in the pinned program and in every row, IS THE sha256 OF THE DUMP (.gsa) THAT YtplpogonkfnafaaProg.lean LOADS. Nothing in Lean hashes anything: it is a label: what it is worth is what the hold of that sum in a sandbox is worth. -/
noncomputable def Try.pinned : Pinned := { name := "ytplpogonkfnafaa", sum := "4b6f2043cbfe1470cbe1c191dcc0208f49d59c7eb4f6f4af60f2d478387b853d", checked := Try.checked }
namespace Rows
def none {H : Type} : Left H := { results := [], args := [] }

/-- 'noctuarylaw02.NamesVersions': WHATEVER THE INPUT: true; the input reads as it did. -/
def namesVersionsSpec : ChangeSpec := { name := "namesVersions", fn := fun _ => fun
  | [d1, d2] => { results := [.lit (.bool true)], args := [d1, d2] }
  | _ => none }
def namesVersionsRow : OpenClaim := { program := "ytplpogonkfnafaa", sum := "4b6f2043cbfe1470cbe1c191dcc0208f49d59c7eb4f6f4af60f2d478387b853d", func := "noctuary/noctuarylaw02.NamesVersions", spec := "namesVersions", unfollowed := true, recurses := true, apart := false }
def NamesVersionsSaid : Prop := namesVersionsRow.holds Try.pinned (OpenSpec.ofChange namesVersionsSpec)

/-- ITS FALSE NEIGHBOUR: 'it returns false'. Refute it at one input. -/
def namesVersionsWrong : ChangeSpec := { name := "namesVersions", fn := fun _ => fun
  | [d1, d2] => { results := [.lit (.bool false)], args := [d1, d2] }
  | _ => none }
def NamesVersionsWrongFalsely : Prop := namesVersionsRow.holds Try.pinned (OpenSpec.ofChange namesVersionsWrong)

/-- 'noctuarylaw02.NamesFates': WHATEVER THE INPUT: true; the input reads as it did. -/
def namesFatesSpec : ChangeSpec := { name := "namesFates", fn := fun _ => fun
  | [d1, d2] => { results := [.lit (.bool true)], args := [d1, d2] }
  | _ => none }
def namesFatesRow : OpenClaim := { program := "ytplpogonkfnafaa", sum := "4b6f2043cbfe1470cbe1c191dcc0208f49d59c7eb4f6f4af60f2d478387b853d", func := "noctuary/noctuarylaw02.NamesFates", spec := "namesFates", unfollowed := true, recurses := true, apart := false }
def NamesFatesSaid : Prop := namesFatesRow.holds Try.pinned (OpenSpec.ofChange namesFatesSpec)

/-- ITS FALSE NEIGHBOUR: 'it returns false'. Refute it at one input. -/
def namesFatesWrong : ChangeSpec := { name := "namesFates", fn := fun _ => fun
  | [d1, d2] => { results := [.lit (.bool false)], args := [d1, d2] }
  | _ => none }
def NamesFatesWrongFalsely : Prop := namesFatesRow.holds Try.pinned (OpenSpec.ofChange namesFatesWrong)

/-- 'noctuarylaw02.NamesMeans': WHATEVER THE INPUT: true; the input reads as it did. -/
def namesMeansSpec : ChangeSpec := { name := "namesMeans", fn := fun _ => fun
  | [d1, d2] => { results := [.lit (.bool true)], args := [d1, d2] }
  | _ => none }
def namesMeansRow : OpenClaim := { program := "ytplpogonkfnafaa", sum := "4b6f2043cbfe1470cbe1c191dcc0208f49d59c7eb4f6f4af60f2d478387b853d", func := "noctuary/noctuarylaw02.NamesMeans", spec := "namesMeans", unfollowed := true, recurses := true, apart := false }
def NamesMeansSaid : Prop := namesMeansRow.holds Try.pinned (OpenSpec.ofChange namesMeansSpec)

/-- ITS FALSE NEIGHBOUR: 'it returns false'. Refute it at one input. -/
def namesMeansWrong : ChangeSpec := { name := "namesMeans", fn := fun _ => fun
  | [d1, d2] => { results := [.lit (.bool false)], args := [d1, d2] }
  | _ => none }
def NamesMeansWrongFalsely : Prop := namesMeansRow.holds Try.pinned (OpenSpec.ofChange namesMeansWrong)

/-- 'noctuarylaw02.NamesChanges': WHATEVER THE INPUT: true; the input reads as it did. -/
def namesChangesSpec : ChangeSpec := { name := "namesChanges", fn := fun _ => fun
  | [d1, d2, d3] => { results := [.lit (.bool true)], args := [d1, d2, d3] }
  | _ => none }
def namesChangesRow : OpenClaim := { program := "ytplpogonkfnafaa", sum := "4b6f2043cbfe1470cbe1c191dcc0208f49d59c7eb4f6f4af60f2d478387b853d", func := "noctuary/noctuarylaw02.NamesChanges", spec := "namesChanges", unfollowed := true, recurses := true, apart := false }
def NamesChangesSaid : Prop := namesChangesRow.holds Try.pinned (OpenSpec.ofChange namesChangesSpec)

/-- ITS FALSE NEIGHBOUR: 'it returns false'. Refute it at one input. -/
def namesChangesWrong : ChangeSpec := { name := "namesChanges", fn := fun _ => fun
  | [d1, d2, d3] => { results := [.lit (.bool false)], args := [d1, d2, d3] }
  | _ => none }
def NamesChangesWrongFalsely : Prop := namesChangesRow.holds Try.pinned (OpenSpec.ofChange namesChangesWrong)

/-- 'noctuarylaw02.NamesAllFates': WHATEVER THE INPUT: true; the input reads as it did. -/
def namesAllFatesSpec : ChangeSpec := { name := "namesAllFates", fn := fun _ => fun
  | [d1, d2] => { results := [.lit (.bool true)], args := [d1, d2] }
  | _ => none }
def namesAllFatesRow : OpenClaim := { program := "ytplpogonkfnafaa", sum := "4b6f2043cbfe1470cbe1c191dcc0208f49d59c7eb4f6f4af60f2d478387b853d", func := "noctuary/noctuarylaw02.NamesAllFates", spec := "namesAllFates", unfollowed := true, recurses := true, apart := false }
def NamesAllFatesSaid : Prop := namesAllFatesRow.holds Try.pinned (OpenSpec.ofChange namesAllFatesSpec)

/-- ITS FALSE NEIGHBOUR: 'it returns false'. Refute it at one input. -/
def namesAllFatesWrong : ChangeSpec := { name := "namesAllFates", fn := fun _ => fun
  | [d1, d2] => { results := [.lit (.bool false)], args := [d1, d2] }
  | _ => none }
def NamesAllFatesWrongFalsely : Prop := namesAllFatesRow.holds Try.pinned (OpenSpec.ofChange namesAllFatesWrong)

/-- 'noctuarylaw02.NamesComposes': WHATEVER THE INPUT: true; the input reads as it did. -/
def namesComposesSpec : ChangeSpec := { name := "namesComposes", fn := fun _ => fun
  | [d1, d2, d3, d4] => { results := [.lit (.bool true)], args := [d1, d2, d3, d4] }
  | _ => none }
def namesComposesRow : OpenClaim := { program := "ytplpogonkfnafaa", sum := "4b6f2043cbfe1470cbe1c191dcc0208f49d59c7eb4f6f4af60f2d478387b853d", func := "noctuary/noctuarylaw02.NamesComposes", spec := "namesComposes", unfollowed := true, recurses := true, apart := false }
def NamesComposesSaid : Prop := namesComposesRow.holds Try.pinned (OpenSpec.ofChange namesComposesSpec)

/-- ITS FALSE NEIGHBOUR: 'it returns false'. Refute it at one input. -/
def namesComposesWrong : ChangeSpec := { name := "namesComposes", fn := fun _ => fun
  | [d1, d2, d3, d4] => { results := [.lit (.bool false)], args := [d1, d2, d3, d4] }
  | _ => none }
def NamesComposesWrongFalsely : Prop := namesComposesRow.holds Try.pinned (OpenSpec.ofChange namesComposesWrong)

/-- 'noctuarylaw02.NamesTurns': WHATEVER THE INPUT: true; the input reads as it did. -/
def namesTurnsSpec : ChangeSpec := { name := "namesTurns", fn := fun _ => fun
  | [d1, d2, d3] => { results := [.lit (.bool true)], args := [d1, d2, d3] }
  | _ => none }
def namesTurnsRow : OpenClaim := { program := "ytplpogonkfnafaa", sum := "4b6f2043cbfe1470cbe1c191dcc0208f49d59c7eb4f6f4af60f2d478387b853d", func := "noctuary/noctuarylaw02.NamesTurns", spec := "namesTurns", unfollowed := true, recurses := true, apart := false }
def NamesTurnsSaid : Prop := namesTurnsRow.holds Try.pinned (OpenSpec.ofChange namesTurnsSpec)

/-- ITS FALSE NEIGHBOUR: 'it returns false'. Refute it at one input. -/
def namesTurnsWrong : ChangeSpec := { name := "namesTurns", fn := fun _ => fun
  | [d1, d2, d3] => { results := [.lit (.bool false)], args := [d1, d2, d3] }
  | _ => none }
def NamesTurnsWrongFalsely : Prop := namesTurnsRow.holds Try.pinned (OpenSpec.ofChange namesTurnsWrong)

/-- 'noctuarylaw02.NamesRelates': WHATEVER THE INPUT: true; the input reads as it did. -/
def namesRelatesSpec : ChangeSpec := { name := "namesRelates", fn := fun _ => fun
  | [d1, d2] => { results := [.lit (.bool true)], args := [d1, d2] }
  | _ => none }
def namesRelatesRow : OpenClaim := { program := "ytplpogonkfnafaa", sum := "4b6f2043cbfe1470cbe1c191dcc0208f49d59c7eb4f6f4af60f2d478387b853d", func := "noctuary/noctuarylaw02.NamesRelates", spec := "namesRelates", unfollowed := true, recurses := true, apart := false }
def NamesRelatesSaid : Prop := namesRelatesRow.holds Try.pinned (OpenSpec.ofChange namesRelatesSpec)

/-- ITS FALSE NEIGHBOUR: 'it returns false'. Refute it at one input. -/
def namesRelatesWrong : ChangeSpec := { name := "namesRelates", fn := fun _ => fun
  | [d1, d2] => { results := [.lit (.bool false)], args := [d1, d2] }
  | _ => none }
def NamesRelatesWrongFalsely : Prop := namesRelatesRow.holds Try.pinned (OpenSpec.ofChange namesRelatesWrong)

/-- 'noctuarylaw02.NamesExact': WHATEVER THE INPUT: true; the input reads as it did. -/
def namesExactSpec : ChangeSpec := { name := "namesExact", fn := fun _ => fun
  | [d1, d2] => { results := [.lit (.bool true)], args := [d1, d2] }
  | _ => none }
def namesExactRow : OpenClaim := { program := "ytplpogonkfnafaa", sum := "4b6f2043cbfe1470cbe1c191dcc0208f49d59c7eb4f6f4af60f2d478387b853d", func := "noctuary/noctuarylaw02.NamesExact", spec := "namesExact", unfollowed := true, recurses := true, apart := false }
def NamesExactSaid : Prop := namesExactRow.holds Try.pinned (OpenSpec.ofChange namesExactSpec)

/-- ITS FALSE NEIGHBOUR: 'it returns false'. Refute it at one input. -/
def namesExactWrong : ChangeSpec := { name := "namesExact", fn := fun _ => fun
  | [d1, d2] => { results := [.lit (.bool false)], args := [d1, d2] }
  | _ => none }
def NamesExactWrongFalsely : Prop := namesExactRow.holds Try.pinned (OpenSpec.ofChange namesExactWrong)

/-- 'noctuarylaw02.NamesApplies': WHATEVER THE INPUT: true; the input reads as it did. -/
def namesAppliesSpec : ChangeSpec := { name := "namesApplies", fn := fun _ => fun
  | [d1, d2, d3] => { results := [.lit (.bool true)], args := [d1, d2, d3] }
  | _ => none }
def namesAppliesRow : OpenClaim := { program := "ytplpogonkfnafaa", sum := "4b6f2043cbfe1470cbe1c191dcc0208f49d59c7eb4f6f4af60f2d478387b853d", func := "noctuary/noctuarylaw02.NamesApplies", spec := "namesApplies", unfollowed := true, recurses := true, apart := false }
def NamesAppliesSaid : Prop := namesAppliesRow.holds Try.pinned (OpenSpec.ofChange namesAppliesSpec)

/-- ITS FALSE NEIGHBOUR: 'it returns false'. Refute it at one input. -/
def namesAppliesWrong : ChangeSpec := { name := "namesApplies", fn := fun _ => fun
  | [d1, d2, d3] => { results := [.lit (.bool false)], args := [d1, d2, d3] }
  | _ => none }
def NamesAppliesWrongFalsely : Prop := namesAppliesRow.holds Try.pinned (OpenSpec.ofChange namesAppliesWrong)

/-- 'noctuarylaw02.NamesChains': WHATEVER THE INPUT: true; the input reads as it did. -/
def namesChainsSpec : ChangeSpec := { name := "namesChains", fn := fun _ => fun
  | [d1, d2] => { results := [.lit (.bool true)], args := [d1, d2] }
  | _ => none }
def namesChainsRow : OpenClaim := { program := "ytplpogonkfnafaa", sum := "4b6f2043cbfe1470cbe1c191dcc0208f49d59c7eb4f6f4af60f2d478387b853d", func := "noctuary/noctuarylaw02.NamesChains", spec := "namesChains", unfollowed := true, recurses := true, apart := false }
def NamesChainsSaid : Prop := namesChainsRow.holds Try.pinned (OpenSpec.ofChange namesChainsSpec)

/-- ITS FALSE NEIGHBOUR: 'it returns false'. Refute it at one input. -/
def namesChainsWrong : ChangeSpec := { name := "namesChains", fn := fun _ => fun
  | [d1, d2] => { results := [.lit (.bool false)], args := [d1, d2] }
  | _ => none }
def NamesChainsWrongFalsely : Prop := namesChainsRow.holds Try.pinned (OpenSpec.ofChange namesChainsWrong)

/- THE SECOND FORM. 'bulk': how many values and letters a reading holds, each counted each time it is reached (what is shared counts as often as it is met; a slice's spare places count too). A statement '..UptoSaid' is the law's where the arguments, and the package variables that the reading takes, are together of bulk at most 1048576: NARROWER than '..Said'. Prove '..Said' where nothing that the law and all that it calls make is longer than what came in: it says more and counts as full. Else prove '..UptoSaid'. A law counts once. -/
mutual
def uptoBulk {H : Type} : DataW H → Nat
  | .lit (.string bytes) => bytes.length + 1
  | .lit _ => 1
  | .nil => 1
  | .ptr d => uptoBulk d + 1
  | .slice elems spare => uptoBulkAll elems + uptoBulkAll spare + 1
  | .agg parts => uptoBulkAll parts + 1
  | .iface _ d => uptoBulk d + 1
  | .map entries => uptoBulkEntries entries + 1
  | .held _ => 1
def uptoBulkAll {H : Type} : List (DataW H) → Nat
  | [] => 0
  | d :: r => uptoBulk d + uptoBulkAll r
def uptoBulkEntries {H : Type} : List (Lit × DataW H) → Nat
  | [] => 0
  | x :: r => uptoBulkEntry x + uptoBulkEntries r
def uptoBulkEntry {H : Type} : Lit × DataW H → Nat
  | (.string bytes, d) => bytes.length + uptoBulk d + 1
  | (_, d) => uptoBulk d + 1
 end
def uptoSmall : (H : Type) → List (DataW H) → Bool := fun _ ds => decide (uptoBulkAll ds ≤ 1048576)
def OpenSpec.upto (s : _root_.Go.ChangeSpec) : _root_.Go.OpenSpec := { _root_.Go.OpenSpec.ofChange s with cond := some uptoSmall }

/-- 'noctuarylaw02.NamesVersions', WHERE WHAT IT READS IS OF BULK AT MOST 1048576: true; the input reads as it did. -/
def namesVersionsUptoRow : OpenClaim := { program := "ytplpogonkfnafaa", sum := "4b6f2043cbfe1470cbe1c191dcc0208f49d59c7eb4f6f4af60f2d478387b853d", func := "noctuary/noctuarylaw02.NamesVersions", spec := "namesVersions", unfollowed := true, recurses := true, apart := false, narrowed := true }
def NamesVersionsUptoSaid : Prop := namesVersionsUptoRow.holds Try.pinned (OpenSpec.upto namesVersionsSpec)

/-- 'noctuarylaw02.NamesFates', WHERE WHAT IT READS IS OF BULK AT MOST 1048576: true; the input reads as it did. -/
def namesFatesUptoRow : OpenClaim := { program := "ytplpogonkfnafaa", sum := "4b6f2043cbfe1470cbe1c191dcc0208f49d59c7eb4f6f4af60f2d478387b853d", func := "noctuary/noctuarylaw02.NamesFates", spec := "namesFates", unfollowed := true, recurses := true, apart := false, narrowed := true }
def NamesFatesUptoSaid : Prop := namesFatesUptoRow.holds Try.pinned (OpenSpec.upto namesFatesSpec)

/-- 'noctuarylaw02.NamesMeans', WHERE WHAT IT READS IS OF BULK AT MOST 1048576: true; the input reads as it did. -/
def namesMeansUptoRow : OpenClaim := { program := "ytplpogonkfnafaa", sum := "4b6f2043cbfe1470cbe1c191dcc0208f49d59c7eb4f6f4af60f2d478387b853d", func := "noctuary/noctuarylaw02.NamesMeans", spec := "namesMeans", unfollowed := true, recurses := true, apart := false, narrowed := true }
def NamesMeansUptoSaid : Prop := namesMeansUptoRow.holds Try.pinned (OpenSpec.upto namesMeansSpec)

/-- 'noctuarylaw02.NamesChanges', WHERE WHAT IT READS IS OF BULK AT MOST 1048576: true; the input reads as it did. -/
def namesChangesUptoRow : OpenClaim := { program := "ytplpogonkfnafaa", sum := "4b6f2043cbfe1470cbe1c191dcc0208f49d59c7eb4f6f4af60f2d478387b853d", func := "noctuary/noctuarylaw02.NamesChanges", spec := "namesChanges", unfollowed := true, recurses := true, apart := false, narrowed := true }
def NamesChangesUptoSaid : Prop := namesChangesUptoRow.holds Try.pinned (OpenSpec.upto namesChangesSpec)

/-- 'noctuarylaw02.NamesAllFates', WHERE WHAT IT READS IS OF BULK AT MOST 1048576: true; the input reads as it did. -/
def namesAllFatesUptoRow : OpenClaim := { program := "ytplpogonkfnafaa", sum := "4b6f2043cbfe1470cbe1c191dcc0208f49d59c7eb4f6f4af60f2d478387b853d", func := "noctuary/noctuarylaw02.NamesAllFates", spec := "namesAllFates", unfollowed := true, recurses := true, apart := false, narrowed := true }
def NamesAllFatesUptoSaid : Prop := namesAllFatesUptoRow.holds Try.pinned (OpenSpec.upto namesAllFatesSpec)

/-- 'noctuarylaw02.NamesComposes', WHERE WHAT IT READS IS OF BULK AT MOST 1048576: true; the input reads as it did. -/
def namesComposesUptoRow : OpenClaim := { program := "ytplpogonkfnafaa", sum := "4b6f2043cbfe1470cbe1c191dcc0208f49d59c7eb4f6f4af60f2d478387b853d", func := "noctuary/noctuarylaw02.NamesComposes", spec := "namesComposes", unfollowed := true, recurses := true, apart := false, narrowed := true }
def NamesComposesUptoSaid : Prop := namesComposesUptoRow.holds Try.pinned (OpenSpec.upto namesComposesSpec)

/-- 'noctuarylaw02.NamesTurns', WHERE WHAT IT READS IS OF BULK AT MOST 1048576: true; the input reads as it did. -/
def namesTurnsUptoRow : OpenClaim := { program := "ytplpogonkfnafaa", sum := "4b6f2043cbfe1470cbe1c191dcc0208f49d59c7eb4f6f4af60f2d478387b853d", func := "noctuary/noctuarylaw02.NamesTurns", spec := "namesTurns", unfollowed := true, recurses := true, apart := false, narrowed := true }
def NamesTurnsUptoSaid : Prop := namesTurnsUptoRow.holds Try.pinned (OpenSpec.upto namesTurnsSpec)

/-- 'noctuarylaw02.NamesRelates', WHERE WHAT IT READS IS OF BULK AT MOST 1048576: true; the input reads as it did. -/
def namesRelatesUptoRow : OpenClaim := { program := "ytplpogonkfnafaa", sum := "4b6f2043cbfe1470cbe1c191dcc0208f49d59c7eb4f6f4af60f2d478387b853d", func := "noctuary/noctuarylaw02.NamesRelates", spec := "namesRelates", unfollowed := true, recurses := true, apart := false, narrowed := true }
def NamesRelatesUptoSaid : Prop := namesRelatesUptoRow.holds Try.pinned (OpenSpec.upto namesRelatesSpec)

/-- 'noctuarylaw02.NamesExact', WHERE WHAT IT READS IS OF BULK AT MOST 1048576: true; the input reads as it did. -/
def namesExactUptoRow : OpenClaim := { program := "ytplpogonkfnafaa", sum := "4b6f2043cbfe1470cbe1c191dcc0208f49d59c7eb4f6f4af60f2d478387b853d", func := "noctuary/noctuarylaw02.NamesExact", spec := "namesExact", unfollowed := true, recurses := true, apart := false, narrowed := true }
def NamesExactUptoSaid : Prop := namesExactUptoRow.holds Try.pinned (OpenSpec.upto namesExactSpec)

/-- 'noctuarylaw02.NamesApplies', WHERE WHAT IT READS IS OF BULK AT MOST 1048576: true; the input reads as it did. -/
def namesAppliesUptoRow : OpenClaim := { program := "ytplpogonkfnafaa", sum := "4b6f2043cbfe1470cbe1c191dcc0208f49d59c7eb4f6f4af60f2d478387b853d", func := "noctuary/noctuarylaw02.NamesApplies", spec := "namesApplies", unfollowed := true, recurses := true, apart := false, narrowed := true }
def NamesAppliesUptoSaid : Prop := namesAppliesUptoRow.holds Try.pinned (OpenSpec.upto namesAppliesSpec)

/-- 'noctuarylaw02.NamesChains', WHERE WHAT IT READS IS OF BULK AT MOST 1048576: true; the input reads as it did. -/
def namesChainsUptoRow : OpenClaim := { program := "ytplpogonkfnafaa", sum := "4b6f2043cbfe1470cbe1c191dcc0208f49d59c7eb4f6f4af60f2d478387b853d", func := "noctuary/noctuarylaw02.NamesChains", spec := "namesChains", unfollowed := true, recurses := true, apart := false, narrowed := true }
def NamesChainsUptoSaid : Prop := namesChainsUptoRow.holds Try.pinned (OpenSpec.upto namesChainsSpec)

end Rows
end Go.Proofs.Ytplpogonkfnafaa
