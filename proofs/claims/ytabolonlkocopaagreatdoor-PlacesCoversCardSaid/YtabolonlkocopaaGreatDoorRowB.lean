
/- What the proofs of the rows share: what the listed variables give; the last step. -/
import Derived.Test.YtabolonlkocopaaGreatDoorRows
import Derived.Test.YtabolonlkocopaaGreatDoorTie
import Derived.Test.YtabolonlkocopaaGreatDoorCards
import Derived.Test.YtabolonlkocopaaGreatDoorAwk
import Derived.ProofKit
import Derived.LaidMore
import Derived.OpenShut
import Derived.Stop.Joined
import Derived.Stop.LaidErr
import Derived.Lib.LaidTab
import Derived.Lib.SmallJoins
import Derived.Below
import Derived.SevenTiedAt
namespace Go.Proofs.YtabolonlkocopaaGreatDoor
open Go.ChangeShapes Go.WideShapes Go.RowKit Go.Plc

theorem ownKnobNone : ownKnob Tryz.prog.godebug = none := by kernel_rfl
noncomputable abbrev laid4 : List (String × DataW Unit) := [("math/bits.deBruijn32tab", Rows.laid_math_bits_deBruijn32tab), ("math/bits.deBruijn64tab", Rows.laid_math_bits_deBruijn64tab), ("internal/strconv.uint64pow10", Rows.laid_internal_strconv_uint64pow10), ("noctuary/places.monthDays", Rows.laid_noctuary_places_monthDays)]
theorem door_met (os : Os) (args : Array Value) : laidMetH Tryz.prog laid4 ((World.doorLaid Tryz.prog 400 os).forCall (fun _ _ => 0) ⟨#[], args, []⟩).memory :=
  laidMetH_of_parts3 (fuel := 8) (laidMet_of_run' 8 (by kernel_rfl) (by kernel_rfl)) (by kernel_rfl) (by kernel_rfl)
theorem of_laid {W : World} (h : laidMetH Tryz.prog laid4 W) : MonthDays W ∧ TabW W := by
  rw [MakeChecks.laidMetH_plain _ _ _ (by kernel_rfl)] at h
  have h3 := h.tail.tail
  have hp : TabW W := Lib.tabIs_of_head (g := 1) (t := 137) (e := 121) (by kernel_rfl) (by kernel_rfl) Tryz.underlying137 Tryz.underlying121 (by kernel_rfl) (by kernel_rfl) h3
  have hm : Lib.TabIs Tryz.prog W "noctuary/places.monthDays" .i64 [31, 29, 31, 30, 31, 30, 31, 31, 30, 31, 30, 31] := Lib.tabIs_of_head (g := 0) (t := 108) (e := 3) (by kernel_rfl) (by kernel_rfl) Tryz.underlying108 Tryz.underlying3 (by kernel_rfl) (by kernel_rfl) h3.tail
  refine ⟨fun m hlt => ?_, hp⟩
  rw [hm.cell (by kernel_rfl) m (by simpa using hlt)]
  have : m = 0 ∨ m = 1 ∨ m = 2 ∨ m = 3 ∨ m = 4 ∨ m = 5 ∨ m = 6 ∨ m = 7 ∨ m = 8 ∨ m = 9 ∨ m = 10 ∨ m = 11 := by omega
  rcases this with rfl | rfl | rfl | rfl | rfl | rfl | rfl | rfl | rfl | rfl | rfl | rfl <;> rfl
/-- the last step: the law has answered true, and the arguments read as they read -/
theorem law_post {H : Type} {enc : TypeId × Value → H} {P : Program} {f : Func} {s : ChangeSpec} {W W' : World} {args : Array Value} {v : Value} {ds : List (DataW H)} {before : List MemPlace} (hW : DataW.Whole enc P f.params.toList s.vars false W args.toList ds [] before)
    (hres : DataW.TrodAll enc P W' W.heap.size (fun _ => false) false f.resultTypes.toList (v.resultList f.resultTypes.size) (s.fn H (ds ++ [])).results [])
    (hargs : DataW.TrodAll enc P W' 0 (fun b => decide (b < W.heap.size)) true f.params.toList args.toList (s.fn H (ds ++ [])).args before)
    (hvars : DataW.TrodVars enc P W' (fun b => decide (b < W.heap.size)) s.vars (s.fn H (ds ++ [])).vars []) (hb : Below W.heap.size W W') : s.post enc P f false true false false W args v W' :=
  ⟨ds, [], before, [], before, [], hW, hres, hargs, hvars, World.keptBut_mono (fun _ hp => ⟨hp, .inr (.inl hp)⟩) (hb.frame (· ∈ before)), fun h => by cases h⟩
end Go.Proofs.YtabolonlkocopaaGreatDoor
