
/- PlacesDates: the walk. -/
import Derived.Test.YtabolonlkocopaaGreatDoorAwk
namespace Go.Proofs.YtabolonlkocopaaGreatDoor
open Go.RowKit Go.Plc

theorem nightE_cases (y m d : Int) : (vdate y m d = true ∧ num y m d ≤ 99999 ∧ nightV y m d = num y m d ∧ nightE y m d = 0) ∨ (nightE y m d != 0) = true := by
  unfold nightV nightE
  by_cases h : vdate y m d = true
  · by_cases h2 : num y m d > 99999
    · right; simp [h, h2]
    · left; simp only [h, h2, if_true, if_false]; exact ⟨trivial, by omega, trivial, trivial⟩
  · right; simp [h]

end Go.Proofs.YtabolonlkocopaaGreatDoor
