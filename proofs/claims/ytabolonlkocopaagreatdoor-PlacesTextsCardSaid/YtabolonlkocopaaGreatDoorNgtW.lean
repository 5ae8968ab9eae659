
/- PlacesNights: the walk. -/
import Derived.Test.YtabolonlkocopaaGreatDoorRnt
import Derived.Test.YtabolonlkocopaaGreatDoorSquW
namespace Go.Proofs.YtabolonlkocopaaGreatDoor
open Go.RowKit Go.Plc

def daO (y m d : Int) : Obj := .cells #[.int .i64 y, .int .i64 m, .int .i64 d] 48
theorem date_has {n : Int} (w : World) (h0 : 0 ≤ n) (h1 : n ≤ 100000) : ∃ y m d, vdate y m d = true ∧ num y m d = n := by
  obtain ⟨e, w', fr, ⟨y, m, d, _, hv, hn, _⟩, _⟩ := rdate_any n w h0 h1 []
  exact ⟨y, m, d, hv, hn⟩
end Go.Proofs.YtabolonlkocopaaGreatDoor
