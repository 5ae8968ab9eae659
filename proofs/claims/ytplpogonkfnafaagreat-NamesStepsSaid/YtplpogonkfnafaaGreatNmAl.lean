
/- All. -/
import Derived.Test.YtplpogonkfnafaaGreatNmBg
namespace Go.Proofs.YtplpogonkfnafaaGreat
open Go.RowKit Go.Nm

theorem two_sl (w : World) (x y : Int) : InSl (w.alloc (.cells #[.int .i64 x, .int .i64 y] 3)) (w.alloc (.cells #[.int .i64 x, .int .i64 y] 3)).heap.size (.slice (some ⟨w.heap.size, 0, none⟩) 2 2) [x, y] := by
  obtain ⟨k0, k1⟩ := cells_two (World.alloc_heap_new w (.cells #[.int .i64 x, .int .i64 y] 3))
  refine ⟨some ⟨w.heap.size, 0, none⟩, 2, rfl, Nat.le_refl _, by unfold maxLen; omega, fun i z hz => ?_⟩
  have hi : i = 0 ∨ i = 1 := by have := (List.getElem?_eq_some_iff.1 hz).1; simp at this; omega
  rcases hi with rfl | rfl
  · injection hz with hz; subst hz
    exact ⟨_, rfl, by simp, by rw [add_zero']; exact k0⟩
  · injection hz with hz; subst hz
    exact ⟨_, rfl, by simp, by rw [off_add]; exact k1⟩
def allOut (b : Bk) (n : Int) (l : List Int) (m : Int) : List Int × Int := if openE b [n, m] = 0 then (if decide (Inc l) = true then (if decide (wo l ((vers b).getD n.toNat []) = []) = true then (mns b.chs n.toNat l m.toNat, 0) else ([], 22)) else ([], 1)) else ([], openE b [n, m])
end Go.Proofs.YtplpogonkfnafaaGreat
