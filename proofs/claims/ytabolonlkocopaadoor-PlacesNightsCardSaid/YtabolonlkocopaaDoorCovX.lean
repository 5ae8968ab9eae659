/- What makes new memory: the children of a square, the cover of a list. -/
import Derived.Test.YtabolonlkocopaaDoorCovW
namespace Go.Proofs.YtabolonlkocopaaDoor
open Go.RowKit Go.Plc

/-! children: a new slice of four squares -/
/-- the slice value holds the squares L, in a block from B on -/
def NewSqs (B : Nat) (w : World) (v : Value) (L : List Sq) : Prop :=
  ∃ g c, v = .slice (some ⟨g, 0, none⟩) L.length c ∧ B ≤ g ∧ g < w.heap.size ∧ ∀ (i : Nat) (s : Sq), L[i]? = some s → w.cell? ⟨g, i * 3, none⟩ = some (.int .i64 s.l) ∧ w.cell? ⟨g, i * 3 + 1, none⟩ = some (.int .i64 s.x) ∧ w.cell? ⟨g, i * 3 + 2, none⟩ = some (.int .i64 s.y)

set_option maxHeartbeats 400000 in
theorem children_any (s : Sq) (w : World) (h : s.okB = true) (h0 : 1 ≤ s.l) :
    Calls Tryd.prog 54 #[sqv s] w fun e w' => ∃ v, e = .returned v ∧ NewSqs w.heap.size w' v (kidsS s) ∧ Below w.heap.size w w' := by
  obtain ⟨h1, h2, h3, h4, h5, h6⟩ := (Sq.okB_iff s).1 h
  have hs := side_le s.l h1
  unfold sqv
  go_enter Tryd.func54, Tryd.ntmps54
  go_wp2_with fail
  go_region
  go_wp2_with fail
  go_ret
  refine ⟨_, rfl, ⟨w.heap.size + 1, 4, rfl, by omega, by simp, ?_⟩, by (repeat (first | exact Below.refl _ _ | refine Below.drew ?_ | refine below_drewN ?_ _ | refine Below.alloc ?_ (by simp; try omega) _ | refine Below.setCell ?_ (by simp; try omega) _))⟩
  unfold kidsS
  intro i t hi
  match i, hi with
  | 0, hi => simp at hi; subst hi; simp
  | 1, hi => simp at hi; subst hi; simp
  | 2, hi => simp at hi; subst hi; simp
  | 3, hi => simp at hi; subst hi; simp
end Go.Proofs.YtabolonlkocopaaDoor
