/- size and row. -/
import Derived.Test.YtabolonlkocopaaDoorCovB
namespace Go.Proofs.YtabolonlkocopaaDoor
open Go.RowKit Go.Plc

theorem lvl_sum {C : List Sq} (h : ∀ s ∈ C, s.okB = true) : (lvlOf C 0).length + (lvlOf C 1).length + (lvlOf C 2).length + (lvlOf C 3).length + (lvlOf C 4).length + (lvlOf C 5).length + (lvlOf C 6).length + (lvlOf C 7).length + (lvlOf C 8).length + (lvlOf C 9).length + (lvlOf C 10).length = C.length := by
  induction C with
  | nil => rfl
  | cons s r ih =>
    have ih := ih fun t ht => h t (by simp [ht])
    obtain ⟨h1, h2, _⟩ := (Sq.okB_iff s).1 (h s (by simp))
    have step : ∀ i : Nat, (lvlOf (s :: r) i).length = (lvlOf r i).length + if s.l = (i : Int) then 1 else 0 := fun i => by
      unfold lvlOf; rw [List.filter_cons]; split <;> simp_all
    simp only [step, List.length_cons]
    obtain ⟨l, x, y⟩ := s
    dsimp only at *
    rcases lvl l h1 h2 with rfl | rfl | rfl | rfl | rfl | rfl | rfl | rfl | rfl | rfl | rfl <;> simp <;> omega
theorem lvl_le (C : List Sq) (i : Nat) : (lvlOf C i).length ≤ C.length := List.length_filter_le _ _

theorem covIx0 (b : Nat → Nat) (w : World) : (Instr.index 84 (.agg #[.map (some (b 0)), .map (some (b 1)), .map (some (b 2)), .map (some (b 3)), .map (some (b 4)), .map (some (b 5)), .map (some (b 6)), .map (some (b 7)), .map (some (b 8)), .map (some (b 9)), .map (some (b 10))]) (.int .i64 0)).run Tryd.prog w = .ok (.map (some (b 0))) w := by kernel_rfl
theorem covIx1 (b : Nat → Nat) (w : World) : (Instr.index 84 (.agg #[.map (some (b 0)), .map (some (b 1)), .map (some (b 2)), .map (some (b 3)), .map (some (b 4)), .map (some (b 5)), .map (some (b 6)), .map (some (b 7)), .map (some (b 8)), .map (some (b 9)), .map (some (b 10))]) (.int .i64 1)).run Tryd.prog w = .ok (.map (some (b 1))) w := by kernel_rfl
theorem covIx2 (b : Nat → Nat) (w : World) : (Instr.index 84 (.agg #[.map (some (b 0)), .map (some (b 1)), .map (some (b 2)), .map (some (b 3)), .map (some (b 4)), .map (some (b 5)), .map (some (b 6)), .map (some (b 7)), .map (some (b 8)), .map (some (b 9)), .map (some (b 10))]) (.int .i64 2)).run Tryd.prog w = .ok (.map (some (b 2))) w := by kernel_rfl
theorem covIx3 (b : Nat → Nat) (w : World) : (Instr.index 84 (.agg #[.map (some (b 0)), .map (some (b 1)), .map (some (b 2)), .map (some (b 3)), .map (some (b 4)), .map (some (b 5)), .map (some (b 6)), .map (some (b 7)), .map (some (b 8)), .map (some (b 9)), .map (some (b 10))]) (.int .i64 3)).run Tryd.prog w = .ok (.map (some (b 3))) w := by kernel_rfl
theorem covIx4 (b : Nat → Nat) (w : World) : (Instr.index 84 (.agg #[.map (some (b 0)), .map (some (b 1)), .map (some (b 2)), .map (some (b 3)), .map (some (b 4)), .map (some (b 5)), .map (some (b 6)), .map (some (b 7)), .map (some (b 8)), .map (some (b 9)), .map (some (b 10))]) (.int .i64 4)).run Tryd.prog w = .ok (.map (some (b 4))) w := by kernel_rfl
theorem covIx5 (b : Nat → Nat) (w : World) : (Instr.index 84 (.agg #[.map (some (b 0)), .map (some (b 1)), .map (some (b 2)), .map (some (b 3)), .map (some (b 4)), .map (some (b 5)), .map (some (b 6)), .map (some (b 7)), .map (some (b 8)), .map (some (b 9)), .map (some (b 10))]) (.int .i64 5)).run Tryd.prog w = .ok (.map (some (b 5))) w := by kernel_rfl
theorem covIx6 (b : Nat → Nat) (w : World) : (Instr.index 84 (.agg #[.map (some (b 0)), .map (some (b 1)), .map (some (b 2)), .map (some (b 3)), .map (some (b 4)), .map (some (b 5)), .map (some (b 6)), .map (some (b 7)), .map (some (b 8)), .map (some (b 9)), .map (some (b 10))]) (.int .i64 6)).run Tryd.prog w = .ok (.map (some (b 6))) w := by kernel_rfl
theorem covIx7 (b : Nat → Nat) (w : World) : (Instr.index 84 (.agg #[.map (some (b 0)), .map (some (b 1)), .map (some (b 2)), .map (some (b 3)), .map (some (b 4)), .map (some (b 5)), .map (some (b 6)), .map (some (b 7)), .map (some (b 8)), .map (some (b 9)), .map (some (b 10))]) (.int .i64 7)).run Tryd.prog w = .ok (.map (some (b 7))) w := by kernel_rfl
theorem covIx8 (b : Nat → Nat) (w : World) : (Instr.index 84 (.agg #[.map (some (b 0)), .map (some (b 1)), .map (some (b 2)), .map (some (b 3)), .map (some (b 4)), .map (some (b 5)), .map (some (b 6)), .map (some (b 7)), .map (some (b 8)), .map (some (b 9)), .map (some (b 10))]) (.int .i64 8)).run Tryd.prog w = .ok (.map (some (b 8))) w := by kernel_rfl
theorem covIx9 (b : Nat → Nat) (w : World) : (Instr.index 84 (.agg #[.map (some (b 0)), .map (some (b 1)), .map (some (b 2)), .map (some (b 3)), .map (some (b 4)), .map (some (b 5)), .map (some (b 6)), .map (some (b 7)), .map (some (b 8)), .map (some (b 9)), .map (some (b 10))]) (.int .i64 9)).run Tryd.prog w = .ok (.map (some (b 9))) w := by kernel_rfl
theorem covIx10 (b : Nat → Nat) (w : World) : (Instr.index 84 (.agg #[.map (some (b 0)), .map (some (b 1)), .map (some (b 2)), .map (some (b 3)), .map (some (b 4)), .map (some (b 5)), .map (some (b 6)), .map (some (b 7)), .map (some (b 8)), .map (some (b 9)), .map (some (b 10))]) (.int .i64 10)).run Tryd.prog w = .ok (.map (some (b 10))) w := by kernel_rfl

set_option maxRecDepth 100000 in
set_option maxHeartbeats 2000000 in
theorem size_any (b : Nat → Nat) (C : List Sq) (w : World) (h : Cov w b C) (hn : C.length ≤ 1000000000) :
    Calls Tryd.prog 82 #[.agg (covA b)] w fun e w' => e = .returned (.int .i64 C.length) ∧ Below w.heap.size w w' := by
  have hl := fun (i : Nat) (hi : i < 11) (ty : TypeId) (o : Obj) => ((h.row i hi).alloc o).len ty
  have l0 := hl 0 (by omega); have l1 := hl 1 (by omega); have l2 := hl 2 (by omega); have l3 := hl 3 (by omega); have l4 := hl 4 (by omega); have l5 := hl 5 (by omega)
  have l6 := hl 6 (by omega); have l7 := hl 7 (by omega); have l8 := hl 8 (by omega); have l9 := hl 9 (by omega); have l10 := hl 10 (by omega)
  have hs := lvl_sum h.ok
  have m0 := lvl_le C 0; have m1 := lvl_le C 1; have m2 := lvl_le C 2; have m3 := lvl_le C 3; have m4 := lvl_le C 4; have m5 := lvl_le C 5; have m6 := lvl_le C 6; have m7 := lvl_le C 7; have m8 := lvl_le C 8; have m9 := lvl_le C 9; have m10 := lvl_le C 10
  clear hl h
  generalize C.length = N at *
  generalize (lvlOf C 0).length = n0 at *; generalize (lvlOf C 1).length = n1 at *; generalize (lvlOf C 2).length = n2 at *; generalize (lvlOf C 3).length = n3 at *
  generalize (lvlOf C 4).length = n4 at *; generalize (lvlOf C 5).length = n5 at *; generalize (lvlOf C 6).length = n6 at *; generalize (lvlOf C 7).length = n7 at *
  generalize (lvlOf C 8).length = n8 at *; generalize (lvlOf C 9).length = n9 at *; generalize (lvlOf C 10).length = n10 at *
  have HS := Lib.hid hs
  clear hs
  have x0 := covIx0 b; have x1 := covIx1 b; have x2 := covIx2 b; have x3 := covIx3 b; have x4 := covIx4 b; have x5 := covIx5 b; have x6 := covIx6 b; have x7 := covIx7 b; have x8 := covIx8 b; have x9 := covIx9 b; have x10 := covIx10 b
  unfold covA
  go_enter Tryd.func82, Tryd.ntmps82
  go_wp2_with fail
  refine wp_loop_rounds 12 ?_
  iterate 12 (rw [rounds_succ]; go_wp2_with fail)
  go_outline
  go_ret
  exact ⟨ret_i (by have := HS.out; omega), by (repeat (first | exact Below.refl _ _ | refine Below.drew ?_ | refine below_drewN ?_ _ | refine Below.alloc ?_ (by simp; try omega) _ | refine Below.setCell ?_ (by simp; try omega) _))⟩
end Go.Proofs.YtabolonlkocopaaDoor
