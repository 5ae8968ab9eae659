
/- slices.Collect over squares; region. -/
import Derived.Test.YtabolonlkocopaaGreatDoorApp
namespace Go.Proofs.YtabolonlkocopaaGreatDoor
open Go.RowKit Go.Plc Go.Shelf

theorem collect_sq (b : Nat → Nat) (C : List Sq) (Bc : Nat) (w : World) (h : Cov w b C) (hlen : C.length ≤ 1000000) (hbox : w.heap[Bc]? = some (.cells (covA b) 54)) :
    Calls Tryz.prog 87 #[.func (.func 112) #[] #[.pointer (some ⟨Bc, 0, none⟩)]] w
      fun e w' => ∃ A c, e = .returned (.slice A (regionS C).length c) ∧ SqA w' w'.heap.size A (regionS C) ∧ Below w.heap.size w w' := by
  have HA := Lib.hid ((callsIn_wide (n := 4)).1 (appendSeq_sq 4 (Nat.le_refl _) b C Bc w h hlen hbox))
  clear h hbox
  go_enter Tryz.func87, Tryz.ntmps87
  go_wp2_with (go_at_call 111; refine HA.out.mono ?_; rintro e w1 ⟨A, c, rfl, hA, hB⟩)
  go_ret
  exact ⟨A, c, rfl, hA, hB⟩

set_option maxRecDepth 100000 in
theorem region_any (b : Nat → Nat) (C : List Sq) (w : World) (h : Cov w b C) (hlen : C.length ≤ 1000000) :
    Calls Tryz.prog 40 #[.agg (covA b)] w fun e w' => Below w.heap.size w w' ∧
      ((4096 < C.length ∧ e = .returned (.tuple #[.slice none 0 0, .int .i64 2])) ∨ (C.length ≤ 4096 ∧ ∃ A c, e = .returned (.tuple #[.slice A (regionS C).length c, .int .i64 0]) ∧ SqA w' w'.heap.size A (regionS C))) := by
  have HC := Lib.hid h
  clear h
  unfold covA
  go_enter Tryz.func40, Tryz.ntmps40
  go_wp2_with (first
    | (go_at_call 53; refine (size_any b C _ (HC.out.below (below_new _)) (by omega)).mono ?_; rintro e w1 ⟨rfl, hb1⟩; have hx1 := (hb1.block w.heap.size (by simp)).trans (World.alloc_heap_new w _); obtain ⟨q0, q1, q2, q3, q4, q5, q6, q7, q8, q9, q10⟩ := cov_cells hx1; have hb2 : Below w.heap.size w w1 := (below_new _).trans (hb1.mono (by simp)))
    | (go_at_call 88; refine (squares_any b _).mono ?_; rintro e w2 ⟨rfl, rfl⟩)
    | (go_at_call 87; refine (collect_sq b C _ _ ((HC.out.below hb2).below (below_new _)) hlen (World.alloc_heap_new _ _)).mono ?_; rintro e w3 ⟨A, c, rfl, hA, hB⟩))
  · go_ret2
    exact ⟨hb2, .inl ⟨by omega, rfl⟩⟩
  · go_ret2
    exact ⟨hb2.trans ((below_new _).mono hb2.size |>.trans (hB.mono (by have := hb2.size; simp; omega))), .inr ⟨by omega, A, c, rfl, hA⟩⟩
end Go.Proofs.YtabolonlkocopaaGreatDoor
