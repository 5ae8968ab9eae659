/- The functions on one square, of the program and of the reference. -/
import Derived.Test.YtabolonlkocopaaDoorCovX
import Derived.Test.YtabolonlkocopaaDoorCovA
import Derived.Test.YtabolonlkocopaaDoorCovB
namespace Go.Proofs.YtabolonlkocopaaDoor
open Go.RowKit Go.Plc

theorem rwithin_any (n lo hi : Int) (w : World) :
    Calls Tryd.prog 58 #[.int .i64 n, .int .i64 lo, .int .i64 hi] w fun e w' => e = .returned (.bool (decide (lo ≤ n) && decide (n ≤ hi))) ∧ w = w' := by
  cases a1 : decide (lo ≤ n) <;> cases a2 : decide (n ≤ hi)
  all_goals
    go_enter Tryd.func58, Tryd.ntmps58
    go_wp2_with fail
    go_ret
    exact ⟨ret_b (by simp_all), rfl⟩

set_option maxHeartbeats 1000000 in
theorem rValidSquare_any (l x y : Int) (w : World) :
    Calls Tryd.prog 23 #[.agg #[.int .i64 l, .int .i64 x, .int .i64 y]] w fun e w' => e = .returned (.bool (Sq.okB ⟨l, x, y⟩)) ∧ Below w.heap.size w w' := by
  have HV := Lib.hid (Sq.okB_iff ⟨l, x, y⟩)
  have HW := Lib.hid (fun n lo hi w => rwithin_any n lo hi w)
  by_cases hl : 0 ≤ l ∧ l ≤ 10
  · obtain ⟨h1, h2⟩ := hl
    obtain ⟨p1, p2⟩ := pow_bd l h1
    have HWl := Lib.hid (fun w => show Calls Tryd.prog 58 #[.int .i64 l, .int .i64 0, .int .i64 10] w fun e w' => e = .returned (.bool true) ∧ w = w' from by
      have h := rwithin_any l 0 10 w
      rwa [show (decide (0 ≤ l) && decide (l ≤ 10)) = true by simp; omega] at h)
    cases cx : (decide (0 ≤ x) && decide (x ≤ 2 ^ (10 - l).toNat - 1))
    · have HWx := Lib.hid (fun w => show Calls Tryd.prog 58 #[.int .i64 x, .int .i64 0, .int .i64 (2 ^ (10 - l).toNat - 1)] w fun e w' => e = .returned (.bool false) ∧ w = w' from by
        have h := rwithin_any x 0 (2 ^ (10 - l).toNat - 1) w
        rwa [cx] at h)
      have HC := Lib.hid cx
      clear cx
      go_enter Tryd.func23, Tryd.ntmps23
      go_wp2_with fail
      refine (HWl.out _).mono ?_
      rintro e w1 ⟨rfl, rfl⟩
      go_wp2_with fail
      refine (HWx.out _).mono ?_
      rintro e w1 ⟨rfl, rfl⟩
      go_wp2_with fail
      go_ret
      refine ⟨ret_b ?_, below_new _⟩
      rw [Bool.eq_iff_iff, HV.out]
      have h := HC.out
      simp at h ⊢
      unfold sideOf
      omega
    · have HWx := Lib.hid (fun w => show Calls Tryd.prog 58 #[.int .i64 x, .int .i64 0, .int .i64 (2 ^ (10 - l).toNat - 1)] w fun e w' => e = .returned (.bool true) ∧ w = w' from by
        have h := rwithin_any x 0 (2 ^ (10 - l).toNat - 1) w
        rwa [cx] at h)
      have HC := Lib.hid cx
      clear cx
      go_enter Tryd.func23, Tryd.ntmps23
      go_wp2_with fail
      refine (HWl.out _).mono ?_
      rintro e w1 ⟨rfl, rfl⟩
      go_wp2_with fail
      refine (HWx.out _).mono ?_
      rintro e w1 ⟨rfl, rfl⟩
      go_wp2_with fail
      refine (HW.out y 0 _ _).mono ?_
      rintro e w1 ⟨rfl, rfl⟩
      go_wp2_with fail
      go_ret
      refine ⟨ret_b ?_, below_new _⟩
      rw [Bool.eq_iff_iff, HV.out]
      have h := HC.out
      simp at h ⊢
      unfold sideOf
      omega
  · have HF := Lib.hid (show Sq.okB ⟨l, x, y⟩ = false by
      cases h : Sq.okB ⟨l, x, y⟩
      · rfl
      · exact absurd (by have := HV.out.1 h; simp at this; omega) hl)
    have HWl := Lib.hid (fun w => show Calls Tryd.prog 58 #[.int .i64 l, .int .i64 0, .int .i64 10] w fun e w' => e = .returned (.bool false) ∧ w = w' from by
      have h := rwithin_any l 0 10 w
      rwa [show (decide (0 ≤ l) && decide (l ≤ 10)) = false by rw [Bool.and_eq_false_iff]; simp; omega] at h)
    go_enter Tryd.func23, Tryd.ntmps23
    go_wp2_with fail
    refine (HWl.out _).mono ?_
    rintro e w1 ⟨rfl, rfl⟩
    go_wp2_with fail
    go_ret
    exact ⟨ret_b HF.out.symm, below_new _⟩

set_option maxHeartbeats 400000 in
theorem rup_any (s : Sq) (L : Int) (w : World) (h0 : 0 ≤ s.l) (h1 : s.l ≤ L) (h2 : L ≤ 10) :
    Calls Tryd.prog 53 #[sqv s, .int .i64 L] w fun e w' => e = .returned (sqv (blurS s L)) ∧ Below w.heap.size w w' := by
  unfold sqv blurS
  go_enter Tryd.func53, Tryd.ntmps53
  go_wp2_with fail
  go_region
  go_wp2_with fail
  refine bodyPost_ret (v := .agg #[.int .i64 L, .int .i64 (s.x / 2 ^ (L - s.l).toNat), .int .i64 (s.y / 2 ^ (L - s.l).toNat)]) (by simp [results, Tryd.results53, go_sem]) rfl ⟨rfl, ?_⟩
  (repeat (first | exact Below.refl _ _ | refine Below.drew ?_ | refine below_drewN ?_ _ | refine Below.alloc ?_ (by simp; try omega) _ | refine Below.setCell ?_ (by simp; try omega) _))
end Go.Proofs.YtabolonlkocopaaDoor
