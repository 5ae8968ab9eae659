/- Dates, nights and seasons of the reference. -/
import Derived.Test.YtabolonlkocopaaDoorSeaW
import Derived.Test.YtabolonlkocopaaDoorSqF
import Derived.Test.YtabolonlkocopaaDoorReg2
namespace Go.Proofs.YtabolonlkocopaaDoor
open Go.RowKit Go.Plc

set_option maxHeartbeats 1000000 in
theorem rdays_any (m : Int) (l : Bool) (w : World) :
    Calls Tryd.prog 66 #[.int .i64 m, .bool l] w fun e w' => e = .returned (.int .i64 (domL l m)) ∧ w = w' := by
  by_cases h2 : m = 2
  · subst h2
    cases l
    all_goals
      go_enter Tryd.func66, Tryd.ntmps66
      go_wp2_with fail
      go_ret
      exact ⟨rfl, rfl⟩
  · by_cases h30 : m = 4 ∨ m = 6 ∨ m = 9 ∨ m = 11
    · have HB := Lib.hid (show domL l m = 30 by unfold domL; rw [if_neg h2, if_pos h30])
      clear h2
      rcases h30 with rfl | rfl | rfl | rfl
      all_goals
        go_enter Tryd.func66, Tryd.ntmps66
        go_wp2_with fail
        go_ret
        exact ⟨ret_i HB.out.symm, rfl⟩
    · have HB := Lib.hid (show domL l m = 31 by unfold domL; rw [if_neg h2, if_neg h30])
      have a2 : (m == 2) = false := by simp; omega
      have a4 : (m == 4) = false := by simp; omega
      have a6 : (m == 6) = false := by simp; omega
      have a9 : (m == 9) = false := by simp; omega
      have a11 : (m == 11) = false := by simp; omega
      clear h2 h30
      go_enter Tryd.func66, Tryd.ntmps66
      go_wp2_with fail
      go_ret
      exact ⟨ret_i HB.out.symm, rfl⟩

theorem rwithin_is {n lo hi : Int} {b : Bool} (h : (decide (lo ≤ n) && decide (n ≤ hi)) = b) (w : World) :
    Calls Tryd.prog 58 #[.int .i64 n, .int .i64 lo, .int .i64 hi] w fun e w' => e = .returned (.bool b) ∧ w = w' := by
  have h2 := rwithin_any n lo hi w
  rwa [h] at h2
theorem rleap_is {y : Int} {b : Bool} (h : leapB y = b) (h0 : 0 ≤ y) (h1 : y ≤ 1000000) (w : World) :
    Calls Tryd.prog 67 #[.int .i64 y] w fun e w' => e = .returned (.bool b) ∧ w = w' := by
  have h2 := rleap_any y w h0 h1
  rwa [h] at h2

set_option maxRecDepth 100000 in
set_option maxHeartbeats 4000000 in
theorem rValidDate_any (y m d : Int) (w : World) :
    Calls Tryd.prog 32 #[.agg #[.int .i64 y, .int .i64 m, .int .i64 d]] w fun e w' => e = .returned (.bool (vdate y m d)) ∧ Below w.heap.size w w' := by
  have HV := Lib.hid (vdate_iff y m d)
  have tt := three_cells (World.alloc_heap_new w (.cells #[.int .i64 y, .int .i64 m, .int .i64 d] 38))
  have ss := fun p => (⟨Wb.cell tt.1 p, Wb.cell tt.2.1 p, Wb.cell tt.2.2 p⟩ : _ ∧ _ ∧ _)
  clear tt
  cases cy : (decide (0 ≤ y) && decide (y ≤ 273))
  · have HWy := Lib.hid (rwithin_is cy)
    have HC := Lib.hid cy
    clear cy
    go_enter Tryd.func32, Tryd.ntmps32
    go_wp2_with fail
    refine wp_region_wb (by kernel_rfl) (by kernel_rfl) ?_; (repeat ((with_reducible refine wpQuiet_step ?_); intro K hK; go_simp; (try (refine ite_neg_of (by simp [undef]) ?_)); first | (with_reducible refine hK _ ?_; clear hK K) | (apply Exists.intro; (with_reducible refine ⟨fun _ => ?_, hK _ ?_⟩); (first | (go_at_call 58; exact Calls.wb0 (HWy.out _))); clear hK K))); (with_reducible refine wpQuiet_nil ?_); rintro w1 ⟨⟨_, hb1⟩, rfl⟩; (try dsimp only)
    go_wp2_with fail
    go_ret
    refine ⟨ret_b ?_, (below_new _).trans (hb1.mono (by simp))⟩
    have h := HC.out
    rw [Bool.and_eq_false_iff, decide_eq_false_iff_not, decide_eq_false_iff_not] at h
    symm
    rw [← Bool.not_eq_true, HV.out]
    omega
  · have HWy := Lib.hid (rwithin_is cy)
    have HC := Lib.hid cy
    cases cm : (decide (1 ≤ m) && decide (m ≤ 12))
    · have HWm := Lib.hid (rwithin_is cm)
      have HCm := Lib.hid cm
      clear cy cm
      go_enter Tryd.func32, Tryd.ntmps32
      go_wp2_with fail
      refine wp_region_wb (by kernel_rfl) (by kernel_rfl) ?_; (repeat ((with_reducible refine wpQuiet_step ?_); intro K hK; go_simp; (try (refine ite_neg_of (by simp [undef]) ?_)); first | (with_reducible refine hK _ ?_; clear hK K) | (apply Exists.intro; (with_reducible refine ⟨fun _ => ?_, hK _ ?_⟩); (first | (go_at_call 58; first | with_reducible exact Calls.wb0 (HWy.out _) | with_reducible exact Calls.wb0 (HWm.out _))); clear hK K))); (with_reducible refine wpQuiet_nil ?_); rintro w1 ⟨⟨_, hb1⟩, rfl⟩; (try dsimp only)
      go_wp2_with fail
      go_ret
      refine ⟨ret_b ?_, (below_new _).trans (hb1.mono (by simp))⟩
      have h := HCm.out
      rw [Bool.and_eq_false_iff, decide_eq_false_iff_not, decide_eq_false_iff_not] at h
      symm
      rw [← Bool.not_eq_true, HV.out]
      omega
    · have HWm := Lib.hid (rwithin_is cm)
      have hy : 0 ≤ y ∧ y ≤ 273 := by simpa using cy
      have HCm := Lib.hid (show (0 ≤ y ∧ y ≤ 273) ∧ (1 ≤ m ∧ m ≤ 12) from ⟨hy, by simpa using cm⟩)
      have HL := Lib.hid (rleap_is (y := y) rfl hy.1 (by omega))
      have HD := Lib.hid (fun w => rdays_any m (leapB y) w)
      have HDd := Lib.hid (show dom y m = domL (leapB y) m from rfl)
      generalize leapB y = lb at *
      generalize domL lb m = dm at *
      have HWd := Lib.hid (rwithin_is (n := d) (lo := 1) (hi := dm) rfl)
      clear cy cm hy
      go_enter Tryd.func32, Tryd.ntmps32
      go_wp2_with fail
      refine wp_region_wb (by kernel_rfl) (by kernel_rfl) ?_; (repeat ((with_reducible refine wpQuiet_step ?_); intro K hK; go_simp; (try (refine ite_neg_of (by simp [undef]) ?_)); first | (with_reducible refine hK _ ?_; clear hK K) | (apply Exists.intro; (with_reducible refine ⟨fun _ => ?_, hK _ ?_⟩); (first | (go_at_call 58; first | with_reducible exact Calls.wb0 (HWy.out _) | with_reducible exact Calls.wb0 (HWm.out _) | with_reducible exact Calls.wb0 (HWd.out _)) | (go_at_call 67; exact Calls.wb0 (HL.out _)) | (go_at_call 66; exact Calls.wb0 (HD.out _))); clear hK K))); (with_reducible refine wpQuiet_nil ?_); rintro w1 ⟨⟨_, hb1⟩, rfl⟩; (try dsimp only)
      go_wp2_with fail
      go_ret
      refine ⟨ret_b ?_, (below_new _).trans (hb1.mono (by simp))⟩
      have h := HCm.out
      rw [Bool.eq_iff_iff, HV.out, HDd.out, Bool.and_eq_true, decide_eq_true_eq, decide_eq_true_eq]
      omega
end Go.Proofs.YtabolonlkocopaaDoor
