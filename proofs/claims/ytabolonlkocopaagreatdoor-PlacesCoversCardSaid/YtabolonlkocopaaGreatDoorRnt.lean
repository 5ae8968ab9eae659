
/- Dates, nights and seasons of the reference. -/
import Derived.Test.YtabolonlkocopaaGreatDoorSeaW
import Derived.Test.YtabolonlkocopaaGreatDoorSqs
import Derived.Test.YtabolonlkocopaaGreatDoorReg2
import Derived.Test.YtabolonlkocopaaGreatDoorTxt
namespace Go.Proofs.YtabolonlkocopaaGreatDoor
open Go.RowKit Go.Plc

set_option maxHeartbeats 1000000 in
theorem rdays_any (m : Int) (l : Bool) (w : World) :
    Calls Tryz.prog 107 #[.int .i64 m, .bool l] w fun e w' => e = .returned (.int .i64 (domL l m)) ∧ w = w' := by
  by_cases h2 : m = 2
  · subst h2
    cases l
    all_goals
      go_enter Tryz.func107, Tryz.ntmps107
      go_wp2_with fail
      go_ret
      exact ⟨rfl, rfl⟩
  · by_cases h30 : m = 4 ∨ m = 6 ∨ m = 9 ∨ m = 11
    · have HB := Lib.hid (show domL l m = 30 by unfold domL; rw [if_neg h2, if_pos h30])
      clear h2
      rcases h30 with rfl | rfl | rfl | rfl
      all_goals
        go_enter Tryz.func107, Tryz.ntmps107
        go_wp2_with fail
        go_ret
        exact ⟨ret_i HB.out.symm, rfl⟩
    · have HB := Lib.hid (show domL l m = 31 by unfold domL; rw [if_neg h2, if_neg h30])
      have a2 : (m == 2) = false := by simp; omega
      have a4 : (m == 4) = false := by simp; omega
      have a6 : (m == 6) = false := by simp; omega
      have a9 : (m == 9) = false := by simp; omega
      have a11 : (m == 11) = false := by simp; omega
      clear h2 h30
      go_enter Tryz.func107, Tryz.ntmps107
      go_wp2_with fail
      go_ret
      exact ⟨ret_i HB.out.symm, rfl⟩

theorem rwithin_is {n lo hi : Int} {b : Bool} (h : (decide (lo ≤ n) && decide (n ≤ hi)) = b) (w : World) :
    Calls Tryz.prog 66 #[.int .i64 n, .int .i64 lo, .int .i64 hi] w fun e w' => e = .returned (.bool b) ∧ w = w' := by
  have h2 := rwithin_any n lo hi w
  rwa [h] at h2
theorem rleap_is {y : Int} {b : Bool} (h : leapB y = b) (h0 : 0 ≤ y) (h1 : y ≤ 1000000) (w : World) :
    Calls Tryz.prog 106 #[.int .i64 y] w fun e w' => e = .returned (.bool b) ∧ w = w' := by
  have h2 := rleap_any y w h0 h1
  rwa [h] at h2

set_option maxRecDepth 100000 in
set_option maxHeartbeats 4000000 in
theorem rValidDate_any (y m d : Int) (w : World) :
    Calls Tryz.prog 108 #[.agg #[.int .i64 y, .int .i64 m, .int .i64 d]] w fun e w' => e = .returned (.bool (vdate y m d)) ∧ Below w.heap.size w w' := by
  have HV := Lib.hid (vdate_iff y m d)
  have tt := three_cells (World.alloc_heap_new w (.cells #[.int .i64 y, .int .i64 m, .int .i64 d] 48))
  have ss := fun p => (⟨Wb.cell tt.1 p, Wb.cell tt.2.1 p, Wb.cell tt.2.2 p⟩ : _ ∧ _ ∧ _)
  clear tt
  cases cy : (decide (0 ≤ y) && decide (y ≤ 273))
  · have HWy := Lib.hid (rwithin_is cy)
    have HC := Lib.hid cy
    clear cy
    go_enter Tryz.func108, Tryz.ntmps108
    go_wp2_with fail
    refine wp_region_wb (by kernel_rfl) (by kernel_rfl) ?_; (repeat ((with_reducible refine wpQuiet_step ?_); intro K hK; go_simp; (try (refine ite_neg_of (by simp [undef]) ?_)); first | (with_reducible refine hK _ ?_; clear hK K) | (apply Exists.intro; (with_reducible refine ⟨fun _ => ?_, hK _ ?_⟩); (first | (go_at_call 66; exact Calls.wb0 (HWy.out _))); clear hK K))); (with_reducible refine wpQuiet_nil ?_); rintro w1 ⟨⟨_, hb1⟩, rfl⟩; (try dsimp only)
    go_wp2_with fail
    go_ret
    refine ⟨ret_b ?_, (below_new _).trans (hb1.mono (by simp))⟩
    have h := HC.out
    rw [Bool.and_eq_false_iff, decide_eq_false_iff_not, decide_eq_false_iff_not] at h
    symm
    rw [← Bool.not_eq_true, HV.out]
    omega
  · have HWy := Lib.hid (rwithin_is cy)
    have HC := Lib.hid cy
    cases cm : (decide (1 ≤ m) && decide (m ≤ 12))
    · have HWm := Lib.hid (rwithin_is cm)
      have HCm := Lib.hid cm
      clear cy cm
      go_enter Tryz.func108, Tryz.ntmps108
      go_wp2_with fail
      refine wp_region_wb (by kernel_rfl) (by kernel_rfl) ?_; (repeat ((with_reducible refine wpQuiet_step ?_); intro K hK; go_simp; (try (refine ite_neg_of (by simp [undef]) ?_)); first | (with_reducible refine hK _ ?_; clear hK K) | (apply Exists.intro; (with_reducible refine ⟨fun _ => ?_, hK _ ?_⟩); (first | (go_at_call 66; first | with_reducible exact Calls.wb0 (HWy.out _) | with_reducible exact Calls.wb0 (HWm.out _))); clear hK K))); (with_reducible refine wpQuiet_nil ?_); rintro w1 ⟨⟨_, hb1⟩, rfl⟩; (try dsimp only)
      go_wp2_with fail
      go_ret
      refine ⟨ret_b ?_, (below_new _).trans (hb1.mono (by simp))⟩
      have h := HCm.out
      rw [Bool.and_eq_false_iff, decide_eq_false_iff_not, decide_eq_false_iff_not] at h
      symm
      rw [← Bool.not_eq_true, HV.out]
      omega
    · have HWm := Lib.hid (rwithin_is cm)
      have hy : 0 ≤ y ∧ y ≤ 273 := by simpa using cy
      have HCm := Lib.hid (show (0 ≤ y ∧ y ≤ 273) ∧ (1 ≤ m ∧ m ≤ 12) from ⟨hy, by simpa using cm⟩)
      have HL := Lib.hid (rleap_is (y := y) rfl hy.1 (by omega))
      have HD := Lib.hid (fun w => rdays_any m (leapB y) w)
      have HDd := Lib.hid (show dom y m = domL (leapB y) m from rfl)
      generalize leapB y = lb at *
      generalize domL lb m = dm at *
      have HWd := Lib.hid (rwithin_is (n := d) (lo := 1) (hi := dm) rfl)
      clear cy cm hy
      go_enter Tryz.func108, Tryz.ntmps108
      go_wp2_with fail
      refine wp_region_wb (by kernel_rfl) (by kernel_rfl) ?_; (repeat ((with_reducible refine wpQuiet_step ?_); intro K hK; go_simp; (try (refine ite_neg_of (by simp [undef]) ?_)); first | (with_reducible refine hK _ ?_; clear hK K) | (apply Exists.intro; (with_reducible refine ⟨fun _ => ?_, hK _ ?_⟩); (first | (go_at_call 66; first | with_reducible exact Calls.wb0 (HWy.out _) | with_reducible exact Calls.wb0 (HWm.out _) | with_reducible exact Calls.wb0 (HWd.out _)) | (go_at_call 106; exact Calls.wb0 (HL.out _)) | (go_at_call 107; exact Calls.wb0 (HD.out _))); clear hK K))); (with_reducible refine wpQuiet_nil ?_); rintro w1 ⟨⟨_, hb1⟩, rfl⟩; (try dsimp only)
      go_wp2_with fail
      go_ret
      refine ⟨ret_b ?_, (below_new _).trans (hb1.mono (by simp))⟩
      have h := HCm.out
      rw [Bool.eq_iff_iff, HV.out, HDd.out, Bool.and_eq_true, decide_eq_true_eq, decide_eq_true_eq]
      omega
end Go.Proofs.YtabolonlkocopaaGreatDoor


/- Dates and nights of the reference, second part. -/
namespace Go.Proofs.YtabolonlkocopaaGreatDoor
open Go.RowKit Go.Plc

set_option maxRecDepth 100000 in
set_option maxHeartbeats 4000000 in
theorem rnumber_any (y m d : Int) (w : World) (hv : vdate y m d = true) :
    Calls Tryz.prog 109 #[.agg #[.int .i64 y, .int .i64 m, .int .i64 d]] w fun e w' => e = .returned (.int .i64 (num y m d)) ∧ Below w.heap.size w w' := by
  obtain ⟨v1, v2, v3, v4, v5, v6⟩ := (vdate_iff y m d).1 hv
  have hdm := dom_bd y m
  have HN := Lib.hid (show num y m d = d - 1 + dby y + cum y m from rfl)
  obtain ⟨q0, q1, q2⟩ := three_cells (World.alloc_heap_new w (.cells #[.int .i64 y, .int .i64 m, .int .i64 d] 48))
  clear hv
  go_enter Tryz.func109, Tryz.ntmps109
  go_wp2_with fail
  change Code.wp _ _ _ _ (w.alloc (.cells #[.int .i64 y, .int .i64 m, .int .i64 d] 48))
  have HB := Lib.hid (below_new (w := w) (.cells #[.int .i64 y, .int .i64 m, .int .i64 d] 48))
  have hz : w.heap.size < (w.alloc (.cells #[.int .i64 y, .int .i64 m, .int .i64 d] 48)).heap.size := by simp
  generalize w.alloc (.cells #[.int .i64 y, .int .i64 m, .int .i64 d] 48) = W at *
  go_loop [3, 4] (fun n k => ∃ j : Int, 0 ≤ j ∧ j ≤ y ∧ k = .int .i64 j ∧ n = .int .i64 (d - 1 + dby j)) (fun _ k => (y - intOf k).toNat)
  case atStart => exact ⟨0, by omega, v1, rfl, by rw [dby_zero]; simp⟩
  case round =>
    obtain ⟨j, hj0, hj1, rfl, rfl⟩ := hrel
    have hbd := dby_bd hj0 (by omega)
    by_cases hlt : j < y
    · have hs := dby_succ j
      cases hl : leapB j
      · have HL := Lib.hid (rleap_is hl hj0 (by omega))
        have HS := Lib.hid (show dby (j + 1) = dby j + 365 by rw [hs]; unfold doy; rw [hl]; rfl)
        clear hs hl
        go_wp2_with (go_at_call 106; refine (HL.out _).mono ?_; rintro e w' ⟨rfl, rfl⟩)
        go_round
        case rel => exact ⟨j + 1, by omega, by omega, rfl, by rw [HS.out]; go_num⟩
        case measure => simp [intOf]; omega
      · have HL := Lib.hid (rleap_is hl hj0 (by omega))
        have HS := Lib.hid (show dby (j + 1) = dby j + 366 by rw [hs]; unfold doy; rw [hl]; rfl)
        clear hs hl
        go_wp2_with (go_at_call 106; refine (HL.out _).mono ?_; rintro e w' ⟨rfl, rfl⟩)
        go_round
        case rel => exact ⟨j + 1, by omega, by omega, rfl, by rw [HS.out]; go_num⟩
        case measure => simp [intOf]; omega
    · obtain rfl : j = y := by omega
      have HL := Lib.hid (rleap_is (y := j) rfl hj0 (by omega))
      have hlb := Lib.hid (show leapB j = leapB j from rfl)
      go_wp2_with fail
      go_loop [3, 5] (fun n k => ∃ i : Int, 1 ≤ i ∧ i ≤ m ∧ k = .int .i64 i ∧ n = .int .i64 (d - 1 + dby j + cum j i)) (fun _ k => (m - intOf k).toNat)
      case atStart => exact ⟨1, by omega, v3, rfl, by rw [cum_one]; simp⟩
      case round =>
        obtain ⟨i, hi0, hi1, rfl, rfl⟩ := hrel
        have hcb := cum_le j i
        have hdb := doy_cases j
        have hdb' : doy j ≤ 366 := by omega
        clear hdb
        by_cases hlt2 : i < m
        · have HCs := Lib.hid (cum_succ j i hi0 (by omega))
          have hdm2 := dom_bd j i
          have HD := Lib.hid (fun w => show Calls Tryz.prog 107 #[.int .i64 i, .bool (leapB j)] w fun e w' => e = .returned (.int .i64 (dom j i)) ∧ w = w' from rdays_any i (leapB j) w)
          generalize leapB j = lb at *
          go_wp2_with fail
          refine (HL.out _).mono ?_
          rintro e w' ⟨rfl, rfl⟩
          go_wp2_with fail
          refine (HD.out _).mono ?_
          rintro e w' ⟨rfl, rfl⟩
          go_wp2_with fail
          go_round
          case rel => exact ⟨i + 1, by omega, by omega, rfl, by rw [HCs.out]; go_num⟩
          case measure => simp [intOf]; omega
        · obtain rfl : i = m := by omega
          go_wp2_with fail
          go_ret
          exact ⟨ret_i HN.out.symm, HB.out⟩

set_option maxHeartbeats 2000000 in
theorem rNightOf_any (y m d : Int) (w : World) :
    Calls Tryz.prog 81 #[.agg #[.int .i64 y, .int .i64 m, .int .i64 d]] w fun e w' => e = .returned (.tuple #[.int .i64 (nightV y m d), .int .i64 (nightE y m d)]) ∧ Below w.heap.size w w' := by
  have HV := Lib.hid (rValidDate_any y m d (w.alloc (.cells #[.int .i64 y, .int .i64 m, .int .i64 d] 48)))
  cases hv : vdate y m d
  · rw [hv] at HV
    have HR := Lib.hid (night_bad hv)
    clear hv
    go_enter Tryz.func81, Tryz.ntmps81
    go_wp2_with fail
    refine HV.out.mono ?_
    rintro e w1 ⟨rfl, hb⟩
    have HB := Lib.hid (show Below w.heap.size w w1 from (below_new _).trans (hb.mono (by simp)))
    clear hb
    go_wp2_with fail
    go_ret2
    exact ⟨ret_ii HR.out.1.symm HR.out.2.symm, HB.out⟩
  · rw [hv] at HV
    have HNu := Lib.hid (fun w => rnumber_any y m d w hv)
    have HBig := Lib.hid (fun h => night_big (y := y) (m := m) (d := d) hv h)
    have HSm := Lib.hid (fun h => night_small (y := y) (m := m) (d := d) hv h)
    clear hv
    generalize num y m d = nn at *
    by_cases hb : 99999 < nn
    · have HR := Lib.hid (HBig.out hb)
      go_enter Tryz.func81, Tryz.ntmps81
      go_wp2_with fail
      refine HV.out.mono ?_
      rintro e w1 ⟨rfl, hb1⟩
      have hx := (hb1.block w.heap.size (by simp)).trans (World.alloc_heap_new w _)
      obtain ⟨q0, q1, q2⟩ := three_cells hx
      have HB := Lib.hid (show Below w.heap.size w w1 from (below_new _).trans (hb1.mono (by simp)))
      clear hb1 hx
      go_wp2_with fail
      refine (HNu.out _).mono ?_
      rintro e w2 ⟨rfl, hb2⟩
      have HB2 := Lib.hid (HB.out.trans (hb2.mono HB.out.size))
      clear hb2 q0 q1 q2
      go_wp2_with fail
      go_ret2
      exact ⟨ret_ii HR.out.1.symm HR.out.2.symm, HB2.out⟩
    · have HR := Lib.hid (HSm.out hb)
      go_enter Tryz.func81, Tryz.ntmps81
      go_wp2_with fail
      refine HV.out.mono ?_
      rintro e w1 ⟨rfl, hb1⟩
      have hx := (hb1.block w.heap.size (by simp)).trans (World.alloc_heap_new w _)
      obtain ⟨q0, q1, q2⟩ := three_cells hx
      have HB := Lib.hid (show Below w.heap.size w w1 from (below_new _).trans (hb1.mono (by simp)))
      clear hb1 hx
      go_wp2_with fail
      refine (HNu.out _).mono ?_
      rintro e w2 ⟨rfl, hb2⟩
      have HB2 := Lib.hid (HB.out.trans (hb2.mono HB.out.size))
      clear hb2 q0 q1 q2
      go_wp2_with fail
      go_ret2
      exact ⟨ret_ii HR.out.1.symm HR.out.2.symm, HB2.out⟩

/-- the boxes of the date that is reckoned -/
structure DS (w : World) (y m d : Int) (X : World) : Prop where
  bel : Below w.heap.size w X
  r : X.heap[w.heap.size]? = some (.cells #[.int .i64 0, .int .i64 0, .int .i64 0] 48)
  c : X.heap[w.heap.size + 1]? = some (.cells #[.int .i64 y, .int .i64 m, .int .i64 d] 48)
theorem DS.set {w X : World} {y m d y' m' d' u : Int} {i : Nat} (h : DS w y m d X) (e : (#[.int .i64 y, .int .i64 m, .int .i64 d] : Array Value).setIfInBounds i (.int .i64 u) = #[.int .i64 y', .int .i64 m', .int .i64 d']) :
    DS w y' m' d' (X.setCell ⟨w.heap.size + 1, i, none⟩ (.int .i64 u)) :=
  ⟨Below.setCell (p := ⟨w.heap.size + 1, i, none⟩) h.bel (by show w.heap.size ≤ w.heap.size + 1; omega) _, set_other h.r (by omega), by rw [← e]; exact set_at h.c⟩
theorem DS.below {w X Y : World} {y m d : Int} (h : DS w y m d X) (hb : Below X.heap.size X Y) : DS w y m d Y :=
  ⟨h.bel.trans (hb.mono h.bel.size), (hb.block _ (Array.getElem?_eq_some_iff.1 h.r).1).trans h.r, (hb.block _ (Array.getElem?_eq_some_iff.1 h.c).1).trans h.c⟩

set_option maxRecDepth 100000 in
set_option maxHeartbeats 8000000 in
theorem rdate_any (n : Int) (w : World) (h0 : 0 ≤ n) (h1 : n ≤ 100000) :
    Calls Tryz.prog 78 #[.int .i64 n] w (DateIs n w) := by
  have H0 := Lib.hid (show DS w 0 1 0 ((w.alloc (.cells #[.int .i64 0, .int .i64 0, .int .i64 0] 48)).alloc (.cells #[.int .i64 0, .int .i64 1, .int .i64 0] 48)) from
    ⟨(below_new _).trans ((below_new _).mono (by simp)), (Below.heap_alloc _ _ _ (by simp)).trans (World.alloc_heap_new w _), by have := World.alloc_heap_new (w.alloc (.cells #[.int .i64 0, .int .i64 0, .int .i64 0] 48)) (.cells #[.int .i64 0, .int .i64 1, .int .i64 0] 48); rwa [World.size_alloc] at this⟩)
  go_enter Tryz.func78, Tryz.ntmps78
  go_wp2_with fail
  have hz0 : (0 : Int) ≤ 0 := by omega
  change Code.wp _ _ _ _ ((w.alloc (.cells #[.int .i64 0, .int .i64 0, .int .i64 0] 48)).alloc (.cells #[.int .i64 0, .int .i64 1, .int .i64 0] 48))
  generalize (w.alloc (.cells #[.int .i64 0, .int .i64 0, .int .i64 0] 48)).alloc (.cells #[.int .i64 0, .int .i64 1, .int .i64 0] 48) = W at *
  go_loopw [0] (fun t wr => ∃ y : Int, 0 ≤ y ∧ dby y ≤ n ∧ t = .int .i64 (n - dby y) ∧ DS w y 1 0 wr) (fun t _ => (intOf t).toNat)
  case atStart => exact ⟨0, by omega, by rw [dby_zero]; omega, by rw [dby_zero]; simp, H0.out⟩
  case round =>
    obtain ⟨y, hy0, hy1, rfl, hD⟩ := hrel
    have HD := Lib.hid hD
    have hy2 := year_bd hy0 hy1 h1
    have hbd := dby_bd hy0 (by omega)
    obtain ⟨q0, q1, q2⟩ := three_cells hD.c
    have hfz := frozen_row hD.c
    have hsz : w.heap.size + 1 < wr.heap.size := (Array.getElem?_eq_some_iff.1 hD.c).1
    have HS := Lib.hid (dby_succ y)
    clear hD
    cases hl : leapB y
    · have HL := Lib.hid (rleap_is hl hy0 (by omega))
      have HE := Lib.hid (show doy y = 365 by unfold doy; rw [hl]; rfl)
      have HLb := Lib.hid hl
      clear hl
      by_cases hlt : 365 ≤ n - dby y
      · go_wp2_with (go_at_call 106; refine (HL.out _).mono ?_; rintro e w' ⟨rfl, rfl⟩)
        have HD2 := Lib.hid (show DS w (y + 1) 1 0 (wr.setCell ⟨w.heap.size + 1, 0, none⟩ (.int .i64 (y + 1))) from HD.out.set (by simp))
        go_roundw
        case rel => exact ⟨y + 1, by omega, by rw [HS.out, HE.out]; omega, by rw [HS.out, HE.out]; go_num, HD2.out⟩
        case measure => simp [intOf]; omega
      · go_wp2_with (go_at_call 106; refine (HL.out _).mono ?_; rintro e w' ⟨rfl, rfl⟩)
        have hle : n - dby y < doy y := by rw [HE.out]; omega
        have HLe := Lib.hid hle
        clear hle q0 q1 q2 hfz hlt
        have HYb := Lib.hid (And.intro hy0 (And.intro hy1 hy2))
        obtain ⟨wo, rfl⟩ : ∃ wo : World, wo = wr := ⟨_, rfl⟩
        go_loopw [0] (fun t wr => ∃ m : Int, 1 ≤ m ∧ m ≤ 12 ∧ dby y + cum y m ≤ n ∧ t = .int .i64 (n - dby y - cum y m) ∧ DS w y m 0 wr) (fun t _ => (intOf t).toNat)
        case atStart => exact ⟨1, by omega, by omega, by rw [cum_one]; omega, by rw [cum_one]; simp, HD.out⟩
        case round =>
          obtain ⟨m, hm0, hm1, hm2, rfl, hDm⟩ := hrel
          have HDm := Lib.hid hDm
          have hdm := dom_bd y m
          have hcl := cum_le y m
          have hdy := doy_cases y
          have hdy' : doy y ≤ 366 := by omega
          clear hdy
          have HDd := Lib.hid (fun w => show Calls Tryz.prog 107 #[.int .i64 m, .bool false] w fun e w' => e = .returned (.int .i64 (dom y m)) ∧ w = w' from by
            have h := rdays_any m false w
            rwa [show domL false m = dom y m by unfold dom; rw [HLb.out]] at h)
          obtain ⟨q0, q1, q2⟩ := three_cells hDm.c
          have ss := fun p => (⟨Wb.cell q0 p, Wb.cell q1 p, Wb.cell q2 p⟩ : _ ∧ _ ∧ _)
          clear hDm q0 q1 q2
          by_cases hlt2 : dom y m ≤ n - dby y - cum y m
          · have hcs := Lib.hid (cum_succ y m hm0 hm1)
            have hm3 : m < 12 := by
              rcases Int.lt_or_le m 12 with h | h
              · exact h
              · exfalso
                have e : m = 12 := by omega
                subst e
                have h13 := cum_13 y
                have := hcs.out
                rw [show (12 : Int) + 1 = 13 by rfl, h13] at this
                have := HLe.out
                omega
            go_wp2_with fail
            refine wp_region_wb (by kernel_rfl) (by kernel_rfl) ?_; (repeat ((with_reducible refine wpQuiet_step ?_); intro K hK; go_simp; (try (refine ite_neg_of (by simp [undef]) ?_)); first | (with_reducible refine hK _ ?_; clear hK K) | (apply Exists.intro; (with_reducible refine ⟨fun _ => ?_, hK _ ?_⟩); (first | (go_at_call 106; exact Calls.wb0 (HL.out _)) | (go_at_call 107; exact Calls.wb0 (HDd.out _))); clear hK K))); (with_reducible refine wpQuiet_nil ?_); rintro w1 ⟨⟨_, hb1⟩, rfl⟩; (try dsimp only)
            go_wp2_with fail
            have HD1 := Lib.hid (HDm.out.below hb1)
            obtain ⟨q0, q1, q2⟩ := three_cells HD1.out.c
            have ss := fun p => (⟨Wb.cell q0 p, Wb.cell q1 p, Wb.cell q2 p⟩ : _ ∧ _ ∧ _)
            clear q0 q1 q2 hb1
            have hwr : IntKind.i64.wrap (n - dby y - cum y m - dom y m) = n - dby y - cum y m - dom y m := by rw [IntKind.wrap_i64]; omega
            obtain ⟨wq, rfl⟩ : ∃ wq : World, wq = w1 := ⟨_, rfl⟩
            refine wp_region_wb (by kernel_rfl) (by kernel_rfl) ?_; (repeat ((with_reducible refine wpQuiet_step ?_); intro K hK; go_simp; (try (refine ite_neg_of (by simp [undef]) ?_)); first | (with_reducible refine hK _ ?_; clear hK K) | (apply Exists.intro; (with_reducible refine ⟨fun _ => ?_, hK _ ?_⟩); (first | (go_at_call 106; exact Calls.wb0 (HL.out _)) | (go_at_call 107; exact Calls.wb0 (HDd.out _))); clear hK K))); (with_reducible refine wpQuiet_nil ?_); rintro w1 ⟨⟨_, hb1⟩, rfl⟩; (try dsimp only)
            have HD2 := Lib.hid (HD1.out.below hb1)
            obtain ⟨q0, q1, q2⟩ := three_cells HD2.out.c
            have hfz := frozen_row HD2.out.c
            have hsz2 : w.heap.size + 1 < w1.heap.size := (Array.getElem?_eq_some_iff.1 HD2.out.c).1
            clear hb1
            go_wp2_with fail
            have HD3 := Lib.hid (show DS w y (m + 1) 0 (w1.setCell ⟨w.heap.size + 1, 1, none⟩ (.int .i64 (m + 1))) from HD2.out.set (by simp))
            go_roundw
            case rel => exact ⟨m + 1, by omega, by omega, by rw [hcs.out]; omega, by rw [hcs.out]; go_num, HD3.out⟩
            case measure => simp [intOf]; omega
          · have HR := Lib.hid (show vdate y m (n - dby y - cum y m + 1) = true ∧ num y m (n - dby y - cum y m + 1) = n from
              ⟨(vdate_iff _ _ _).2 ⟨HYb.out.1, HYb.out.2.2, hm0, hm1, by omega, by omega⟩, by unfold num; omega⟩)
            go_wp2_with fail
            refine wp_region_wb (by kernel_rfl) (by kernel_rfl) ?_; (repeat ((with_reducible refine wpQuiet_step ?_); intro K hK; go_simp; (try (refine ite_neg_of (by simp [undef]) ?_)); first | (with_reducible refine hK _ ?_; clear hK K) | (apply Exists.intro; (with_reducible refine ⟨fun _ => ?_, hK _ ?_⟩); (first | (go_at_call 106; exact Calls.wb0 (HL.out _)) | (go_at_call 107; exact Calls.wb0 (HDd.out _))); clear hK K))); (with_reducible refine wpQuiet_nil ?_); rintro w1 ⟨⟨_, hb1⟩, rfl⟩; (try dsimp only)
            have HD2 := Lib.hid (HDm.out.below hb1)
            obtain ⟨q0, q1, q2⟩ := three_cells HD2.out.c
            obtain ⟨r0, r1, r2⟩ := three_cells HD2.out.r
            have hfz := frozen_row HD2.out.c
            have hfr := frozen_row HD2.out.r
            have hsz2 : w.heap.size + 1 < w1.heap.size := (Array.getElem?_eq_some_iff.1 HD2.out.c).1
            clear hb1 ss
            go_wp2_with fail
            refine bodyPost_ret (v := .agg #[.int .i64 y, .int .i64 m, .int .i64 (n - dby y - cum y m + 1)]) (by simp [results, Tryz.results78, go_sem, r0, r1, r2]) rfl ⟨y, m, _, rfl, HR.out.1, HR.out.2, ?_⟩
            iterate 3 (refine Below.setCell (p := ⟨w.heap.size, _, none⟩) ?_ (Nat.le_refl w.heap.size) _)
            refine Below.setCell (p := ⟨w.heap.size + 1, _, none⟩) ?_ (Nat.le_succ w.heap.size) _
            exact HD2.out.bel
    · have HL := Lib.hid (rleap_is hl hy0 (by omega))
      have HE := Lib.hid (show doy y = 366 by unfold doy; rw [hl]; rfl)
      have HLb := Lib.hid hl
      clear hl
      by_cases hlt : 366 ≤ n - dby y
      · go_wp2_with (go_at_call 106; refine (HL.out _).mono ?_; rintro e w' ⟨rfl, rfl⟩)
        have HD2 := Lib.hid (show DS w (y + 1) 1 0 (wr.setCell ⟨w.heap.size + 1, 0, none⟩ (.int .i64 (y + 1))) from HD.out.set (by simp))
        go_roundw
        case rel => exact ⟨y + 1, by omega, by rw [HS.out, HE.out]; omega, by rw [HS.out, HE.out]; go_num, HD2.out⟩
        case measure => simp [intOf]; omega
      · go_wp2_with (go_at_call 106; refine (HL.out _).mono ?_; rintro e w' ⟨rfl, rfl⟩)
        have hle : n - dby y < doy y := by rw [HE.out]; omega
        have HLe := Lib.hid hle
        clear hle q0 q1 q2 hfz hlt
        have HYb := Lib.hid (And.intro hy0 (And.intro hy1 hy2))
        obtain ⟨wo, rfl⟩ : ∃ wo : World, wo = wr := ⟨_, rfl⟩
        go_loopw [0] (fun t wr => ∃ m : Int, 1 ≤ m ∧ m ≤ 12 ∧ dby y + cum y m ≤ n ∧ t = .int .i64 (n - dby y - cum y m) ∧ DS w y m 0 wr) (fun t _ => (intOf t).toNat)
        case atStart => exact ⟨1, by omega, by omega, by rw [cum_one]; omega, by rw [cum_one]; simp, HD.out⟩
        case round =>
          obtain ⟨m, hm0, hm1, hm2, rfl, hDm⟩ := hrel
          have HDm := Lib.hid hDm
          have hdm := dom_bd y m
          have hcl := cum_le y m
          have hdy := doy_cases y
          have hdy' : doy y ≤ 366 := by omega
          clear hdy
          have HDd := Lib.hid (fun w => show Calls Tryz.prog 107 #[.int .i64 m, .bool true] w fun e w' => e = .returned (.int .i64 (dom y m)) ∧ w = w' from by
            have h := rdays_any m true w
            rwa [show domL true m = dom y m by unfold dom; rw [HLb.out]] at h)
          obtain ⟨q0, q1, q2⟩ := three_cells hDm.c
          have ss := fun p => (⟨Wb.cell q0 p, Wb.cell q1 p, Wb.cell q2 p⟩ : _ ∧ _ ∧ _)
          clear hDm q0 q1 q2
          by_cases hlt2 : dom y m ≤ n - dby y - cum y m
          · have hcs := Lib.hid (cum_succ y m hm0 hm1)
            have hm3 : m < 12 := by
              rcases Int.lt_or_le m 12 with h | h
              · exact h
              · exfalso
                have e : m = 12 := by omega
                subst e
                have h13 := cum_13 y
                have := hcs.out
                rw [show (12 : Int) + 1 = 13 by rfl, h13] at this
                have := HLe.out
                omega
            go_wp2_with fail
            refine wp_region_wb (by kernel_rfl) (by kernel_rfl) ?_; (repeat ((with_reducible refine wpQuiet_step ?_); intro K hK; go_simp; (try (refine ite_neg_of (by simp [undef]) ?_)); first | (with_reducible refine hK _ ?_; clear hK K) | (apply Exists.intro; (with_reducible refine ⟨fun _ => ?_, hK _ ?_⟩); (first | (go_at_call 106; exact Calls.wb0 (HL.out _)) | (go_at_call 107; exact Calls.wb0 (HDd.out _))); clear hK K))); (with_reducible refine wpQuiet_nil ?_); rintro w1 ⟨⟨_, hb1⟩, rfl⟩; (try dsimp only)
            go_wp2_with fail
            have HD1 := Lib.hid (HDm.out.below hb1)
            obtain ⟨q0, q1, q2⟩ := three_cells HD1.out.c
            have ss := fun p => (⟨Wb.cell q0 p, Wb.cell q1 p, Wb.cell q2 p⟩ : _ ∧ _ ∧ _)
            clear q0 q1 q2 hb1
            have hwr : IntKind.i64.wrap (n - dby y - cum y m - dom y m) = n - dby y - cum y m - dom y m := by rw [IntKind.wrap_i64]; omega
            obtain ⟨wq, rfl⟩ : ∃ wq : World, wq = w1 := ⟨_, rfl⟩
            refine wp_region_wb (by kernel_rfl) (by kernel_rfl) ?_; (repeat ((with_reducible refine wpQuiet_step ?_); intro K hK; go_simp; (try (refine ite_neg_of (by simp [undef]) ?_)); first | (with_reducible refine hK _ ?_; clear hK K) | (apply Exists.intro; (with_reducible refine ⟨fun _ => ?_, hK _ ?_⟩); (first | (go_at_call 106; exact Calls.wb0 (HL.out _)) | (go_at_call 107; exact Calls.wb0 (HDd.out _))); clear hK K))); (with_reducible refine wpQuiet_nil ?_); rintro w1 ⟨⟨_, hb1⟩, rfl⟩; (try dsimp only)
            have HD2 := Lib.hid (HD1.out.below hb1)
            obtain ⟨q0, q1, q2⟩ := three_cells HD2.out.c
            have hfz := frozen_row HD2.out.c
            have hsz2 : w.heap.size + 1 < w1.heap.size := (Array.getElem?_eq_some_iff.1 HD2.out.c).1
            clear hb1
            go_wp2_with fail
            have HD3 := Lib.hid (show DS w y (m + 1) 0 (w1.setCell ⟨w.heap.size + 1, 1, none⟩ (.int .i64 (m + 1))) from HD2.out.set (by simp))
            go_roundw
            case rel => exact ⟨m + 1, by omega, by omega, by rw [hcs.out]; omega, by rw [hcs.out]; go_num, HD3.out⟩
            case measure => simp [intOf]; omega
          · have HR := Lib.hid (show vdate y m (n - dby y - cum y m + 1) = true ∧ num y m (n - dby y - cum y m + 1) = n from
              ⟨(vdate_iff _ _ _).2 ⟨HYb.out.1, HYb.out.2.2, hm0, hm1, by omega, by omega⟩, by unfold num; omega⟩)
            go_wp2_with fail
            refine wp_region_wb (by kernel_rfl) (by kernel_rfl) ?_; (repeat ((with_reducible refine wpQuiet_step ?_); intro K hK; go_simp; (try (refine ite_neg_of (by simp [undef]) ?_)); first | (with_reducible refine hK _ ?_; clear hK K) | (apply Exists.intro; (with_reducible refine ⟨fun _ => ?_, hK _ ?_⟩); (first | (go_at_call 106; exact Calls.wb0 (HL.out _)) | (go_at_call 107; exact Calls.wb0 (HDd.out _))); clear hK K))); (with_reducible refine wpQuiet_nil ?_); rintro w1 ⟨⟨_, hb1⟩, rfl⟩; (try dsimp only)
            have HD2 := Lib.hid (HDm.out.below hb1)
            obtain ⟨q0, q1, q2⟩ := three_cells HD2.out.c
            obtain ⟨r0, r1, r2⟩ := three_cells HD2.out.r
            have hfz := frozen_row HD2.out.c
            have hfr := frozen_row HD2.out.r
            have hsz2 : w.heap.size + 1 < w1.heap.size := (Array.getElem?_eq_some_iff.1 HD2.out.c).1
            clear hb1 ss
            go_wp2_with fail
            refine bodyPost_ret (v := .agg #[.int .i64 y, .int .i64 m, .int .i64 (n - dby y - cum y m + 1)]) (by simp [results, Tryz.results78, go_sem, r0, r1, r2]) rfl ⟨y, m, _, rfl, HR.out.1, HR.out.2, ?_⟩
            iterate 3 (refine Below.setCell (p := ⟨w.heap.size, _, none⟩) ?_ (Nat.le_refl w.heap.size) _)
            refine Below.setCell (p := ⟨w.heap.size + 1, _, none⟩) ?_ (Nat.le_succ w.heap.size) _
            exact HD2.out.bel
end Go.Proofs.YtabolonlkocopaaGreatDoor


/- Dates, nights and seasons of the reference, third part. -/
namespace Go.Proofs.YtabolonlkocopaaGreatDoor
open Go.RowKit Go.Plc

theorem vday_no {n : Int} (h : ¬ (101 ≤ n ∧ n ≤ 1231)) : vday n = false := by
  cases hv : vday n
  · rfl
  · obtain ⟨m, d, hn, _, _, h1, h2, h3, h4, h5⟩ := vday_form hv
    omega
end Go.Proofs.YtabolonlkocopaaGreatDoor
