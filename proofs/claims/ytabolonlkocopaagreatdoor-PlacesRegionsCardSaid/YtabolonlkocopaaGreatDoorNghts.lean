
/- Dates and nights: what each function of the calendar returns. No conditions beyond the bounds in each statement. -/
import Derived.Test.YtabolonlkocopaaGreatDoorBase
namespace Go.Proofs.YtabolonlkocopaaGreatDoor
open Go.RowKit Go.Plc

theorem MonthDays.keep {w w' : World} (h : MonthDays w) (hk : ∀ p : Addr, p.block < w.heap.size → w'.cell? p = w.cell? p) : MonthDays w' := by
  intro m hm
  have h0 := h m hm
  rw [hk _ (by
    rcases Nat.lt_or_ge 0 w.heap.size with hlt | hge
    · exact hlt
    · exfalso
      have : w.heap[0]? = none := Array.getElem?_eq_none hge
      simp [World.cell?, this] at h0), h0]
theorem MonthDays.below {w w' : World} (h : MonthDays w) (hb : Below w.heap.size w w') : MonthDays w' := h.keep fun _ hp => hb.cell hp
theorem MonthDays.alloc {w : World} (h : MonthDays w) (o : Obj) : MonthDays (w.alloc o) := h.keep fun p hp => World.cell?_alloc_lt w o p hp
theorem MonthDays.drew {w : World} (h : MonthDays w) : MonthDays w.drew := h

theorem MonthDays.drewN {w : World} (h : MonthDays w) (n : Nat) : MonthDays (w.drewN n) := h

set_option maxHeartbeats 400000 in
theorem ValidDate_any (y m d : Int) (w : World) (hM : MonthDays w) :
    Calls Tryz.prog 82 #[.agg #[.int .i64 y, .int .i64 m, .int .i64 d]] w fun e w' => e = .returned (.bool (vdate y m d)) ∧ Below w.heap.size w w' := by
  have HV := Lib.hid (vdate_iff y m d)
  by_cases hy : 0 ≤ y ∧ y ≤ 273 ∧ 1 ≤ m ∧ m ≤ 12
  · obtain ⟨h1, h2, h3, h4⟩ := hy
    have HC := fun w hM => (daysOfMonth_any y m w hM h1 (by omega) h3 h4)
    have hM' := Lib.hid hM
    clear hM
    by_cases hd : 1 ≤ d
    · go_enter Tryz.func82, Tryz.ntmps82
      go_wp2_with fail
      go_quiet ((go_at_call 84; exact quiet_l (HC _ ((hM'.out.alloc _).drewN _))))
      go_wp2_with fail
      go_ret
      exact ⟨ret_b (by rw [Bool.eq_iff_iff, HV.out]; simp; omega), below_drewN (below_new _) _⟩
    · have hd' : decide (1 ≤ d) = false := by simpa using hd
      go_enter Tryz.func82, Tryz.ntmps82
      go_wp2_with fail
      go_quiet (fail)
      go_wp2_with fail
      go_ret
      exact ⟨ret_b (by rw [Bool.eq_iff_iff, HV.out]; simp; omega), below_drewN (below_new _) _⟩
  · have HF := Lib.hid (show vdate y m d = false by
      cases h : vdate y m d
      · rfl
      · exact absurd (by have := HV.out.1 h; omega) hy)
    go_enter Tryz.func82, Tryz.ntmps82
    go_wp2_with fail
    all_goals go_outline
    all_goals (try go_ret)
    all_goals exact ⟨ret_b (by rw [HF.out]), below_new _⟩
end Go.Proofs.YtabolonlkocopaaGreatDoor


/- Dates and nights, second part. -/
namespace Go.Proofs.YtabolonlkocopaaGreatDoor
open Go.RowKit Go.Plc

def nightV (y m d : Int) : Int := if vdate y m d = true then (if num y m d > 99999 then 0 else num y m d) else 0
def nightE (y m d : Int) : Int := if vdate y m d = true then (if num y m d > 99999 then 2 else 0) else 12

theorem night_big {y m d : Int} (hv : vdate y m d = true) (h : 99999 < num y m d) : nightV y m d = 0 ∧ nightE y m d = 2 := by
  unfold nightV nightE; simp [hv, h]
theorem night_small {y m d : Int} (hv : vdate y m d = true) (h : ¬ 99999 < num y m d) : nightV y m d = num y m d ∧ nightE y m d = 0 := by
  unfold nightV nightE; simp [hv, h]
theorem night_bad {y m d : Int} (hv : vdate y m d = false) : nightV y m d = 0 ∧ nightE y m d = 12 := by
  unfold nightV nightE; simp [hv]

set_option maxHeartbeats 400000 in
theorem NightOf_bad (y m d : Int) (w : World) (hM : MonthDays w) (hv : vdate y m d = false) :
    Calls Tryz.prog 36 #[.agg #[.int .i64 y, .int .i64 m, .int .i64 d]] w fun e w' => e = .returned (.tuple #[.int .i64 0, .int .i64 12]) ∧ Below w.heap.size w w' := by
  have HC := fun w hM => ValidDate_any y m d w hM
  rw [hv] at HC
  have hM' := Lib.hid hM
  clear hM hv
  go_enter Tryz.func36, Tryz.ntmps36
  go_wp2_with fail
  refine (HC _ (hM'.out.alloc _)).mono ?_
  rintro e w1 ⟨rfl, hb⟩
  go_wp2_with fail
  go_ret2
  exact ⟨rfl, (below_new _).trans (hb.mono (by simp))⟩

set_option maxHeartbeats 400000 in
theorem NightOf_ok (y m d : Int) (w : World) (hM : MonthDays w) (hv : vdate y m d = true) :
    Calls Tryz.prog 36 #[.agg #[.int .i64 y, .int .i64 m, .int .i64 d]] w fun e w' => e = .returned (.tuple #[.int .i64 (nightV y m d), .int .i64 (nightE y m d)]) ∧ Below w.heap.size w w' := by
  have HV := Lib.hid ((vdate_iff y m d).1 hv)
  have HC := fun w hM => ValidDate_any y m d w hM
  rw [hv] at HC
  have hM' := Lib.hid hM
  clear hM hv
  go_enter Tryz.func36, Tryz.ntmps36
  go_wp2_with fail
  refine (HC _ (hM'.out.alloc _)).mono ?_
  rintro e w1 ⟨rfl, hb⟩
  obtain ⟨c0, c1, c2, hw, hz⟩ := box3 hb
  have hM1 := Lib.hid (hM'.out.below hw)
  clear hb HC hM'
  obtain ⟨v1, v2, v3, v4, v5, v6⟩ := HV.out
  have hdm := dom_bd y m
  go_wp2_with fail
  go_loop [4, 15] (fun n k => ∃ j : Int, 0 ≤ j ∧ j ≤ y ∧ k = .int .i64 j ∧ n = .int .i64 (d - 1 + dby j)) (fun _ k => (y - intOf k).toNat)
  case atStart => exact ⟨0, by omega, v1, rfl, by rw [dby_zero]; simp⟩
  case round =>
    obtain ⟨j, hj0, hj1, rfl, rfl⟩ := hrel
    have hbd := dby_bd hj0 (by omega)
    have hs := Lib.hid (dby_succ j)
    have hc := doy_cases j
    have hc' : 365 ≤ doy j ∧ doy j ≤ 366 := by omega
    clear hc
    by_cases hlt : j < y
    · go_wp2_with (go_at_call 83; refine (daysOfYear_any _ _ (by omega) (by omega)).mono ?_; rintro e w' ⟨rfl, rfl⟩)
      go_round
      case rel => exact ⟨j + 1, by omega, by omega, rfl, by rw [hs.out]; go_num⟩
      case measure => simp [intOf]; omega
    · obtain rfl : j = y := by omega
      clear hs hc'
      go_wp2_with fail
      go_loop [4, 6] (fun n k => ∃ i : Int, 1 ≤ i ∧ i ≤ m ∧ k = .int .i64 i ∧ n = .int .i64 (d - 1 + dby j + cum j i)) (fun _ k => (m - intOf k).toNat)
      case atStart => exact ⟨1, by omega, v3, rfl, by rw [cum_one]; simp⟩
      case round =>
        obtain ⟨i, hi0, hi1, rfl, rfl⟩ := hrel
        have hcb := cum_le j i
        have hdb := doy_cases j
        have hdb' : doy j ≤ 366 := by omega
        clear hdb
        by_cases hlt2 : i < m
        · have hcs := Lib.hid (cum_succ j i hi0 (by omega))
          have hdm2 := dom_bd j i
          go_wp2_with (go_at_call 84; refine (daysOfMonth_any _ _ _ hM1.out (by omega) (by omega) (by omega) (by omega)).mono ?_; rintro e w' ⟨rfl, rfl⟩)
          go_round
          case rel => exact ⟨i + 1, by omega, by omega, rfl, by rw [hcs.out]; go_num⟩
          case measure => simp [intOf]; omega
        · obtain rfl : i = m := by omega
          have hvv := Lib.hid ((vdate_iff j i d).2 HV.out)
          have hnum := Lib.hid (show num j i d = d - 1 + dby j + cum j i from rfl)
          by_cases hbig : 99999 < d - 1 + dby j + cum j i
          · have hn := Lib.hid (night_big hvv.out hbig)
            go_wp2_with fail
            go_ret2
            exact ⟨ret_ii hn.out.1.symm hn.out.2.symm, hw⟩
          · have hn := Lib.hid (night_small hvv.out hbig)
            go_wp2_with fail
            go_ret2
            exact ⟨ret_ii (by rw [hn.out.1, hnum.out]) hn.out.2.symm, hw⟩

/-- the night of a date, whatever the date -/
theorem NightOf_any (y m d : Int) (w : World) (hM : MonthDays w) :
    Calls Tryz.prog 36 #[.agg #[.int .i64 y, .int .i64 m, .int .i64 d]] w fun e w' => e = .returned (.tuple #[.int .i64 (nightV y m d), .int .i64 (nightE y m d)]) ∧ Below w.heap.size w w' := by
  cases hv : vdate y m d
  · rw [(night_bad hv).1, (night_bad hv).2]; exact NightOf_bad y m d w hM hv
  · exact NightOf_ok y m d w hM hv

/-! the date of a night -/
theorem validNight_any (n : Int) (w : World) : Calls Tryz.prog 75 #[.int .i64 n] w fun e w' => e = .returned (.bool (decide (0 ≤ n) && decide (n ≤ 99999))) ∧ w = w' := by
  cases h1 : decide (0 ≤ n) <;> cases h2 : decide (n ≤ 99999)
  all_goals
    go_enter Tryz.func75, Tryz.ntmps75
    go_wp2_with fail
    go_ret
    exact ⟨ret_b (by simp_all), rfl⟩

/-- what is returned for a night: the one date -/
def DateIs (n : Int) (w : World) (e : Ending) (w' : World) : Prop :=
  ∃ y m d, e = .returned (.agg #[.int .i64 y, .int .i64 m, .int .i64 d]) ∧ vdate y m d = true ∧ num y m d = n ∧ Below w.heap.size w w'

theorem year_bd {n y : Int} (h0 : 0 ≤ y) (h : dby y ≤ n) (hn : n ≤ 100000) : y ≤ 273 := by
  rcases Int.lt_or_le y 274 with h' | h'
  · omega
  · have := dby_mono h'
    have e : dby 274 = 100077 := by decide
    omega

set_option maxHeartbeats 400000 in
theorem dateBehind_any (n : Int) (w : World) (hM : MonthDays w) (h0 : 0 ≤ n) (h1 : n ≤ 100000) :
    Calls Tryz.prog 77 #[.int .i64 n] w (DateIs n w) := by
  go_enter Tryz.func77, Tryz.ntmps77
  go_wp2_with fail
  have hM' := Lib.hid (hM.alloc (.cells #[.int .i64 0, .int .i64 0, .int .i64 0] 48))
  clear hM
  go_loop [0, 3] (fun t k => ∃ y : Int, 0 ≤ y ∧ dby y ≤ n ∧ k = .int .i64 y ∧ t = .int .i64 (n - dby y)) (fun t _ => (intOf t).toNat)
  case atStart => exact ⟨0, by omega, by rw [dby_zero]; omega, rfl, by rw [dby_zero]; simp⟩
  case round =>
    obtain ⟨y, hy0, hy1, rfl, rfl⟩ := hrel
    have hy2 := year_bd hy0 hy1 h1
    have hbd := dby_bd hy0 (by omega)
    have hc := doy_cases y
    have hc' : 365 ≤ doy y ∧ doy y ≤ 366 := by omega
    clear hc
    by_cases hlt : doy y ≤ n - dby y
    · have hs := Lib.hid (dby_succ y)
      go_wp2_with (go_at_call 83; refine (daysOfYear_any _ _ (by omega) (by omega)).mono ?_; rintro e w' ⟨rfl, rfl⟩)
      go_round
      case rel => exact ⟨y + 1, by omega, by rw [hs.out]; omega, rfl, by rw [hs.out]; go_num⟩
      case measure => simp [intOf]; omega
    · go_wp2_with (go_at_call 83; refine (daysOfYear_any _ _ (by omega) (by omega)).mono ?_; rintro e w' ⟨rfl, rfl⟩)
      go_loop [0, 4] (fun t k => ∃ m : Int, 1 ≤ m ∧ m ≤ 12 ∧ dby y + cum y m ≤ n ∧ k = .int .i64 m ∧ t = .int .i64 (n - dby y - cum y m)) (fun t _ => (intOf t).toNat)
      case atStart => exact ⟨1, by omega, by omega, by rw [cum_one]; omega, rfl, by rw [cum_one]; simp⟩
      case round =>
        obtain ⟨m, hm0, hm1, hm2, rfl, rfl⟩ := hrel
        have hdm := dom_bd y m
        have hcl := cum_le y m
        by_cases hlt2 : dom y m ≤ n - dby y - cum y m
        · have hcs := Lib.hid (cum_succ y m hm0 hm1)
          have hm3 : m < 12 := by
            rcases Int.lt_or_le m 12 with h | h
            · exact h
            · exfalso
              have e : m = 12 := by omega
              subst e
              have h13 := cum_13 y
              have := hcs.out
              rw [show (12 : Int) + 1 = 13 by rfl, h13] at this
              omega
          go_wp2_with (go_at_call 84; refine (daysOfMonth_any _ _ _ hM'.out (by omega) (by omega) (by omega) (by omega)).mono ?_; rintro e w' ⟨rfl, rfl⟩)
          go_round
          case rel => exact ⟨m + 1, by omega, by omega, by rw [hcs.out]; omega, rfl, by rw [hcs.out]; go_num⟩
          case measure => simp [intOf]; omega
        · go_wp2_with (go_at_call 84; refine (daysOfMonth_any _ _ _ hM'.out (by omega) (by omega) (by omega) (by omega)).mono ?_; rintro e w' ⟨rfl, rfl⟩)
          refine bodyPost_ret (v := .agg #[.int .i64 y, .int .i64 m, .int .i64 (n - dby y - cum y m + 1)]) (by simp [results, Tryz.results77, go_sem]) rfl ⟨y, m, _, rfl, ?_, ?_, ?_⟩
          · exact (vdate_iff _ _ _).2 ⟨hy0, hy2, hm0, hm1, by omega, by omega⟩
          · unfold num; omega
          · exact below_new _
end Go.Proofs.YtabolonlkocopaaGreatDoor
