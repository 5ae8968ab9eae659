/- Dates and nights: what each function of the calendar returns. No conditions beyond the bounds in each statement. -/
import Derived.Test.YtabolonlkocopaaDoorBase
namespace Go.Proofs.YtabolonlkocopaaDoor
open Go.RowKit Go.Plc

theorem MonthDays.keep {w w' : World} (h : MonthDays w) (hk : ∀ p : Addr, p.block < w.heap.size → w'.cell? p = w.cell? p) : MonthDays w' := by
  intro m hm
  have h0 := h m hm
  rw [hk _ (by
    rcases Nat.lt_or_ge 0 w.heap.size with hlt | hge
    · exact hlt
    · exfalso
      have : w.heap[0]? = none := Array.getElem?_eq_none hge
      simp [World.cell?, this] at h0), h0]
theorem MonthDays.below {w w' : World} (h : MonthDays w) (hb : Below w.heap.size w w') : MonthDays w' := h.keep fun _ hp => hb.cell hp
theorem MonthDays.alloc {w : World} (h : MonthDays w) (o : Obj) : MonthDays (w.alloc o) := h.keep fun p hp => World.cell?_alloc_lt w o p hp
theorem MonthDays.drew {w : World} (h : MonthDays w) : MonthDays w.drew := h

theorem MonthDays.drewN {w : World} (h : MonthDays w) (n : Nat) : MonthDays (w.drewN n) := h

set_option maxHeartbeats 400000 in
theorem ValidDate_any (y m d : Int) (w : World) (hM : MonthDays w) :
    Calls Tryd.prog 31 #[.agg #[.int .i64 y, .int .i64 m, .int .i64 d]] w fun e w' => e = .returned (.bool (vdate y m d)) ∧ Below w.heap.size w w' := by
  have HV := Lib.hid (vdate_iff y m d)
  by_cases hy : 0 ≤ y ∧ y ≤ 273 ∧ 1 ≤ m ∧ m ≤ 12
  · obtain ⟨h1, h2, h3, h4⟩ := hy
    have HC := fun w hM => (daysOfMonth_any y m w hM h1 (by omega) h3 h4)
    have hM' := Lib.hid hM
    clear hM
    by_cases hd : 1 ≤ d
    · go_enter Tryd.func31, Tryd.ntmps31
      go_wp2_with fail
      go_quiet ((go_at_call 61; exact quiet_l (HC _ ((hM'.out.alloc _).drewN _))))
      go_wp2_with fail
      go_ret
      exact ⟨ret_b (by rw [Bool.eq_iff_iff, HV.out]; simp; omega), below_drewN (below_new _) _⟩
    · have hd' : decide (1 ≤ d) = false := by simpa using hd
      go_enter Tryd.func31, Tryd.ntmps31
      go_wp2_with fail
      go_quiet (fail)
      go_wp2_with fail
      go_ret
      exact ⟨ret_b (by rw [Bool.eq_iff_iff, HV.out]; simp; omega), below_drewN (below_new _) _⟩
  · have HF := Lib.hid (show vdate y m d = false by
      cases h : vdate y m d
      · rfl
      · exact absurd (by have := HV.out.1 h; omega) hy)
    go_enter Tryd.func31, Tryd.ntmps31
    go_wp2_with fail
    all_goals go_outline
    all_goals (try go_ret)
    all_goals exact ⟨ret_b (by rw [HF.out]), below_new _⟩
end Go.Proofs.YtabolonlkocopaaDoor
