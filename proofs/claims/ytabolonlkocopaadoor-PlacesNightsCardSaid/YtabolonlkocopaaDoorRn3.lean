/- Dates, nights and seasons of the reference, third part. -/
import Derived.Test.YtabolonlkocopaaDoorRn2
import Derived.Test.YtabolonlkocopaaDoorText2
namespace Go.Proofs.YtabolonlkocopaaDoor
open Go.RowKit Go.Plc

theorem vday_no {n : Int} (h : ¬ (101 ≤ n ∧ n ≤ 1231)) : vday n = false := by
  cases hv : vday n
  · rfl
  · obtain ⟨m, d, hn, _, _, h1, h2, h3, h4, h5⟩ := vday_form hv
    omega
set_option maxHeartbeats 2000000 in
theorem rmarked_any (n : Int) (w : World) :
    Calls Tryd.prog 69 #[.int .i64 n] w fun e w' => e = .returned (.bool (vday n)) ∧ w = w' := by
  cases c1 : (decide (101 ≤ n) && decide (n ≤ 1231))
  · have HW := Lib.hid (rwithin_is c1)
    have HF := Lib.hid (show vday n = false from vday_no fun h => by
      rw [Bool.and_eq_false_iff, decide_eq_false_iff_not, decide_eq_false_iff_not] at c1; omega)
    clear c1
    go_enter Tryd.func69, Tryd.ntmps69
    go_wp2_with fail
    refine (HW.out _).mono ?_
    rintro e w1 ⟨rfl, rfl⟩
    go_wp2_with fail
    go_ret
    exact ⟨ret_b HF.out.symm, rfl⟩
  · have hr : 101 ≤ n ∧ n ≤ 1231 := by simpa using c1
    have HW := Lib.hid (rwithin_is c1)
    have ed : n.tdiv 100 = n / 100 := Int.tdiv_eq_ediv_of_nonneg (by omega)
    have em : n.tmod 100 = n % 100 := Int.tmod_eq_emod_of_nonneg (by omega)
    have HV := Lib.hid (show vday n = true ↔ _ from (vdate_iff 0 (n.tdiv 100) (n.tmod 100)))
    rw [ed, em] at HV
    have e0 : dom 0 (n / 100) = domL true (n / 100) := by
      unfold dom; rw [show leapB 0 = true by decide]
    rw [e0] at HV
    clear ed em e0
    obtain ⟨r1, r2⟩ := hr
    cases c2 : (decide (1 ≤ n / 100) && decide (n / 100 ≤ 12))
    · have HW2 := Lib.hid (rwithin_is c2)
      have HF := Lib.hid (show vday n = false by
        rw [← Bool.not_eq_true, HV.out]
        rw [Bool.and_eq_false_iff, decide_eq_false_iff_not, decide_eq_false_iff_not] at c2; omega)
      clear c1 c2
      go_enter Tryd.func69, Tryd.ntmps69
      go_wp2_with fail
      refine (HW.out _).mono ?_
      rintro e w1 ⟨rfl, rfl⟩
      go_wp2_with fail
      refine (HW2.out _).mono ?_
      rintro e w1 ⟨rfl, rfl⟩
      go_wp2_with fail
      go_ret
      exact ⟨ret_b HF.out.symm, rfl⟩
    · have HW2 := Lib.hid (rwithin_is c2)
      have h2 : 1 ≤ n / 100 ∧ n / 100 ≤ 12 := by simpa using c2
      have HD := Lib.hid (fun w => rdays_any (n / 100) true w)
      have HF := Lib.hid (show vday n = (decide (1 ≤ n % 100) && decide (n % 100 ≤ domL true (n / 100))) by
        rw [Bool.eq_iff_iff, HV.out, Bool.and_eq_true, decide_eq_true_eq, decide_eq_true_eq]; omega)
      generalize domL true (n / 100) = dm at *
      have HW3 := Lib.hid (rwithin_is (n := n % 100) (lo := 1) (hi := dm) rfl)
      clear c1 c2 h2
      go_enter Tryd.func69, Tryd.ntmps69
      go_wp2_with fail
      refine (HW.out _).mono ?_
      rintro e w1 ⟨rfl, rfl⟩
      go_wp2_with fail
      refine (HW2.out _).mono ?_
      rintro e w1 ⟨rfl, rfl⟩
      go_wp2_with fail
      refine (HD.out _).mono ?_
      rintro e w1 ⟨rfl, rfl⟩
      go_wp2_with fail
      refine (HW3.out _).mono ?_
      rintro e w1 ⟨rfl, rfl⟩
      go_wp2_with fail
      go_ret
      exact ⟨ret_b HF.out.symm, rfl⟩

theorem rmarked_is {n : Int} {b : Bool} (h : vday n = b) (w : World) :
    Calls Tryd.prog 69 #[.int .i64 n] w fun e w' => e = .returned (.bool b) ∧ w = w' := by
  have h2 := rmarked_any n w
  rwa [h] at h2
set_option maxHeartbeats 1000000 in
theorem rValidSeason_any (f t : Int) (w : World) :
    Calls Tryd.prog 34 #[.agg #[.int .i64 f, .int .i64 t]] w fun e w' => e = .returned (.bool (vday f && vday t)) ∧ Below w.heap.size w w' := by
  cases hf : vday f
  · have HF := Lib.hid (rmarked_is hf)
    clear hf
    go_enter Tryd.func34, Tryd.ntmps34
    go_wp2_with fail
    refine (HF.out _).mono ?_
    rintro e w1 ⟨rfl, rfl⟩
    go_wp2_with fail
    go_ret
    exact ⟨ret_b rfl, below_new _⟩
  · have HF := Lib.hid (rmarked_is hf)
    have HT := Lib.hid (rmarked_any t)
    clear hf
    generalize vday t = b at *
    go_enter Tryd.func34, Tryd.ntmps34
    go_wp2_with fail
    refine (HF.out _).mono ?_
    rintro e w1 ⟨rfl, rfl⟩
    go_wp2_with fail
    refine (HT.out _).mono ?_
    rintro e w1 ⟨rfl, rfl⟩
    go_wp2_with fail
    go_ret
    exact ⟨ret_b (by simp), below_new _⟩

set_option maxHeartbeats 1000000 in
theorem rDateOf_any (n : Int) (w : World) : Calls Tryd.prog 28 #[.int .i64 n] w (DateRes n w) := by
  by_cases hn : 0 ≤ n ∧ n ≤ 99999
  · have HW := Lib.hid (rwithin_is (n := n) (lo := 0) (hi := 99999) (b := true) (by simp; omega))
    have HD := Lib.hid (rdate_any n (w.alloc (.cells #[.int .i64 0, .int .i64 0, .int .i64 0] 38)) hn.1 (by omega))
    have HN := Lib.hid hn
    clear hn
    go_enter Tryd.func28, Tryd.ntmps28
    go_wp2_with fail
    refine (HW.out _).mono ?_
    rintro e w1 ⟨rfl, rfl⟩
    go_wp2_with fail
    refine HD.out.mono ?_
    rintro e w2 ⟨y, m, d, rfl, hv, hnm, hb⟩
    have HR := Lib.hid (And.intro hv hnm)
    have HB := Lib.hid hb
    have hbx := (hb.block w.heap.size (by simp)).trans (World.alloc_heap_new w (.cells #[.int .i64 0, .int .i64 0, .int .i64 0] 38))
    obtain ⟨c0, c1, c2⟩ := three_cells hbx
    have hfz := frozen_row hbx
    have hsz : w.heap.size < w2.heap.size := (Array.getElem?_eq_some_iff.1 hbx).1
    clear hv hnm hb
    go_wp2_with fail
    refine bodyPost_ret (v := .tuple #[.agg #[.int .i64 y, .int .i64 m, .int .i64 d], .int .i64 0]) (by simp [results, Tryd.results28, go_sem, c0, c1, c2]) rfl ⟨.inl ⟨HN.out.1, HN.out.2, y, m, d, rfl, HR.out⟩, ?_⟩
    have hb0 : Below w.heap.size w w2 := (below_new _).trans (HB.out.mono (by simp))
    iterate 3 (refine Below.setCell (p := ⟨w.heap.size, _, none⟩) ?_ (Nat.le_refl w.heap.size) _)
    exact hb0
  · have HW := Lib.hid (rwithin_is (n := n) (lo := 0) (hi := 99999) (b := false) (by rw [Bool.and_eq_false_iff]; simp; omega))
    have HN := Lib.hid hn
    clear hn
    go_enter Tryd.func28, Tryd.ntmps28
    go_wp2_with fail
    refine (HW.out _).mono ?_
    rintro e w1 ⟨rfl, rfl⟩
    go_wp2_with fail
    refine bodyPost_ret (v := .tuple #[.agg #[.int .i64 0, .int .i64 0, .int .i64 0], .int .i64 1]) (by simp [results, Tryd.results28, go_sem]) rfl ⟨.inr ⟨HN.out, rfl⟩, ?_⟩
    (repeat (first | exact Below.refl _ _ | refine Below.drew ?_ | refine below_drewN ?_ _ | refine Below.alloc ?_ (by simp; try omega) _ | refine Below.setCell ?_ (by simp; try omega) _))

set_option maxHeartbeats 4000000 in
theorem rInSeason_any (f t n : Int) (w : World) :
    Calls Tryd.prog 30 #[.agg #[.int .i64 f, .int .i64 t], .int .i64 n] w (SeaRes f t n w) := by
  have HV := Lib.hid (rValidSeason_any f t (w.alloc (.cells #[.int .i64 f, .int .i64 t] 40)))
  cases hs : (vday f && vday t)
  · rw [hs] at HV
    have HS := Lib.hid hs
    clear hs
    go_enter Tryd.func30, Tryd.ntmps30
    go_wp2_with fail
    refine HV.out.mono ?_
    rintro e w1 ⟨rfl, hb1⟩
    have H1 := Lib.hid (show Below w.heap.size w w1 from (below_new _).trans (hb1.mono (by simp)))
    clear hb1
    go_wp2_with fail
    go_ret2
    exact ⟨.inr ⟨12, rfl, rfl, .inl HS.out, by rw [HS.out]; rfl⟩, H1.out⟩
  · rw [hs] at HV
    have HS := Lib.hid hs
    clear hs
    by_cases hn : 0 ≤ n ∧ n ≤ 99999
    · have HVn := Lib.hid (rwithin_is (n := n) (lo := 0) (hi := 99999) (b := true) (by simp; omega))
      have HN := Lib.hid hn
      have HD := Lib.hid (fun w => rdate_any n w hn.1 (by omega))
      clear hn
      go_enter Tryd.func30, Tryd.ntmps30
      go_wp2_with fail
      refine HV.out.mono ?_
      rintro e w1 ⟨rfl, hb1⟩
      have H1 := Lib.hid (show Below w.heap.size w w1 ∧ w1.heap[w.heap.size]? = some (.cells #[.int .i64 f, .int .i64 t] 40) from ⟨(below_new _).trans (hb1.mono (by simp)), (hb1.block w.heap.size (by simp)).trans (World.alloc_heap_new w _)⟩)
      clear hb1
      go_wp2_with fail
      refine (HVn.out _).mono ?_
      rintro e w2 ⟨rfl, rfl⟩
      go_wp2_with fail
      refine (HD.out _).mono ?_
      rintro e w2 ⟨y, m, d, rfl, hv, hnm, hb2⟩
      have H2 := Lib.hid (show Below w.heap.size w w2 ∧ w2.heap[w.heap.size]? = some (.cells #[.int .i64 f, .int .i64 t] 40) from ⟨H1.out.1.trans (hb2.mono H1.out.1.size), (hb2.block _ (Array.getElem?_eq_some_iff.1 H1.out.2).1).trans H1.out.2⟩)
      have HR := Lib.hid (And.intro hv hnm)
      obtain ⟨v1, v2, v3, v4, v5, v6⟩ := (vdate_iff _ _ _).1 hv
      have hdm := dom_bd y m
      obtain ⟨q0, q1⟩ := two_cells H2.out.2
      have hz : w.heap.size < w2.heap.size := (Array.getElem?_eq_some_iff.1 H2.out.2).1
      have HI := Lib.hid (show inC f t (100 * m + d) = if f ≤ t then decide (f ≤ 100 * m + d) && decide (100 * m + d ≤ t) else decide (f ≤ 100 * m + d) || decide (100 * m + d ≤ t) from rfl)
      clear hv hnm hb2
      have hw1 : IntKind.i64.wrap (100 * m) = 100 * m := by rw [IntKind.wrap_i64]; omega
      have hw2 : IntKind.i64.wrap (100 * m + d) = 100 * m + d := by rw [IntKind.wrap_i64]; omega
      by_cases c1 : f ≤ t
      · have HWc := Lib.hid (rwithin_is (n := 100 * m + d) (lo := f) (hi := t) rfl)
        have HC := Lib.hid c1
        go_wp2_with fail
        refine (HWc.out _).mono ?_
        rintro e w3 ⟨rfl, rfl⟩
        go_wp2_with fail
        go_ret2
        exact ⟨.inl ⟨HS.out, HN.out.1, HN.out.2, y, m, d, ret_bi (by rw [HI.out, if_pos HC.out]) rfl, HR.out⟩, H2.out.1.trans ((below_new _).mono H2.out.1.size)⟩
      · cases c2 : decide (f ≤ 100 * m + d) <;> cases c3 : decide (100 * m + d ≤ t)
        all_goals
          have HC := Lib.hid (And.intro c1 (And.intro c2 c3))
          go_wp2_with fail
          go_ret2
          exact ⟨.inl ⟨HS.out, HN.out.1, HN.out.2, y, m, d, ret_bi (by rw [HI.out, if_neg (by have := HC.out.1; omega), HC.out.2.1, HC.out.2.2]; rfl) rfl, HR.out⟩, H2.out.1.trans ((below_new _).mono H2.out.1.size)⟩
    · have HVn := Lib.hid (rwithin_is (n := n) (lo := 0) (hi := 99999) (b := false) (by rw [Bool.and_eq_false_iff]; simp; omega))
      have HN := Lib.hid hn
      clear hn
      go_enter Tryd.func30, Tryd.ntmps30
      go_wp2_with fail
      refine HV.out.mono ?_
      rintro e w1 ⟨rfl, hb1⟩
      have H1 := Lib.hid (show Below w.heap.size w w1 from (below_new _).trans (hb1.mono (by simp)))
      clear hb1
      go_wp2_with fail
      refine (HVn.out _).mono ?_
      rintro e w2 ⟨rfl, rfl⟩
      go_wp2_with fail
      go_ret2
      exact ⟨.inr ⟨1, rfl, rfl, .inr HN.out, by rw [HS.out]; rfl⟩, H1.out⟩
end Go.Proofs.YtabolonlkocopaaDoor
