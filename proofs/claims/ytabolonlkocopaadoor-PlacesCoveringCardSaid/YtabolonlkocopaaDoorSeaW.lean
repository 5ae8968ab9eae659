/- Seasons: the functions of the program. -/
import Derived.Test.YtabolonlkocopaaDoorNghts
import Derived.Test.YtabolonlkocopaaDoorCld
import Derived.RangeFuncRecord
namespace Go.Proofs.YtabolonlkocopaaDoor
open Go.RowKit Go.Plc

theorem two_cells {w : World} {g : Nat} {a b : Value} {t : TypeId} (h : w.heap[g]? = some (.cells #[a, b] t)) : w.cell? ⟨g, 0, none⟩ = some a ∧ w.cell? ⟨g, 1, none⟩ = some b := by simp [World.cell?, h]
theorem three_cells {w : World} {g : Nat} {a b c : Value} {t : TypeId} (h : w.heap[g]? = some (.cells #[a, b, c] t)) : w.cell? ⟨g, 0, none⟩ = some a ∧ w.cell? ⟨g, 1, none⟩ = some b ∧ w.cell? ⟨g, 2, none⟩ = some c := by simp [World.cell?, h]

theorem tdiv_wrap {n : Int} (h0 : -9223372036854775808 ≤ n) (h1 : n ≤ 9223372036854775807) : wrap64 (n.tdiv 100) = n.tdiv 100 := by
  have e := Int.tmod_add_mul_tdiv n 100
  have l1 := Int.tmod_lt_of_pos n (show (0 : Int) < 100 by decide)
  have l2 := Int.lt_tmod_of_pos n (show (0 : Int) < 100 by decide)
  unfold wrap64
  omega
set_option maxHeartbeats 400000 in
theorem validDay_any (n : Int) (w : World) (hM : MonthDays w) (h0 : -9223372036854775808 ≤ n) (h1 : n ≤ 9223372036854775807) :
    Calls Tryd.prog 68 #[.int .i64 n] w fun e w' => e = .returned (.bool (vday n)) ∧ Below w.heap.size w w' := by
  have HV := Lib.hid (ValidDate_any 0 (n.tdiv 100) (n.tmod 100) w hM)
  have HD := Lib.hid (show vday n = vdate 0 (n.tdiv 100) (n.tmod 100) from rfl)
  have hw := tdiv_wrap h0 h1
  clear hM
  go_enter Tryd.func68, Tryd.ntmps68
  go_wp2_with fail
  refine HV.out.mono ?_
  rintro e w1 ⟨rfl, hb⟩
  have HB := Lib.hid hb
  clear hb
  go_wp2_with fail
  go_ret
  exact ⟨ret_b (by rw [HD.out]), HB.out⟩

set_option maxHeartbeats 1000000 in
theorem ValidSeason_any (f t : Int) (w : World) (hM : MonthDays w) (f0 : -9223372036854775808 ≤ f) (f1 : f ≤ 9223372036854775807) (t0 : -9223372036854775808 ≤ t) (t1 : t ≤ 9223372036854775807) :
    Calls Tryd.prog 33 #[.agg #[.int .i64 f, .int .i64 t]] w fun e w' => e = .returned (.bool (vday f && vday t)) ∧ Below w.heap.size w w' := by
  have HM := Lib.hid hM
  have HF := Lib.hid (validDay_any f (w.alloc (.cells #[.int .i64 f, .int .i64 t] 40)) (hM.alloc _) f0 f1)
  have HT := Lib.hid (fun w hM => validDay_any t w hM t0 t1)
  clear hM
  generalize vday f = a at *
  generalize vday t = b at *
  cases a
  · go_enter Tryd.func33, Tryd.ntmps33
    go_wp2_with fail
    refine HF.out.mono ?_
    rintro e w1 ⟨rfl, hb1⟩
    have H1 := Lib.hid (show Below w.heap.size w w1 from (below_new _).trans (hb1.mono (by simp)))
    clear hb1
    go_wp2_with fail
    go_ret
    exact ⟨rfl, H1.out⟩
  · go_enter Tryd.func33, Tryd.ntmps33
    go_wp2_with fail
    refine HF.out.mono ?_
    rintro e w1 ⟨rfl, hb1⟩
    have H1 := Lib.hid (show Below w.heap.size w w1 from (below_new _).trans (hb1.mono (by simp)))
    obtain ⟨q0, q1⟩ := two_cells ((hb1.block w.heap.size (by simp)).trans (World.alloc_heap_new w _))
    clear hb1
    go_wp2_with fail
    refine (HT.out _ (HM.out.below H1.out)).mono ?_
    rintro e w2 ⟨rfl, hb2⟩
    have H2 := Lib.hid (H1.out.trans (hb2.mono H1.out.size))
    clear hb2
    go_wp2_with fail
    go_ret
    exact ⟨rfl, H2.out⟩

/-- what InSeason returns -/
def SeaRes (f t n : Int) (w : World) (e : Ending) (w' : World) : Prop :=
  (((vday f && vday t) = true ∧ 0 ≤ n ∧ n ≤ 99999 ∧ ∃ y m d, e = .returned (.tuple #[.bool (inC f t (100 * m + d)), .int .i64 0]) ∧ vdate y m d = true ∧ num y m d = n) ∨
    (∃ er : Int, e = .returned (.tuple #[.bool false, .int .i64 er]) ∧ (er != 0) = true ∧ ((vday f && vday t) = false ∨ ¬ (0 ≤ n ∧ n ≤ 99999)) ∧ er = if (vday f && vday t) = true then 1 else 12)) ∧ Below w.heap.size w w'
set_option maxHeartbeats 2000000 in
theorem InSeason_any (f t n : Int) (w : World) (hM : MonthDays w) (f0 : -9223372036854775808 ≤ f) (f1 : f ≤ 9223372036854775807) (t0 : -9223372036854775808 ≤ t) (t1 : t ≤ 9223372036854775807) :
    Calls Tryd.prog 29 #[.agg #[.int .i64 f, .int .i64 t], .int .i64 n] w (SeaRes f t n w) := by
  have HM := Lib.hid hM
  have HV := Lib.hid (ValidSeason_any f t (w.alloc (.cells #[.int .i64 f, .int .i64 t] 40)) (hM.alloc _) f0 f1 t0 t1)
  have HVn := Lib.hid (fun w => validNight_any n w)
  clear hM
  cases hs : (vday f && vday t)
  · rw [hs] at HV
    have HS := Lib.hid hs
    clear hs
    go_enter Tryd.func29, Tryd.ntmps29
    go_wp2_with fail
    refine HV.out.mono ?_
    rintro e w1 ⟨rfl, hb1⟩
    have H1 := Lib.hid (show Below w.heap.size w w1 from (below_new _).trans (hb1.mono (by simp)))
    clear hb1
    go_wp2_with fail
    go_ret2
    exact ⟨.inr ⟨12, rfl, rfl, .inl HS.out, by rw [HS.out]; rfl⟩, H1.out⟩
  · rw [hs] at HV
    have HS := Lib.hid hs
    clear hs
    by_cases hn : 0 ≤ n ∧ n ≤ 99999
    · have e1 : (decide (0 ≤ n) && decide (n ≤ 99999)) = true := by simp; omega
      rw [e1] at HVn
      have HN := Lib.hid hn
      have HD := Lib.hid (fun w hM => dateBehind_any n w hM hn.1 (by omega))
      clear hn e1
      go_enter Tryd.func29, Tryd.ntmps29
      go_wp2_with fail
      refine HV.out.mono ?_
      rintro e w1 ⟨rfl, hb1⟩
      have H1 := Lib.hid (show Below w.heap.size w w1 ∧ w1.heap[w.heap.size]? = some (.cells #[.int .i64 f, .int .i64 t] 40) from ⟨(below_new _).trans (hb1.mono (by simp)), (hb1.block w.heap.size (by simp)).trans (World.alloc_heap_new w _)⟩)
      clear hb1
      go_wp2_with fail
      refine (HVn.out _).mono ?_
      rintro e w2 ⟨rfl, rfl⟩
      go_wp2_with fail
      refine (HD.out _ (HM.out.below H1.out.1)).mono ?_
      rintro e w2 ⟨y, m, d, rfl, hv, hnm, hb2⟩
      have H2 := Lib.hid (show Below w.heap.size w w2 ∧ w2.heap[w.heap.size]? = some (.cells #[.int .i64 f, .int .i64 t] 40) from ⟨H1.out.1.trans (hb2.mono H1.out.1.size), (hb2.block _ (Array.getElem?_eq_some_iff.1 H1.out.2).1).trans H1.out.2⟩)
      have HR := Lib.hid (And.intro hv hnm)
      obtain ⟨v1, v2, v3, v4, v5, v6⟩ := (vdate_iff _ _ _).1 hv
      have hdm := dom_bd y m
      obtain ⟨q0, q1⟩ := two_cells H2.out.2
      have hz : w.heap.size < w2.heap.size := (Array.getElem?_eq_some_iff.1 H2.out.2).1
      have HI := Lib.hid (show inC f t (100 * m + d) = if f ≤ t then decide (f ≤ 100 * m + d) && decide (100 * m + d ≤ t) else decide (f ≤ 100 * m + d) || decide (100 * m + d ≤ t) from rfl)
      clear hv hnm hb2
      have hw1 : IntKind.i64.wrap (100 * m) = 100 * m := by rw [IntKind.wrap_i64]; omega
      have hw2 : IntKind.i64.wrap (100 * m + d) = 100 * m + d := by rw [IntKind.wrap_i64]; omega
      by_cases c1 : f ≤ t
      · cases c2 : decide (f ≤ 100 * m + d) <;> cases c3 : decide (100 * m + d ≤ t)
        all_goals
          have HC := Lib.hid (And.intro c1 (And.intro c2 c3))
          go_wp2_with fail
          go_ret2
          exact ⟨.inl ⟨HS.out, HN.out.1, HN.out.2, y, m, d, ret_bi (by rw [HI.out, if_pos HC.out.1, HC.out.2.1, HC.out.2.2]; rfl) rfl, HR.out⟩, H2.out.1.trans ((below_new _).mono H2.out.1.size)⟩
      · cases c2 : decide (f ≤ 100 * m + d) <;> cases c3 : decide (100 * m + d ≤ t)
        all_goals
          have HC := Lib.hid (And.intro c1 (And.intro c2 c3))
          go_wp2_with fail
          go_ret2
          exact ⟨.inl ⟨HS.out, HN.out.1, HN.out.2, y, m, d, ret_bi (by rw [HI.out, if_neg (by have := HC.out.1; omega), HC.out.2.1, HC.out.2.2]; rfl) rfl, HR.out⟩, H2.out.1.trans ((below_new _).mono H2.out.1.size)⟩
    · have e1 : (decide (0 ≤ n) && decide (n ≤ 99999)) = false := by rw [Bool.and_eq_false_iff]; simp; omega
      rw [e1] at HVn
      have HN := Lib.hid hn
      clear hn e1
      go_enter Tryd.func29, Tryd.ntmps29
      go_wp2_with fail
      refine HV.out.mono ?_
      rintro e w1 ⟨rfl, hb1⟩
      have H1 := Lib.hid (show Below w.heap.size w w1 from (below_new _).trans (hb1.mono (by simp)))
      clear hb1
      go_wp2_with fail
      refine (HVn.out _).mono ?_
      rintro e w2 ⟨rfl, rfl⟩
      go_wp2_with fail
      go_ret2
      exact ⟨.inr ⟨1, rfl, rfl, .inr HN.out, by rw [HS.out]; rfl⟩, H1.out⟩
end Go.Proofs.YtabolonlkocopaaDoor
