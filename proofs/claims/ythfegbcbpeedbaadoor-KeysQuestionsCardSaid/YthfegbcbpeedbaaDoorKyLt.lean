/- light. -/
import Derived.Test.YthfegbcbpeedbaaDoorKyQ
namespace Go.Ky
def fewF (m : Mx) : Bool := !(decide (8 < m.st.length ∧ m.st.length ≤ 64 ∨ 100 < m.st.length ∨ 20 < m.rows.length ∧ m.rows.length ≤ 400 ∨ 500 < m.rows.length)) && m.rows.all fun r => decide (r.may.length ≤ 100)
end Go.Ky
namespace Go.Proofs.YthfegbcbpeedbaaDoor
open Go.RowKit Go.Nm Go.Ky

set_option maxRecDepth 100000 in
set_option maxHeartbeats 8000000 in
theorem few_any (v : Value) (m : Mx) (w : World) (hv : MxV w v m) :
    Calls Tryd.prog 15 #[v] w fun e w' => e = .returned (.bool (fewF m)) ∧ Below w.heap.size w w' := by
  obtain ⟨A1, c1, A2, c2, W0, rfl, hW0, hb0, hM, hS, hR, hX⟩ := mx_box hv
  have HB0 := Lib.hid hb0
  have HW0 := Lib.hid hW0
  have HU := Lib.hid (hR W0 (Below.refl _ _))
  obtain ⟨k0, k1⟩ := hX W0 (Below.refl _ _)
  obtain ⟨b, hb⟩ : ∃ b, fewF m = b := ⟨_, rfl⟩
  obtain ⟨ns, hns⟩ : ∃ n, m.st.length = n := ⟨_, rfl⟩
  obtain ⟨nr, hnr⟩ : ∃ n, m.rows.length = n := ⟨_, rfl⟩
  have HN := Lib.hid hnr
  have HF0 := Lib.hid (show b = (!(decide (8 < ns ∧ ns ≤ 64 ∨ 100 < ns ∨ 20 < nr ∧ nr ≤ 400 ∨ 500 < nr)) && m.rows.all fun r => decide (r.may.length ≤ 100)) from by rw [← hb]; unfold fewF; rw [hns, hnr])
  rw [hb]
  rw [hns, hnr] at HW0
  rw [hns] at k0
  rw [hnr] at k1 HU
  rw [hns, hnr]
  clear hv hW0 hb0 hM hS hR hX hb hns hnr
  have HBad := Lib.hid (fun h : (8 < ns ∧ ns ≤ 64 ∨ 100 < ns ∨ 20 < nr ∧ nr ≤ 400 ∨ 500 < nr) => (show b = false from by rw [HF0.out, decide_eq_true h]; rfl))
  have HGd := Lib.hid (fun h : ¬ (8 < ns ∧ ns ≤ 64 ∨ 100 < ns ∨ 20 < nr ∧ nr ≤ 400 ∨ 500 < nr) => (show b = m.rows.all (fun r => decide (r.may.length ≤ 100)) from by rw [HF0.out, decide_eq_false h]; rfl))
  clear HF0
  rcases (show (8 < ns ∧ ns ≤ 64) ∨ (100 < ns) ∨ (ns ≤ 8) ∨ (64 < ns ∧ ns ≤ 100) by omega) with hA | hA | hA | hA
  · have HF := Lib.hid (HBad.out (by omega))
    have f0 : (8 : Int) < (ns : Int) := by omega
    have f1 : (ns : Int) ≤ 64 := by omega
    clear HBad HGd
    clear hA
    go_enter Tryd.func15, Tryd.ntmps15
    go_wp2_with fail
    rw [HW0.out]
    (try go_wp2_with fail)
    go_ret
    exact ⟨by rw [HF.out]; rfl, HB0.out⟩
  · have HF := Lib.hid (HBad.out (by omega))
    have f0 : (8 : Int) < (ns : Int) := by omega
    have f1 : ¬ (ns : Int) ≤ 64 := by omega
    have f2 : (100 : Int) < (ns : Int) := by omega
    clear HBad HGd
    clear hA
    go_enter Tryd.func15, Tryd.ntmps15
    go_wp2_with fail
    rw [HW0.out]
    (try go_wp2_with fail)
    go_ret
    exact ⟨by rw [HF.out]; rfl, HB0.out⟩
  · rcases (show (20 < nr ∧ nr ≤ 400) ∨ (500 < nr) ∨ (nr ≤ 20) ∨ (400 < nr ∧ nr ≤ 500) by omega) with hB | hB | hB | hB
    · have HF := Lib.hid (HBad.out (by omega))
      have f0 : ¬ (8 : Int) < (ns : Int) := by omega
      have f1 : ¬ (100 : Int) < (ns : Int) := by omega
      have f2 : (20 : Int) < (nr : Int) := by omega
      have f3 : (nr : Int) ≤ 400 := by omega
      clear HBad HGd
      clear hA hB
      go_enter Tryd.func15, Tryd.ntmps15
      go_wp2_with fail
      rw [HW0.out]
      (try go_wp2_with fail)
      go_ret
      exact ⟨by rw [HF.out]; rfl, HB0.out⟩
    · have HF := Lib.hid (HBad.out (by omega))
      have f0 : ¬ (8 : Int) < (ns : Int) := by omega
      have f1 : ¬ (100 : Int) < (ns : Int) := by omega
      have f2 : (20 : Int) < (nr : Int) := by omega
      have f3 : ¬ (nr : Int) ≤ 400 := by omega
      have f4 : (500 : Int) < (nr : Int) := by omega
      clear HBad HGd
      clear hA hB
      go_enter Tryd.func15, Tryd.ntmps15
      go_wp2_with fail
      rw [HW0.out]
      (try go_wp2_with fail)
      go_ret
      exact ⟨by rw [HF.out]; rfl, HB0.out⟩
    · have HT := Lib.hid (HGd.out (by omega))
      have f0 : ¬ (8 : Int) < (ns : Int) := by omega
      have f1 : ¬ (100 : Int) < (ns : Int) := by omega
      have f2 : ¬ (20 : Int) < (nr : Int) := by omega
      have f3 : ¬ (500 : Int) < (nr : Int) := by omega
      have hnr : nr ≤ 500 := by omega
      clear HBad HGd hA hB
      go_enter Tryd.func15, Tryd.ntmps15
      go_wp2_with fail
      rw [HW0.out]
      (try go_wp2_with fail)
      go_loopw [3] (fun iv wr => ∃ i : Nat, iv = .int .i64 (i : Int) ∧ i ≤ nr ∧ W0 = wr ∧ ((m.rows.take i).all fun r => decide (r.may.length ≤ 100)) = true) (fun iv _ => nr - (intOf iv).toNat)
      case atStart => exact ⟨0, rfl, by omega, rfl, rfl⟩
      case round =>
        obtain ⟨i, rfl, hin, rfl, hg⟩ := hrel
        have HG := Lib.hid hg
        clear hg
        by_cases hlt : i < nr
        · obtain ⟨r, ad, Am, cm, hr, rfl, hY⟩ := HU.out.at_ hlt
          obtain ⟨⟨d0, d1⟩, _⟩ := hY W0 (Below.refl _ _)
          have HR := Lib.hid hr
          obtain ⟨q, hq⟩ : ∃ q, r.may.length = q := ⟨_, rfl⟩
          have HQ := Lib.hid hq
          rw [hq] at d1
          clear hr hY hq
          by_cases h1 : 100 < q
          · have h1i : (100 : Int) < (q : Int) := by omega
            have HF := Lib.hid (show b = false from by rw [HT.out]; exact all_false HR.out (decide_eq_false (by rw [HQ.out]; omega)))
            clear h1
            go_wp2_with fail
            go_ret
            exact ⟨by rw [HF.out]; rfl, HB0.out⟩
          · have h1i : ¬ (100 : Int) < (q : Int) := by omega
            have HN2 := Lib.hid (show ((m.rows.take (i + 1)).all fun r => decide (r.may.length ≤ 100)) = true from by rw [all_take HR.out, HG.out]; exact decide_eq_true (by rw [HQ.out]; omega))
            clear h1
            go_wp2_with fail
            go_roundw
            case rel => exact ⟨i + 1, by go_num, by omega, by first | trivial | rfl, HN2.out⟩
            case measure => simp [intOf]; omega
        · obtain rfl : nr = i := by omega
          have HF := Lib.hid (show b = true from by rw [HT.out]; exact all_end HN.out HG.out)
          go_wp2_with fail
          go_ret
          exact ⟨by rw [HF.out]; rfl, HB0.out⟩
    · have HT := Lib.hid (HGd.out (by omega))
      have f0 : ¬ (8 : Int) < (ns : Int) := by omega
      have f1 : ¬ (100 : Int) < (ns : Int) := by omega
      have f2 : (20 : Int) < (nr : Int) := by omega
      have f3 : ¬ (nr : Int) ≤ 400 := by omega
      have f4 : ¬ (500 : Int) < (nr : Int) := by omega
      have hnr : nr ≤ 500 := by omega
      clear HBad HGd hA hB
      go_enter Tryd.func15, Tryd.ntmps15
      go_wp2_with fail
      rw [HW0.out]
      (try go_wp2_with fail)
      go_loopw [3] (fun iv wr => ∃ i : Nat, iv = .int .i64 (i : Int) ∧ i ≤ nr ∧ W0 = wr ∧ ((m.rows.take i).all fun r => decide (r.may.length ≤ 100)) = true) (fun iv _ => nr - (intOf iv).toNat)
      case atStart => exact ⟨0, rfl, by omega, rfl, rfl⟩
      case round =>
        obtain ⟨i, rfl, hin, rfl, hg⟩ := hrel
        have HG := Lib.hid hg
        clear hg
        by_cases hlt : i < nr
        · obtain ⟨r, ad, Am, cm, hr, rfl, hY⟩ := HU.out.at_ hlt
          obtain ⟨⟨d0, d1⟩, _⟩ := hY W0 (Below.refl _ _)
          have HR := Lib.hid hr
          obtain ⟨q, hq⟩ : ∃ q, r.may.length = q := ⟨_, rfl⟩
          have HQ := Lib.hid hq
          rw [hq] at d1
          clear hr hY hq
          by_cases h1 : 100 < q
          · have h1i : (100 : Int) < (q : Int) := by omega
            have HF := Lib.hid (show b = false from by rw [HT.out]; exact all_false HR.out (decide_eq_false (by rw [HQ.out]; omega)))
            clear h1
            go_wp2_with fail
            go_ret
            exact ⟨by rw [HF.out]; rfl, HB0.out⟩
          · have h1i : ¬ (100 : Int) < (q : Int) := by omega
            have HN2 := Lib.hid (show ((m.rows.take (i + 1)).all fun r => decide (r.may.length ≤ 100)) = true from by rw [all_take HR.out, HG.out]; exact decide_eq_true (by rw [HQ.out]; omega))
            clear h1
            go_wp2_with fail
            go_roundw
            case rel => exact ⟨i + 1, by go_num, by omega, by first | trivial | rfl, HN2.out⟩
            case measure => simp [intOf]; omega
        · obtain rfl : nr = i := by omega
          have HF := Lib.hid (show b = true from by rw [HT.out]; exact all_end HN.out HG.out)
          go_wp2_with fail
          go_ret
          exact ⟨by rw [HF.out]; rfl, HB0.out⟩
  · rcases (show (20 < nr ∧ nr ≤ 400) ∨ (500 < nr) ∨ (nr ≤ 20) ∨ (400 < nr ∧ nr ≤ 500) by omega) with hB | hB | hB | hB
    · have HF := Lib.hid (HBad.out (by omega))
      have f0 : (8 : Int) < (ns : Int) := by omega
      have f1 : ¬ (ns : Int) ≤ 64 := by omega
      have f2 : ¬ (100 : Int) < (ns : Int) := by omega
      have f3 : (20 : Int) < (nr : Int) := by omega
      have f4 : (nr : Int) ≤ 400 := by omega
      clear HBad HGd
      clear hA hB
      go_enter Tryd.func15, Tryd.ntmps15
      go_wp2_with fail
      rw [HW0.out]
      (try go_wp2_with fail)
      go_ret
      exact ⟨by rw [HF.out]; rfl, HB0.out⟩
    · have HF := Lib.hid (HBad.out (by omega))
      have f0 : (8 : Int) < (ns : Int) := by omega
      have f1 : ¬ (ns : Int) ≤ 64 := by omega
      have f2 : ¬ (100 : Int) < (ns : Int) := by omega
      have f3 : (20 : Int) < (nr : Int) := by omega
      have f4 : ¬ (nr : Int) ≤ 400 := by omega
      have f5 : (500 : Int) < (nr : Int) := by omega
      clear HBad HGd
      clear hA hB
      go_enter Tryd.func15, Tryd.ntmps15
      go_wp2_with fail
      rw [HW0.out]
      (try go_wp2_with fail)
      go_ret
      exact ⟨by rw [HF.out]; rfl, HB0.out⟩
    · have HT := Lib.hid (HGd.out (by omega))
      have f0 : (8 : Int) < (ns : Int) := by omega
      have f1 : ¬ (ns : Int) ≤ 64 := by omega
      have f2 : ¬ (100 : Int) < (ns : Int) := by omega
      have f3 : ¬ (20 : Int) < (nr : Int) := by omega
      have f4 : ¬ (500 : Int) < (nr : Int) := by omega
      have hnr : nr ≤ 500 := by omega
      clear HBad HGd hA hB
      go_enter Tryd.func15, Tryd.ntmps15
      go_wp2_with fail
      rw [HW0.out]
      (try go_wp2_with fail)
      go_loopw [3] (fun iv wr => ∃ i : Nat, iv = .int .i64 (i : Int) ∧ i ≤ nr ∧ W0 = wr ∧ ((m.rows.take i).all fun r => decide (r.may.length ≤ 100)) = true) (fun iv _ => nr - (intOf iv).toNat)
      case atStart => exact ⟨0, rfl, by omega, rfl, rfl⟩
      case round =>
        obtain ⟨i, rfl, hin, rfl, hg⟩ := hrel
        have HG := Lib.hid hg
        clear hg
        by_cases hlt : i < nr
        · obtain ⟨r, ad, Am, cm, hr, rfl, hY⟩ := HU.out.at_ hlt
          obtain ⟨⟨d0, d1⟩, _⟩ := hY W0 (Below.refl _ _)
          have HR := Lib.hid hr
          obtain ⟨q, hq⟩ : ∃ q, r.may.length = q := ⟨_, rfl⟩
          have HQ := Lib.hid hq
          rw [hq] at d1
          clear hr hY hq
          by_cases h1 : 100 < q
          · have h1i : (100 : Int) < (q : Int) := by omega
            have HF := Lib.hid (show b = false from by rw [HT.out]; exact all_false HR.out (decide_eq_false (by rw [HQ.out]; omega)))
            clear h1
            go_wp2_with fail
            go_ret
            exact ⟨by rw [HF.out]; rfl, HB0.out⟩
          · have h1i : ¬ (100 : Int) < (q : Int) := by omega
            have HN2 := Lib.hid (show ((m.rows.take (i + 1)).all fun r => decide (r.may.length ≤ 100)) = true from by rw [all_take HR.out, HG.out]; exact decide_eq_true (by rw [HQ.out]; omega))
            clear h1
            go_wp2_with fail
            go_roundw
            case rel => exact ⟨i + 1, by go_num, by omega, by first | trivial | rfl, HN2.out⟩
            case measure => simp [intOf]; omega
        · obtain rfl : nr = i := by omega
          have HF := Lib.hid (show b = true from by rw [HT.out]; exact all_end HN.out HG.out)
          go_wp2_with fail
          go_ret
          exact ⟨by rw [HF.out]; rfl, HB0.out⟩
    · have HT := Lib.hid (HGd.out (by omega))
      have f0 : (8 : Int) < (ns : Int) := by omega
      have f1 : ¬ (ns : Int) ≤ 64 := by omega
      have f2 : ¬ (100 : Int) < (ns : Int) := by omega
      have f3 : (20 : Int) < (nr : Int) := by omega
      have f4 : ¬ (nr : Int) ≤ 400 := by omega
      have f5 : ¬ (500 : Int) < (nr : Int) := by omega
      have hnr : nr ≤ 500 := by omega
      clear HBad HGd hA hB
      go_enter Tryd.func15, Tryd.ntmps15
      go_wp2_with fail
      rw [HW0.out]
      (try go_wp2_with fail)
      go_loopw [3] (fun iv wr => ∃ i : Nat, iv = .int .i64 (i : Int) ∧ i ≤ nr ∧ W0 = wr ∧ ((m.rows.take i).all fun r => decide (r.may.length ≤ 100)) = true) (fun iv _ => nr - (intOf iv).toNat)
      case atStart => exact ⟨0, rfl, by omega, rfl, rfl⟩
      case round =>
        obtain ⟨i, rfl, hin, rfl, hg⟩ := hrel
        have HG := Lib.hid hg
        clear hg
        by_cases hlt : i < nr
        · obtain ⟨r, ad, Am, cm, hr, rfl, hY⟩ := HU.out.at_ hlt
          obtain ⟨⟨d0, d1⟩, _⟩ := hY W0 (Below.refl _ _)
          have HR := Lib.hid hr
          obtain ⟨q, hq⟩ : ∃ q, r.may.length = q := ⟨_, rfl⟩
          have HQ := Lib.hid hq
          rw [hq] at d1
          clear hr hY hq
          by_cases h1 : 100 < q
          · have h1i : (100 : Int) < (q : Int) := by omega
            have HF := Lib.hid (show b = false from by rw [HT.out]; exact all_false HR.out (decide_eq_false (by rw [HQ.out]; omega)))
            clear h1
            go_wp2_with fail
            go_ret
            exact ⟨by rw [HF.out]; rfl, HB0.out⟩
          · have h1i : ¬ (100 : Int) < (q : Int) := by omega
            have HN2 := Lib.hid (show ((m.rows.take (i + 1)).all fun r => decide (r.may.length ≤ 100)) = true from by rw [all_take HR.out, HG.out]; exact decide_eq_true (by rw [HQ.out]; omega))
            clear h1
            go_wp2_with fail
            go_roundw
            case rel => exact ⟨i + 1, by go_num, by omega, by first | trivial | rfl, HN2.out⟩
            case measure => simp [intOf]; omega
        · obtain rfl : nr = i := by omega
          have HF := Lib.hid (show b = true from by rw [HT.out]; exact all_end HN.out HG.out)
          go_wp2_with fail
          go_ret
          exact ⟨by rw [HF.out]; rfl, HB0.out⟩
end Go.Proofs.YthfegbcbpeedbaaDoor
namespace Go.Proofs.YthfegbcbpeedbaaDoor
open Go.RowKit Go.Nm Go.Ky

set_option maxRecDepth 100000 in
set_option maxHeartbeats 8000000 in
theorem light_any (A1 A2 A3 : Option Addr) (n1 n2 n3 c1 c2 c3 : Nat) (a b c : Int) (w : World) :
    Calls Tryd.prog 16 #[.agg #[.slice A1 n1 c1, .slice A2 n2 c2, .slice A3 n3 c3, .int .i64 a, .int .i64 b, .int .i64 c]] w fun e w' => e = .returned (.bool (decide (n1 ≤ 100 ∧ n2 ≤ 100 ∧ n3 ≤ 100))) ∧ Below w.heap.size w w' := by
  have HB := Lib.hid (below_new (w := w) (.cells #[.slice A1 n1 c1, .slice A2 n2 c2, .slice A3 n3 c3, .int .i64 a, .int .i64 b, .int .i64 c] 27))
  obtain ⟨r, hr⟩ : ∃ r, decide (n1 ≤ 100 ∧ n2 ≤ 100 ∧ n3 ≤ 100) = r := ⟨_, rfl⟩
  have HR := Lib.hid hr
  rw [hr]
  clear hr
  by_cases h1 : n1 ≤ 100
  · by_cases h2 : n2 ≤ 100
    · by_cases h3 : n3 ≤ 100
      · have HF := Lib.hid (show r = true from by rw [← HR.out]; exact decide_eq_true (by omega))
        have f0 : (n1 : Int) ≤ 100 := by omega
        have f1 : (n2 : Int) ≤ 100 := by omega
        have f2 : (n3 : Int) ≤ 100 := by omega
        clear HR
        go_enter Tryd.func16, Tryd.ntmps16
        go_wp2_with fail
        go_ret
        exact ⟨by rw [HF.out]; rfl, HB.out⟩
      · have HF := Lib.hid (show r = false from by rw [← HR.out]; exact decide_eq_false (by omega))
        have f0 : (n1 : Int) ≤ 100 := by omega
        have f1 : (n2 : Int) ≤ 100 := by omega
        have f2 : ¬ (n3 : Int) ≤ 100 := by omega
        clear HR
        go_enter Tryd.func16, Tryd.ntmps16
        go_wp2_with fail
        go_ret
        exact ⟨by rw [HF.out]; rfl, HB.out⟩
    · have HF := Lib.hid (show r = false from by rw [← HR.out]; exact decide_eq_false (by omega))
      have f0 : (n1 : Int) ≤ 100 := by omega
      have f1 : ¬ (n2 : Int) ≤ 100 := by omega
      clear HR
      go_enter Tryd.func16, Tryd.ntmps16
      go_wp2_with fail
      go_ret
      exact ⟨by rw [HF.out]; rfl, HB.out⟩
  · have HF := Lib.hid (show r = false from by rw [← HR.out]; exact decide_eq_false (by omega))
    have f0 : ¬ (n1 : Int) ≤ 100 := by omega
    clear HR
    go_enter Tryd.func16, Tryd.ntmps16
    go_wp2_with fail
    go_ret
    exact ⟨by rw [HF.out]; rfl, HB.out⟩
end Go.Proofs.YthfegbcbpeedbaaDoor
