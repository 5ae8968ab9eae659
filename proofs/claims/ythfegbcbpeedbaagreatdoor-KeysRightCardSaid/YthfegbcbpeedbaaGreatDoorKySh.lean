
/- short. -/
import Derived.Test.YthfegbcbpeedbaaGreatDoorKyAs
namespace Go.Ky
def shortF (k : Kx) : Bool := !(decide (60 < k.nd.length ∧ k.nd.length ≤ 1000 ∨ 1200 < k.nd.length ∨ 60 < k.lv.length ∧ k.lv.length ≤ 1000 ∨ 1200 < k.lv.length)) && ((k.nd.all fun r => decide (r.may.length ≤ 30)) && k.lv.all fun l => decide (l.length ≤ 100))
end Go.Ky
namespace Go.Proofs.YthfegbcbpeedbaaGreatDoor
open Go.RowKit Go.Nm Go.Ky

theorem short_sm {k : Kx} (h : shortF k = true) : KSm k := by
  unfold shortF at h
  rw [Bool.and_eq_true, Bool.and_eq_true, Bool.not_eq_true', decide_eq_false_iff_not] at h
  exact ⟨by omega, by omega, fun r hr => by have := of_decide_eq_true ((List.all_eq_true.1 h.2.1) r hr); omega, fun l hl => by have := of_decide_eq_true ((List.all_eq_true.1 h.2.2) l hl); omega⟩
set_option maxRecDepth 100000 in
set_option maxHeartbeats 8000000 in
theorem short_any (v : Value) (k : Kx) (w : World) (hv : KyV w v k) :
    Calls Tryz.prog 6 #[v] w fun e w' => e = .returned (.bool (shortF k)) ∧ Below w.heap.size w w' := by
  obtain ⟨A1, c1, A2, c2, W0, rfl, hW0, hb0, hK, hN, hV, hX⟩ := ky_box hv
  have HB0 := Lib.hid hb0
  have HW0 := Lib.hid hW0
  have HU := Lib.hid (hN W0 (Below.refl _ _))
  have HV := Lib.hid (hV W0 (Below.refl _ _))
  obtain ⟨k0, k1⟩ := hX W0 (Below.refl _ _)
  obtain ⟨b, hb⟩ : ∃ b, shortF k = b := ⟨_, rfl⟩
  obtain ⟨ns, hns⟩ : ∃ n, k.nd.length = n := ⟨_, rfl⟩
  obtain ⟨nr, hnr⟩ : ∃ n, k.lv.length = n := ⟨_, rfl⟩
  have HN := Lib.hid (And.intro hns hnr)
  have HF0 := Lib.hid (show b = (!(decide (60 < ns ∧ ns ≤ 1000 ∨ 1200 < ns ∨ 60 < nr ∧ nr ≤ 1000 ∨ 1200 < nr)) && ((k.nd.all fun r => decide (r.may.length ≤ 30)) && k.lv.all fun l => decide (l.length ≤ 100))) from by rw [← hb]; unfold shortF; rw [hns, hnr])
  rw [hb]
  rw [hns, hnr] at HW0
  rw [hns] at k0 HU
  rw [hnr] at k1 HV
  rw [hns, hnr]
  clear hv hW0 hb0 hK hN hV hX hb hns hnr
  have HBad := Lib.hid (fun h : (60 < ns ∧ ns ≤ 1000 ∨ 1200 < ns ∨ 60 < nr ∧ nr ≤ 1000 ∨ 1200 < nr) => (show b = false from by rw [HF0.out, decide_eq_true h]; rfl))
  have HGd := Lib.hid (fun h : ¬ (60 < ns ∧ ns ≤ 1000 ∨ 1200 < ns ∨ 60 < nr ∧ nr ≤ 1000 ∨ 1200 < nr) => (show b = ((k.nd.all fun r => decide (r.may.length ≤ 30)) && k.lv.all fun l => decide (l.length ≤ 100)) from by rw [HF0.out, decide_eq_false h]; rfl))
  clear HF0
  rcases (show (60 < ns ∧ ns ≤ 1000) ∨ (1200 < ns) ∨ (ns ≤ 60) ∨ (1000 < ns ∧ ns ≤ 1200) by omega) with hA | hA | hA | hA
  · have HF := Lib.hid (HBad.out (by omega))
    have f0 : (60 : Int) < (ns : Int) := by omega
    have f1 : (ns : Int) ≤ 1000 := by omega
    clear HBad HGd hA
    go_enter Tryz.func6, Tryz.ntmps6
    go_wp2_with fail
    rw [HW0.out]
    (try go_wp2_with fail)
    go_ret
    exact ⟨by rw [HF.out]; rfl, HB0.out⟩
  · have HF := Lib.hid (HBad.out (by omega))
    have f0 : (60 : Int) < (ns : Int) := by omega
    have f1 : ¬ (ns : Int) ≤ 1000 := by omega
    have f2 : (1200 : Int) < (ns : Int) := by omega
    clear HBad HGd hA
    go_enter Tryz.func6, Tryz.ntmps6
    go_wp2_with fail
    rw [HW0.out]
    (try go_wp2_with fail)
    go_ret
    exact ⟨by rw [HF.out]; rfl, HB0.out⟩
  · rcases (show (60 < nr ∧ nr ≤ 1000) ∨ (1200 < nr) ∨ (nr ≤ 60) ∨ (1000 < nr ∧ nr ≤ 1200) by omega) with hB | hB | hB | hB
    · have HF := Lib.hid (HBad.out (by omega))
      have f0 : ¬ (60 : Int) < (ns : Int) := by omega
      have f1 : ¬ (1200 : Int) < (ns : Int) := by omega
      have f2 : (60 : Int) < (nr : Int) := by omega
      have f3 : (nr : Int) ≤ 1000 := by omega
      clear HBad HGd hA hB
      go_enter Tryz.func6, Tryz.ntmps6
      go_wp2_with fail
      rw [HW0.out]
      (try go_wp2_with fail)
      go_ret
      exact ⟨by rw [HF.out]; rfl, HB0.out⟩
    · have HF := Lib.hid (HBad.out (by omega))
      have f0 : ¬ (60 : Int) < (ns : Int) := by omega
      have f1 : ¬ (1200 : Int) < (ns : Int) := by omega
      have f2 : (60 : Int) < (nr : Int) := by omega
      have f3 : ¬ (nr : Int) ≤ 1000 := by omega
      have f4 : (1200 : Int) < (nr : Int) := by omega
      clear HBad HGd hA hB
      go_enter Tryz.func6, Tryz.ntmps6
      go_wp2_with fail
      rw [HW0.out]
      (try go_wp2_with fail)
      go_ret
      exact ⟨by rw [HF.out]; rfl, HB0.out⟩
    · have HT := Lib.hid (HGd.out (by omega))
      have f0 : ¬ (60 : Int) < (ns : Int) := by omega
      have f1 : ¬ (1200 : Int) < (ns : Int) := by omega
      have f2 : ¬ (60 : Int) < (nr : Int) := by omega
      have f3 : ¬ (1200 : Int) < (nr : Int) := by omega
      have hnr : nr ≤ 1200 := by omega
      have hns : ns ≤ 1200 := by omega
      clear HBad HGd hA hB
      go_enter Tryz.func6, Tryz.ntmps6
      go_wp2_with fail
      rw [HW0.out]
      (try go_wp2_with fail)
      go_loopw [3] (fun iv wr => ∃ i : Nat, iv = .int .i64 (i : Int) ∧ i ≤ ns ∧ W0 = wr ∧ ((k.nd.take i).all fun r => decide (r.may.length ≤ 30)) = true) (fun iv _ => ns - (intOf iv).toNat)
      case atStart => exact ⟨0, rfl, by omega, rfl, rfl⟩
      case round =>
        obtain ⟨i, rfl, hin, rfl, hg⟩ := hrel
        have HG := Lib.hid hg
        clear hg
        by_cases hlt : i < ns
        · obtain ⟨r, ad, Am, cm, hr, rfl, hY⟩ := HU.out.at_ hlt
          obtain ⟨⟨d0, d1⟩, _⟩ := hY W0 (Below.refl _ _)
          have HR := Lib.hid hr
          obtain ⟨q, hq⟩ : ∃ q, r.may.length = q := ⟨_, rfl⟩
          have HQ := Lib.hid hq
          rw [hq] at d1
          clear hr hY hq
          by_cases h1 : 30 < q
          · have h1i : (30 : Int) < (q : Int) := by omega
            have HF := Lib.hid (show b = false from by rw [HT.out, all_false HR.out (decide_eq_false (by rw [HQ.out]; omega))]; rfl)
            clear h1
            go_wp2_with fail
            go_ret
            exact ⟨by rw [HF.out]; rfl, HB0.out⟩
          · have h1i : ¬ (30 : Int) < (q : Int) := by omega
            have HN2 := Lib.hid (show ((k.nd.take (i + 1)).all fun r => decide (r.may.length ≤ 30)) = true from by rw [all_take HR.out, HG.out]; exact decide_eq_true (by rw [HQ.out]; omega))
            clear h1
            go_wp2_with fail
            go_roundw
            case rel => exact ⟨i + 1, by go_num, by omega, by first | trivial | rfl, HN2.out⟩
            case measure => simp [intOf]; omega
        · obtain rfl : ns = i := by omega
          have HT2 := Lib.hid (show b = (k.lv.all fun l => decide (l.length ≤ 100)) from by rw [HT.out, all_end HN.out.1 HG.out]; rfl)
          go_wp2_with fail
          go_loopw [4] (fun iv wr => ∃ i : Nat, iv = .int .i64 (i : Int) ∧ i ≤ nr ∧ W0 = wr ∧ ((k.lv.take i).all fun l => decide (l.length ≤ 100)) = true) (fun iv _ => nr - (intOf iv).toNat)
          case atStart => exact ⟨0, rfl, by omega, rfl, rfl⟩
          case round =>
            obtain ⟨i, rfl, hin2, rfl, hg⟩ := hrel
            have HG2 := Lib.hid hg
            clear hg
            by_cases hlt2 : i < nr
            · obtain ⟨ad, u, l, rfl, _, hl, hc, hu⟩ := HV.out.at_ hlt2
              obtain ⟨Au, cu, rfl, _⟩ := hu.form
              have HR := Lib.hid hl
              obtain ⟨q, hq⟩ : ∃ q, l.length = q := ⟨_, rfl⟩
              have HQ := Lib.hid hq
              rw [hq] at hc
              clear hl hu hq
              by_cases h1 : 100 < q
              · have h1i : (100 : Int) < (q : Int) := by omega
                have HF := Lib.hid (show b = false from by rw [HT2.out]; exact all_false HR.out (decide_eq_false (by rw [HQ.out]; omega)))
                clear h1
                go_wp2_with fail
                go_ret
                exact ⟨by rw [HF.out]; rfl, HB0.out⟩
              · have h1i : ¬ (100 : Int) < (q : Int) := by omega
                have HN2 := Lib.hid (show ((k.lv.take (i + 1)).all fun l => decide (l.length ≤ 100)) = true from by rw [all_take HR.out, HG2.out]; exact decide_eq_true (by rw [HQ.out]; omega))
                clear h1
                go_wp2_with fail
                go_roundw
                case rel => exact ⟨i + 1, by go_num, by omega, by first | trivial | rfl, HN2.out⟩
                case measure => simp [intOf]; omega
            · obtain rfl : nr = i := by omega
              have HF := Lib.hid (show b = true from by rw [HT2.out]; exact all_end HN.out.2 HG2.out)
              go_wp2_with fail
              go_ret
              exact ⟨by rw [HF.out]; rfl, HB0.out⟩
    · have HT := Lib.hid (HGd.out (by omega))
      have f0 : ¬ (60 : Int) < (ns : Int) := by omega
      have f1 : ¬ (1200 : Int) < (ns : Int) := by omega
      have f2 : (60 : Int) < (nr : Int) := by omega
      have f3 : ¬ (nr : Int) ≤ 1000 := by omega
      have f4 : ¬ (1200 : Int) < (nr : Int) := by omega
      have hnr : nr ≤ 1200 := by omega
      have hns : ns ≤ 1200 := by omega
      clear HBad HGd hA hB
      go_enter Tryz.func6, Tryz.ntmps6
      go_wp2_with fail
      rw [HW0.out]
      (try go_wp2_with fail)
      go_loopw [3] (fun iv wr => ∃ i : Nat, iv = .int .i64 (i : Int) ∧ i ≤ ns ∧ W0 = wr ∧ ((k.nd.take i).all fun r => decide (r.may.length ≤ 30)) = true) (fun iv _ => ns - (intOf iv).toNat)
      case atStart => exact ⟨0, rfl, by omega, rfl, rfl⟩
      case round =>
        obtain ⟨i, rfl, hin, rfl, hg⟩ := hrel
        have HG := Lib.hid hg
        clear hg
        by_cases hlt : i < ns
        · obtain ⟨r, ad, Am, cm, hr, rfl, hY⟩ := HU.out.at_ hlt
          obtain ⟨⟨d0, d1⟩, _⟩ := hY W0 (Below.refl _ _)
          have HR := Lib.hid hr
          obtain ⟨q, hq⟩ : ∃ q, r.may.length = q := ⟨_, rfl⟩
          have HQ := Lib.hid hq
          rw [hq] at d1
          clear hr hY hq
          by_cases h1 : 30 < q
          · have h1i : (30 : Int) < (q : Int) := by omega
            have HF := Lib.hid (show b = false from by rw [HT.out, all_false HR.out (decide_eq_false (by rw [HQ.out]; omega))]; rfl)
            clear h1
            go_wp2_with fail
            go_ret
            exact ⟨by rw [HF.out]; rfl, HB0.out⟩
          · have h1i : ¬ (30 : Int) < (q : Int) := by omega
            have HN2 := Lib.hid (show ((k.nd.take (i + 1)).all fun r => decide (r.may.length ≤ 30)) = true from by rw [all_take HR.out, HG.out]; exact decide_eq_true (by rw [HQ.out]; omega))
            clear h1
            go_wp2_with fail
            go_roundw
            case rel => exact ⟨i + 1, by go_num, by omega, by first | trivial | rfl, HN2.out⟩
            case measure => simp [intOf]; omega
        · obtain rfl : ns = i := by omega
          have HT2 := Lib.hid (show b = (k.lv.all fun l => decide (l.length ≤ 100)) from by rw [HT.out, all_end HN.out.1 HG.out]; rfl)
          go_wp2_with fail
          go_loopw [4] (fun iv wr => ∃ i : Nat, iv = .int .i64 (i : Int) ∧ i ≤ nr ∧ W0 = wr ∧ ((k.lv.take i).all fun l => decide (l.length ≤ 100)) = true) (fun iv _ => nr - (intOf iv).toNat)
          case atStart => exact ⟨0, rfl, by omega, rfl, rfl⟩
          case round =>
            obtain ⟨i, rfl, hin2, rfl, hg⟩ := hrel
            have HG2 := Lib.hid hg
            clear hg
            by_cases hlt2 : i < nr
            · obtain ⟨ad, u, l, rfl, _, hl, hc, hu⟩ := HV.out.at_ hlt2
              obtain ⟨Au, cu, rfl, _⟩ := hu.form
              have HR := Lib.hid hl
              obtain ⟨q, hq⟩ : ∃ q, l.length = q := ⟨_, rfl⟩
              have HQ := Lib.hid hq
              rw [hq] at hc
              clear hl hu hq
              by_cases h1 : 100 < q
              · have h1i : (100 : Int) < (q : Int) := by omega
                have HF := Lib.hid (show b = false from by rw [HT2.out]; exact all_false HR.out (decide_eq_false (by rw [HQ.out]; omega)))
                clear h1
                go_wp2_with fail
                go_ret
                exact ⟨by rw [HF.out]; rfl, HB0.out⟩
              · have h1i : ¬ (100 : Int) < (q : Int) := by omega
                have HN2 := Lib.hid (show ((k.lv.take (i + 1)).all fun l => decide (l.length ≤ 100)) = true from by rw [all_take HR.out, HG2.out]; exact decide_eq_true (by rw [HQ.out]; omega))
                clear h1
                go_wp2_with fail
                go_roundw
                case rel => exact ⟨i + 1, by go_num, by omega, by first | trivial | rfl, HN2.out⟩
                case measure => simp [intOf]; omega
            · obtain rfl : nr = i := by omega
              have HF := Lib.hid (show b = true from by rw [HT2.out]; exact all_end HN.out.2 HG2.out)
              go_wp2_with fail
              go_ret
              exact ⟨by rw [HF.out]; rfl, HB0.out⟩
  · rcases (show (60 < nr ∧ nr ≤ 1000) ∨ (1200 < nr) ∨ (nr ≤ 60) ∨ (1000 < nr ∧ nr ≤ 1200) by omega) with hB | hB | hB | hB
    · have HF := Lib.hid (HBad.out (by omega))
      have f0 : (60 : Int) < (ns : Int) := by omega
      have f1 : ¬ (ns : Int) ≤ 1000 := by omega
      have f2 : ¬ (1200 : Int) < (ns : Int) := by omega
      have f3 : (60 : Int) < (nr : Int) := by omega
      have f4 : (nr : Int) ≤ 1000 := by omega
      clear HBad HGd hA hB
      go_enter Tryz.func6, Tryz.ntmps6
      go_wp2_with fail
      rw [HW0.out]
      (try go_wp2_with fail)
      go_ret
      exact ⟨by rw [HF.out]; rfl, HB0.out⟩
    · have HF := Lib.hid (HBad.out (by omega))
      have f0 : (60 : Int) < (ns : Int) := by omega
      have f1 : ¬ (ns : Int) ≤ 1000 := by omega
      have f2 : ¬ (1200 : Int) < (ns : Int) := by omega
      have f3 : (60 : Int) < (nr : Int) := by omega
      have f4 : ¬ (nr : Int) ≤ 1000 := by omega
      have f5 : (1200 : Int) < (nr : Int) := by omega
      clear HBad HGd hA hB
      go_enter Tryz.func6, Tryz.ntmps6
      go_wp2_with fail
      rw [HW0.out]
      (try go_wp2_with fail)
      go_ret
      exact ⟨by rw [HF.out]; rfl, HB0.out⟩
    · have HT := Lib.hid (HGd.out (by omega))
      have f0 : (60 : Int) < (ns : Int) := by omega
      have f1 : ¬ (ns : Int) ≤ 1000 := by omega
      have f2 : ¬ (1200 : Int) < (ns : Int) := by omega
      have f3 : ¬ (60 : Int) < (nr : Int) := by omega
      have f4 : ¬ (1200 : Int) < (nr : Int) := by omega
      have hnr : nr ≤ 1200 := by omega
      have hns : ns ≤ 1200 := by omega
      clear HBad HGd hA hB
      go_enter Tryz.func6, Tryz.ntmps6
      go_wp2_with fail
      rw [HW0.out]
      (try go_wp2_with fail)
      go_loopw [3] (fun iv wr => ∃ i : Nat, iv = .int .i64 (i : Int) ∧ i ≤ ns ∧ W0 = wr ∧ ((k.nd.take i).all fun r => decide (r.may.length ≤ 30)) = true) (fun iv _ => ns - (intOf iv).toNat)
      case atStart => exact ⟨0, rfl, by omega, rfl, rfl⟩
      case round =>
        obtain ⟨i, rfl, hin, rfl, hg⟩ := hrel
        have HG := Lib.hid hg
        clear hg
        by_cases hlt : i < ns
        · obtain ⟨r, ad, Am, cm, hr, rfl, hY⟩ := HU.out.at_ hlt
          obtain ⟨⟨d0, d1⟩, _⟩ := hY W0 (Below.refl _ _)
          have HR := Lib.hid hr
          obtain ⟨q, hq⟩ : ∃ q, r.may.length = q := ⟨_, rfl⟩
          have HQ := Lib.hid hq
          rw [hq] at d1
          clear hr hY hq
          by_cases h1 : 30 < q
          · have h1i : (30 : Int) < (q : Int) := by omega
            have HF := Lib.hid (show b = false from by rw [HT.out, all_false HR.out (decide_eq_false (by rw [HQ.out]; omega))]; rfl)
            clear h1
            go_wp2_with fail
            go_ret
            exact ⟨by rw [HF.out]; rfl, HB0.out⟩
          · have h1i : ¬ (30 : Int) < (q : Int) := by omega
            have HN2 := Lib.hid (show ((k.nd.take (i + 1)).all fun r => decide (r.may.length ≤ 30)) = true from by rw [all_take HR.out, HG.out]; exact decide_eq_true (by rw [HQ.out]; omega))
            clear h1
            go_wp2_with fail
            go_roundw
            case rel => exact ⟨i + 1, by go_num, by omega, by first | trivial | rfl, HN2.out⟩
            case measure => simp [intOf]; omega
        · obtain rfl : ns = i := by omega
          have HT2 := Lib.hid (show b = (k.lv.all fun l => decide (l.length ≤ 100)) from by rw [HT.out, all_end HN.out.1 HG.out]; rfl)
          go_wp2_with fail
          go_loopw [4] (fun iv wr => ∃ i : Nat, iv = .int .i64 (i : Int) ∧ i ≤ nr ∧ W0 = wr ∧ ((k.lv.take i).all fun l => decide (l.length ≤ 100)) = true) (fun iv _ => nr - (intOf iv).toNat)
          case atStart => exact ⟨0, rfl, by omega, rfl, rfl⟩
          case round =>
            obtain ⟨i, rfl, hin2, rfl, hg⟩ := hrel
            have HG2 := Lib.hid hg
            clear hg
            by_cases hlt2 : i < nr
            · obtain ⟨ad, u, l, rfl, _, hl, hc, hu⟩ := HV.out.at_ hlt2
              obtain ⟨Au, cu, rfl, _⟩ := hu.form
              have HR := Lib.hid hl
              obtain ⟨q, hq⟩ : ∃ q, l.length = q := ⟨_, rfl⟩
              have HQ := Lib.hid hq
              rw [hq] at hc
              clear hl hu hq
              by_cases h1 : 100 < q
              · have h1i : (100 : Int) < (q : Int) := by omega
                have HF := Lib.hid (show b = false from by rw [HT2.out]; exact all_false HR.out (decide_eq_false (by rw [HQ.out]; omega)))
                clear h1
                go_wp2_with fail
                go_ret
                exact ⟨by rw [HF.out]; rfl, HB0.out⟩
              · have h1i : ¬ (100 : Int) < (q : Int) := by omega
                have HN2 := Lib.hid (show ((k.lv.take (i + 1)).all fun l => decide (l.length ≤ 100)) = true from by rw [all_take HR.out, HG2.out]; exact decide_eq_true (by rw [HQ.out]; omega))
                clear h1
                go_wp2_with fail
                go_roundw
                case rel => exact ⟨i + 1, by go_num, by omega, by first | trivial | rfl, HN2.out⟩
                case measure => simp [intOf]; omega
            · obtain rfl : nr = i := by omega
              have HF := Lib.hid (show b = true from by rw [HT2.out]; exact all_end HN.out.2 HG2.out)
              go_wp2_with fail
              go_ret
              exact ⟨by rw [HF.out]; rfl, HB0.out⟩
    · have HT := Lib.hid (HGd.out (by omega))
      have f0 : (60 : Int) < (ns : Int) := by omega
      have f1 : ¬ (ns : Int) ≤ 1000 := by omega
      have f2 : ¬ (1200 : Int) < (ns : Int) := by omega
      have f3 : (60 : Int) < (nr : Int) := by omega
      have f4 : ¬ (nr : Int) ≤ 1000 := by omega
      have f5 : ¬ (1200 : Int) < (nr : Int) := by omega
      have hnr : nr ≤ 1200 := by omega
      have hns : ns ≤ 1200 := by omega
      clear HBad HGd hA hB
      go_enter Tryz.func6, Tryz.ntmps6
      go_wp2_with fail
      rw [HW0.out]
      (try go_wp2_with fail)
      go_loopw [3] (fun iv wr => ∃ i : Nat, iv = .int .i64 (i : Int) ∧ i ≤ ns ∧ W0 = wr ∧ ((k.nd.take i).all fun r => decide (r.may.length ≤ 30)) = true) (fun iv _ => ns - (intOf iv).toNat)
      case atStart => exact ⟨0, rfl, by omega, rfl, rfl⟩
      case round =>
        obtain ⟨i, rfl, hin, rfl, hg⟩ := hrel
        have HG := Lib.hid hg
        clear hg
        by_cases hlt : i < ns
        · obtain ⟨r, ad, Am, cm, hr, rfl, hY⟩ := HU.out.at_ hlt
          obtain ⟨⟨d0, d1⟩, _⟩ := hY W0 (Below.refl _ _)
          have HR := Lib.hid hr
          obtain ⟨q, hq⟩ : ∃ q, r.may.length = q := ⟨_, rfl⟩
          have HQ := Lib.hid hq
          rw [hq] at d1
          clear hr hY hq
          by_cases h1 : 30 < q
          · have h1i : (30 : Int) < (q : Int) := by omega
            have HF := Lib.hid (show b = false from by rw [HT.out, all_false HR.out (decide_eq_false (by rw [HQ.out]; omega))]; rfl)
            clear h1
            go_wp2_with fail
            go_ret
            exact ⟨by rw [HF.out]; rfl, HB0.out⟩
          · have h1i : ¬ (30 : Int) < (q : Int) := by omega
            have HN2 := Lib.hid (show ((k.nd.take (i + 1)).all fun r => decide (r.may.length ≤ 30)) = true from by rw [all_take HR.out, HG.out]; exact decide_eq_true (by rw [HQ.out]; omega))
            clear h1
            go_wp2_with fail
            go_roundw
            case rel => exact ⟨i + 1, by go_num, by omega, by first | trivial | rfl, HN2.out⟩
            case measure => simp [intOf]; omega
        · obtain rfl : ns = i := by omega
          have HT2 := Lib.hid (show b = (k.lv.all fun l => decide (l.length ≤ 100)) from by rw [HT.out, all_end HN.out.1 HG.out]; rfl)
          go_wp2_with fail
          go_loopw [4] (fun iv wr => ∃ i : Nat, iv = .int .i64 (i : Int) ∧ i ≤ nr ∧ W0 = wr ∧ ((k.lv.take i).all fun l => decide (l.length ≤ 100)) = true) (fun iv _ => nr - (intOf iv).toNat)
          case atStart => exact ⟨0, rfl, by omega, rfl, rfl⟩
          case round =>
            obtain ⟨i, rfl, hin2, rfl, hg⟩ := hrel
            have HG2 := Lib.hid hg
            clear hg
            by_cases hlt2 : i < nr
            · obtain ⟨ad, u, l, rfl, _, hl, hc, hu⟩ := HV.out.at_ hlt2
              obtain ⟨Au, cu, rfl, _⟩ := hu.form
              have HR := Lib.hid hl
              obtain ⟨q, hq⟩ : ∃ q, l.length = q := ⟨_, rfl⟩
              have HQ := Lib.hid hq
              rw [hq] at hc
              clear hl hu hq
              by_cases h1 : 100 < q
              · have h1i : (100 : Int) < (q : Int) := by omega
                have HF := Lib.hid (show b = false from by rw [HT2.out]; exact all_false HR.out (decide_eq_false (by rw [HQ.out]; omega)))
                clear h1
                go_wp2_with fail
                go_ret
                exact ⟨by rw [HF.out]; rfl, HB0.out⟩
              · have h1i : ¬ (100 : Int) < (q : Int) := by omega
                have HN2 := Lib.hid (show ((k.lv.take (i + 1)).all fun l => decide (l.length ≤ 100)) = true from by rw [all_take HR.out, HG2.out]; exact decide_eq_true (by rw [HQ.out]; omega))
                clear h1
                go_wp2_with fail
                go_roundw
                case rel => exact ⟨i + 1, by go_num, by omega, by first | trivial | rfl, HN2.out⟩
                case measure => simp [intOf]; omega
            · obtain rfl : nr = i := by omega
              have HF := Lib.hid (show b = true from by rw [HT2.out]; exact all_end HN.out.2 HG2.out)
              go_wp2_with fail
              go_ret
              exact ⟨by rw [HF.out]; rfl, HB0.out⟩
end Go.Proofs.YthfegbcbpeedbaaGreatDoor
