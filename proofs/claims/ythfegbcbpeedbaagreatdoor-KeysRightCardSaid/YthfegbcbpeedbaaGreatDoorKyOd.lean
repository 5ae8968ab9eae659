
/- What is built: mathematics. -/
import Derived.Test.YthfegbcbpeedbaaGreatDoorKyQ
import Derived.RangeFuncNested
import Derived.RangeFuncBound
import Derived.RangeFuncCalls
import Derived.RangeFuncLeaves
import Derived.WalkKit
import Derived.OwnWalkIn
import Derived.TacticsInMore
import Derived.LoopNIn
import Derived.LoopIn
namespace Go.Ky
def fewF (m : Mx) : Bool := !(decide (8 < m.st.length ∧ m.st.length ≤ 64 ∨ 100 < m.st.length ∨ 20 < m.rows.length ∧ m.rows.length ≤ 400 ∨ 500 < m.rows.length)) && m.rows.all fun r => decide (r.may.length ≤ 100)
end Go.Ky
namespace Go.Proofs.YthfegbcbpeedbaaGreatDoor
open Go.RowKit Go.Nm Go.Ky

set_option maxRecDepth 100000 in
set_option maxHeartbeats 8000000 in
theorem few_any (v : Value) (m : Mx) (w : World) (hv : MxV w v m) :
    Calls Tryz.prog 5 #[v] w fun e w' => e = .returned (.bool (fewF m)) ∧ Below w.heap.size w w' := by
  obtain ⟨A1, c1, A2, c2, W0, rfl, hW0, hb0, hM, hS, hR, hX⟩ := mx_box hv
  have HB0 := Lib.hid hb0
  have HW0 := Lib.hid hW0
  have HU := Lib.hid (hR W0 (Below.refl _ _))
  obtain ⟨k0, k1⟩ := hX W0 (Below.refl _ _)
  obtain ⟨b, hb⟩ : ∃ b, fewF m = b := ⟨_, rfl⟩
  obtain ⟨ns, hns⟩ : ∃ n, m.st.length = n := ⟨_, rfl⟩
  obtain ⟨nr, hnr⟩ : ∃ n, m.rows.length = n := ⟨_, rfl⟩
  have HN := Lib.hid hnr
  have HF0 := Lib.hid (show b = (!(decide (8 < ns ∧ ns ≤ 64 ∨ 100 < ns ∨ 20 < nr ∧ nr ≤ 400 ∨ 500 < nr)) && m.rows.all fun r => decide (r.may.length ≤ 100)) from by rw [← hb]; unfold fewF; rw [hns, hnr])
  rw [hb]
  rw [hns, hnr] at HW0
  rw [hns] at k0
  rw [hnr] at k1 HU
  rw [hns, hnr]
  clear hv hW0 hb0 hM hS hR hX hb hns hnr
  have HBad := Lib.hid (fun h : (8 < ns ∧ ns ≤ 64 ∨ 100 < ns ∨ 20 < nr ∧ nr ≤ 400 ∨ 500 < nr) => (show b = false from by rw [HF0.out, decide_eq_true h]; rfl))
  have HGd := Lib.hid (fun h : ¬ (8 < ns ∧ ns ≤ 64 ∨ 100 < ns ∨ 20 < nr ∧ nr ≤ 400 ∨ 500 < nr) => (show b = m.rows.all (fun r => decide (r.may.length ≤ 100)) from by rw [HF0.out, decide_eq_false h]; rfl))
  clear HF0
  rcases (show (8 < ns ∧ ns ≤ 64) ∨ (100 < ns) ∨ (ns ≤ 8) ∨ (64 < ns ∧ ns ≤ 100) by omega) with hA | hA | hA | hA
  · have HF := Lib.hid (HBad.out (by omega))
    have f0 : (8 : Int) < (ns : Int) := by omega
    have f1 : (ns : Int) ≤ 64 := by omega
    clear HBad HGd
    clear hA
    go_enter Tryz.func5, Tryz.ntmps5
    go_wp2_with fail
    rw [HW0.out]
    (try go_wp2_with fail)
    go_ret
    exact ⟨by rw [HF.out]; rfl, HB0.out⟩
  · have HF := Lib.hid (HBad.out (by omega))
    have f0 : (8 : Int) < (ns : Int) := by omega
    have f1 : ¬ (ns : Int) ≤ 64 := by omega
    have f2 : (100 : Int) < (ns : Int) := by omega
    clear HBad HGd
    clear hA
    go_enter Tryz.func5, Tryz.ntmps5
    go_wp2_with fail
    rw [HW0.out]
    (try go_wp2_with fail)
    go_ret
    exact ⟨by rw [HF.out]; rfl, HB0.out⟩
  · rcases (show (20 < nr ∧ nr ≤ 400) ∨ (500 < nr) ∨ (nr ≤ 20) ∨ (400 < nr ∧ nr ≤ 500) by omega) with hB | hB | hB | hB
    · have HF := Lib.hid (HBad.out (by omega))
      have f0 : ¬ (8 : Int) < (ns : Int) := by omega
      have f1 : ¬ (100 : Int) < (ns : Int) := by omega
      have f2 : (20 : Int) < (nr : Int) := by omega
      have f3 : (nr : Int) ≤ 400 := by omega
      clear HBad HGd
      clear hA hB
      go_enter Tryz.func5, Tryz.ntmps5
      go_wp2_with fail
      rw [HW0.out]
      (try go_wp2_with fail)
      go_ret
      exact ⟨by rw [HF.out]; rfl, HB0.out⟩
    · have HF := Lib.hid (HBad.out (by omega))
      have f0 : ¬ (8 : Int) < (ns : Int) := by omega
      have f1 : ¬ (100 : Int) < (ns : Int) := by omega
      have f2 : (20 : Int) < (nr : Int) := by omega
      have f3 : ¬ (nr : Int) ≤ 400 := by omega
      have f4 : (500 : Int) < (nr : Int) := by omega
      clear HBad HGd
      clear hA hB
      go_enter Tryz.func5, Tryz.ntmps5
      go_wp2_with fail
      rw [HW0.out]
      (try go_wp2_with fail)
      go_ret
      exact ⟨by rw [HF.out]; rfl, HB0.out⟩
    · have HT := Lib.hid (HGd.out (by omega))
      have f0 : ¬ (8 : Int) < (ns : Int) := by omega
      have f1 : ¬ (100 : Int) < (ns : Int) := by omega
      have f2 : ¬ (20 : Int) < (nr : Int) := by omega
      have f3 : ¬ (500 : Int) < (nr : Int) := by omega
      have hnr : nr ≤ 500 := by omega
      clear HBad HGd hA hB
      go_enter Tryz.func5, Tryz.ntmps5
      go_wp2_with fail
      rw [HW0.out]
      (try go_wp2_with fail)
      go_loopw [3] (fun iv wr => ∃ i : Nat, iv = .int .i64 (i : Int) ∧ i ≤ nr ∧ W0 = wr ∧ ((m.rows.take i).all fun r => decide (r.may.length ≤ 100)) = true) (fun iv _ => nr - (intOf iv).toNat)
      case atStart => exact ⟨0, rfl, by omega, rfl, rfl⟩
      case round =>
        obtain ⟨i, rfl, hin, rfl, hg⟩ := hrel
        have HG := Lib.hid hg
        clear hg
        by_cases hlt : i < nr
        · obtain ⟨r, ad, Am, cm, hr, rfl, hY⟩ := HU.out.at_ hlt
          obtain ⟨⟨d0, d1⟩, _⟩ := hY W0 (Below.refl _ _)
          have HR := Lib.hid hr
          obtain ⟨q, hq⟩ : ∃ q, r.may.length = q := ⟨_, rfl⟩
          have HQ := Lib.hid hq
          rw [hq] at d1
          clear hr hY hq
          by_cases h1 : 100 < q
          · have h1i : (100 : Int) < (q : Int) := by omega
            have HF := Lib.hid (show b = false from by rw [HT.out]; exact all_false HR.out (decide_eq_false (by rw [HQ.out]; omega)))
            clear h1
            go_wp2_with fail
            go_ret
            exact ⟨by rw [HF.out]; rfl, HB0.out⟩
          · have h1i : ¬ (100 : Int) < (q : Int) := by omega
            have HN2 := Lib.hid (show ((m.rows.take (i + 1)).all fun r => decide (r.may.length ≤ 100)) = true from by rw [all_take HR.out, HG.out]; exact decide_eq_true (by rw [HQ.out]; omega))
            clear h1
            go_wp2_with fail
            go_roundw
            case rel => exact ⟨i + 1, by go_num, by omega, by first | trivial | rfl, HN2.out⟩
            case measure => simp [intOf]; omega
        · obtain rfl : nr = i := by omega
          have HF := Lib.hid (show b = true from by rw [HT.out]; exact all_end HN.out HG.out)
          go_wp2_with fail
          go_ret
          exact ⟨by rw [HF.out]; rfl, HB0.out⟩
    · have HT := Lib.hid (HGd.out (by omega))
      have f0 : ¬ (8 : Int) < (ns : Int) := by omega
      have f1 : ¬ (100 : Int) < (ns : Int) := by omega
      have f2 : (20 : Int) < (nr : Int) := by omega
      have f3 : ¬ (nr : Int) ≤ 400 := by omega
      have f4 : ¬ (500 : Int) < (nr : Int) := by omega
      have hnr : nr ≤ 500 := by omega
      clear HBad HGd hA hB
      go_enter Tryz.func5, Tryz.ntmps5
      go_wp2_with fail
      rw [HW0.out]
      (try go_wp2_with fail)
      go_loopw [3] (fun iv wr => ∃ i : Nat, iv = .int .i64 (i : Int) ∧ i ≤ nr ∧ W0 = wr ∧ ((m.rows.take i).all fun r => decide (r.may.length ≤ 100)) = true) (fun iv _ => nr - (intOf iv).toNat)
      case atStart => exact ⟨0, rfl, by omega, rfl, rfl⟩
      case round =>
        obtain ⟨i, rfl, hin, rfl, hg⟩ := hrel
        have HG := Lib.hid hg
        clear hg
        by_cases hlt : i < nr
        · obtain ⟨r, ad, Am, cm, hr, rfl, hY⟩ := HU.out.at_ hlt
          obtain ⟨⟨d0, d1⟩, _⟩ := hY W0 (Below.refl _ _)
          have HR := Lib.hid hr
          obtain ⟨q, hq⟩ : ∃ q, r.may.length = q := ⟨_, rfl⟩
          have HQ := Lib.hid hq
          rw [hq] at d1
          clear hr hY hq
          by_cases h1 : 100 < q
          · have h1i : (100 : Int) < (q : Int) := by omega
            have HF := Lib.hid (show b = false from by rw [HT.out]; exact all_false HR.out (decide_eq_false (by rw [HQ.out]; omega)))
            clear h1
            go_wp2_with fail
            go_ret
            exact ⟨by rw [HF.out]; rfl, HB0.out⟩
          · have h1i : ¬ (100 : Int) < (q : Int) := by omega
            have HN2 := Lib.hid (show ((m.rows.take (i + 1)).all fun r => decide (r.may.length ≤ 100)) = true from by rw [all_take HR.out, HG.out]; exact decide_eq_true (by rw [HQ.out]; omega))
            clear h1
            go_wp2_with fail
            go_roundw
            case rel => exact ⟨i + 1, by go_num, by omega, by first | trivial | rfl, HN2.out⟩
            case measure => simp [intOf]; omega
        · obtain rfl : nr = i := by omega
          have HF := Lib.hid (show b = true from by rw [HT.out]; exact all_end HN.out HG.out)
          go_wp2_with fail
          go_ret
          exact ⟨by rw [HF.out]; rfl, HB0.out⟩
  · rcases (show (20 < nr ∧ nr ≤ 400) ∨ (500 < nr) ∨ (nr ≤ 20) ∨ (400 < nr ∧ nr ≤ 500) by omega) with hB | hB | hB | hB
    · have HF := Lib.hid (HBad.out (by omega))
      have f0 : (8 : Int) < (ns : Int) := by omega
      have f1 : ¬ (ns : Int) ≤ 64 := by omega
      have f2 : ¬ (100 : Int) < (ns : Int) := by omega
      have f3 : (20 : Int) < (nr : Int) := by omega
      have f4 : (nr : Int) ≤ 400 := by omega
      clear HBad HGd
      clear hA hB
      go_enter Tryz.func5, Tryz.ntmps5
      go_wp2_with fail
      rw [HW0.out]
      (try go_wp2_with fail)
      go_ret
      exact ⟨by rw [HF.out]; rfl, HB0.out⟩
    · have HF := Lib.hid (HBad.out (by omega))
      have f0 : (8 : Int) < (ns : Int) := by omega
      have f1 : ¬ (ns : Int) ≤ 64 := by omega
      have f2 : ¬ (100 : Int) < (ns : Int) := by omega
      have f3 : (20 : Int) < (nr : Int) := by omega
      have f4 : ¬ (nr : Int) ≤ 400 := by omega
      have f5 : (500 : Int) < (nr : Int) := by omega
      clear HBad HGd
      clear hA hB
      go_enter Tryz.func5, Tryz.ntmps5
      go_wp2_with fail
      rw [HW0.out]
      (try go_wp2_with fail)
      go_ret
      exact ⟨by rw [HF.out]; rfl, HB0.out⟩
    · have HT := Lib.hid (HGd.out (by omega))
      have f0 : (8 : Int) < (ns : Int) := by omega
      have f1 : ¬ (ns : Int) ≤ 64 := by omega
      have f2 : ¬ (100 : Int) < (ns : Int) := by omega
      have f3 : ¬ (20 : Int) < (nr : Int) := by omega
      have f4 : ¬ (500 : Int) < (nr : Int) := by omega
      have hnr : nr ≤ 500 := by omega
      clear HBad HGd hA hB
      go_enter Tryz.func5, Tryz.ntmps5
      go_wp2_with fail
      rw [HW0.out]
      (try go_wp2_with fail)
      go_loopw [3] (fun iv wr => ∃ i : Nat, iv = .int .i64 (i : Int) ∧ i ≤ nr ∧ W0 = wr ∧ ((m.rows.take i).all fun r => decide (r.may.length ≤ 100)) = true) (fun iv _ => nr - (intOf iv).toNat)
      case atStart => exact ⟨0, rfl, by omega, rfl, rfl⟩
      case round =>
        obtain ⟨i, rfl, hin, rfl, hg⟩ := hrel
        have HG := Lib.hid hg
        clear hg
        by_cases hlt : i < nr
        · obtain ⟨r, ad, Am, cm, hr, rfl, hY⟩ := HU.out.at_ hlt
          obtain ⟨⟨d0, d1⟩, _⟩ := hY W0 (Below.refl _ _)
          have HR := Lib.hid hr
          obtain ⟨q, hq⟩ : ∃ q, r.may.length = q := ⟨_, rfl⟩
          have HQ := Lib.hid hq
          rw [hq] at d1
          clear hr hY hq
          by_cases h1 : 100 < q
          · have h1i : (100 : Int) < (q : Int) := by omega
            have HF := Lib.hid (show b = false from by rw [HT.out]; exact all_false HR.out (decide_eq_false (by rw [HQ.out]; omega)))
            clear h1
            go_wp2_with fail
            go_ret
            exact ⟨by rw [HF.out]; rfl, HB0.out⟩
          · have h1i : ¬ (100 : Int) < (q : Int) := by omega
            have HN2 := Lib.hid (show ((m.rows.take (i + 1)).all fun r => decide (r.may.length ≤ 100)) = true from by rw [all_take HR.out, HG.out]; exact decide_eq_true (by rw [HQ.out]; omega))
            clear h1
            go_wp2_with fail
            go_roundw
            case rel => exact ⟨i + 1, by go_num, by omega, by first | trivial | rfl, HN2.out⟩
            case measure => simp [intOf]; omega
        · obtain rfl : nr = i := by omega
          have HF := Lib.hid (show b = true from by rw [HT.out]; exact all_end HN.out HG.out)
          go_wp2_with fail
          go_ret
          exact ⟨by rw [HF.out]; rfl, HB0.out⟩
    · have HT := Lib.hid (HGd.out (by omega))
      have f0 : (8 : Int) < (ns : Int) := by omega
      have f1 : ¬ (ns : Int) ≤ 64 := by omega
      have f2 : ¬ (100 : Int) < (ns : Int) := by omega
      have f3 : (20 : Int) < (nr : Int) := by omega
      have f4 : ¬ (nr : Int) ≤ 400 := by omega
      have f5 : ¬ (500 : Int) < (nr : Int) := by omega
      have hnr : nr ≤ 500 := by omega
      clear HBad HGd hA hB
      go_enter Tryz.func5, Tryz.ntmps5
      go_wp2_with fail
      rw [HW0.out]
      (try go_wp2_with fail)
      go_loopw [3] (fun iv wr => ∃ i : Nat, iv = .int .i64 (i : Int) ∧ i ≤ nr ∧ W0 = wr ∧ ((m.rows.take i).all fun r => decide (r.may.length ≤ 100)) = true) (fun iv _ => nr - (intOf iv).toNat)
      case atStart => exact ⟨0, rfl, by omega, rfl, rfl⟩
      case round =>
        obtain ⟨i, rfl, hin, rfl, hg⟩ := hrel
        have HG := Lib.hid hg
        clear hg
        by_cases hlt : i < nr
        · obtain ⟨r, ad, Am, cm, hr, rfl, hY⟩ := HU.out.at_ hlt
          obtain ⟨⟨d0, d1⟩, _⟩ := hY W0 (Below.refl _ _)
          have HR := Lib.hid hr
          obtain ⟨q, hq⟩ : ∃ q, r.may.length = q := ⟨_, rfl⟩
          have HQ := Lib.hid hq
          rw [hq] at d1
          clear hr hY hq
          by_cases h1 : 100 < q
          · have h1i : (100 : Int) < (q : Int) := by omega
            have HF := Lib.hid (show b = false from by rw [HT.out]; exact all_false HR.out (decide_eq_false (by rw [HQ.out]; omega)))
            clear h1
            go_wp2_with fail
            go_ret
            exact ⟨by rw [HF.out]; rfl, HB0.out⟩
          · have h1i : ¬ (100 : Int) < (q : Int) := by omega
            have HN2 := Lib.hid (show ((m.rows.take (i + 1)).all fun r => decide (r.may.length ≤ 100)) = true from by rw [all_take HR.out, HG.out]; exact decide_eq_true (by rw [HQ.out]; omega))
            clear h1
            go_wp2_with fail
            go_roundw
            case rel => exact ⟨i + 1, by go_num, by omega, by first | trivial | rfl, HN2.out⟩
            case measure => simp [intOf]; omega
        · obtain rfl : nr = i := by omega
          have HF := Lib.hid (show b = true from by rw [HT.out]; exact all_end HN.out HG.out)
          go_wp2_with fail
          go_ret
          exact ⟨by rw [HF.out]; rfl, HB0.out⟩
end Go.Proofs.YthfegbcbpeedbaaGreatDoor
namespace Go.Proofs.YthfegbcbpeedbaaGreatDoor
open Go.RowKit Go.Nm Go.Ky

end Go.Proofs.YthfegbcbpeedbaaGreatDoor
namespace Go.Ky
def sampleM : Mx := ⟨[2, 3], [⟨10, [1, 3]⟩, ⟨20, [2, 1]⟩, ⟨30, [1, 6]⟩]⟩
end Go.Ky
namespace Go.Proofs.YthfegbcbpeedbaaGreatDoor
open Go.RowKit Go.Nm Go.Ky

theorem two_sl {X : World} {g : Nat} {a b : Int} (h : X.heap[g]? = some (.cells #[.int .i64 a, .int .i64 b] 3)) : InSl X X.heap.size (.slice (some ⟨g, 0, none⟩) 2 2) [a, b] := by
  obtain ⟨c0, c1⟩ := cells_two h
  refine ⟨some ⟨g, 0, none⟩, 2, rfl, by simp, by unfold maxLen; omega, fun i x hx => ⟨_, rfl, (Array.getElem?_eq_some_iff.1 h).1, ?_⟩⟩
  have hi := (List.getElem?_eq_some_iff.1 hx).1
  rw [add_zero_k]
  rcases (show i = 0 ∨ i = 1 by simp at hi; omega) with rfl | rfl
  · simp at hx; subst hx; exact c0
  · simp at hx; subst hx; exact c1
theorem three_rows {X : World} {g : Nat} {a b c : Rw} {va vb vc : Value} (h : X.heap[g]? = some (.cells #[.int .i64 a.nm, va, .int .i64 b.nm, vb, .int .i64 c.nm, vc] 58)) (ha : InSl X X.heap.size va a.may) (hb : InSl X X.heap.size vb b.may) (hc : InSl X X.heap.size vc c.may) : IlSl X X.heap.size (.slice (some ⟨g, 0, none⟩) 3 3) [a, b, c] := by
  refine ⟨some ⟨g, 0, none⟩, 3, rfl, fun i x hx => ?_⟩
  have hl : g < X.heap.size := (Array.getElem?_eq_some_iff.1 h).1
  have hi := (List.getElem?_eq_some_iff.1 hx).1
  rcases (show i = 0 ∨ i = 1 ∨ i = 2 by simp at hi; omega) with rfl | rfl | rfl
  · simp at hx; subst hx; exact ⟨_, va, rfl, hl, by rw [add_zero_k]; simp [World.cell?, h], by rw [add_zero_k]; simp [World.cell?, h], ha⟩
  · simp at hx; subst hx; exact ⟨_, vb, rfl, hl, by rw [add_zero_k]; simp [World.cell?, h], by rw [add_zero_k]; simp [World.cell?, h], hb⟩
  · simp at hx; subst hx; exact ⟨_, vc, rfl, hl, by rw [add_zero_k]; simp [World.cell?, h], by rw [add_zero_k]; simp [World.cell?, h], hc⟩
set_option maxRecDepth 100000 in
set_option maxHeartbeats 8000000 in
theorem matrix_any (w : World) :
    Calls Tryz.prog 18 #[] w fun e w' => (∃ v, e = .returned v ∧ MxV w' v sampleM) ∧ Below w.heap.size w w' := by
  obtain ⟨W1, hW1⟩ : ∃ W, w.alloc (.cells #[.slice (some ⟨w.heap.size + 1, 0, none⟩) 2 2, .slice (some ⟨w.heap.size + 1 + 1 + 1 + 1 + 1, 0, none⟩) 3 3] 25) = W := ⟨_, rfl⟩
  have hb1 := below_new (w := w) (.cells #[.slice (some ⟨w.heap.size + 1, 0, none⟩) 2 2, .slice (some ⟨w.heap.size + 1 + 1 + 1 + 1 + 1, 0, none⟩) 3 3] 25)
  have hn1 := World.alloc_heap_new w (.cells #[.slice (some ⟨w.heap.size + 1, 0, none⟩) 2 2, .slice (some ⟨w.heap.size + 1 + 1 + 1 + 1 + 1, 0, none⟩) 3 3] 25)
  rw [hW1] at hb1 hn1
  have hz1 : W1.heap.size = w.heap.size + 1 := by rw [← hW1]; simp
  obtain ⟨W2, hW2⟩ : ∃ W, W1.alloc (.cells #[.int .i64 2, .int .i64 3] 3) = W := ⟨_, rfl⟩
  have hb2 := below_new (w := W1) (.cells #[.int .i64 2, .int .i64 3] 3)
  have hn2 := World.alloc_heap_new W1 (.cells #[.int .i64 2, .int .i64 3] 3)
  rw [hW2] at hb2 hn2
  rw [hz1] at hn2
  have hz2 : W2.heap.size = w.heap.size + 1 + 1 := by rw [← hW2]; simp [hz1]
  have hn1 := (hb2.block _ (by omega)).trans hn1
  obtain ⟨W3, hW3⟩ : ∃ W, W2.alloc (.cells #[.int .i64 1, .int .i64 3] 3) = W := ⟨_, rfl⟩
  have hb3 := below_new (w := W2) (.cells #[.int .i64 1, .int .i64 3] 3)
  have hn3 := World.alloc_heap_new W2 (.cells #[.int .i64 1, .int .i64 3] 3)
  rw [hW3] at hb3 hn3
  rw [hz2] at hn3
  have hz3 : W3.heap.size = w.heap.size + 1 + 1 + 1 := by rw [← hW3]; simp [hz2]
  have hn1 := (hb3.block _ (by omega)).trans hn1
  have hn2 := (hb3.block _ (by omega)).trans hn2
  obtain ⟨W4, hW4⟩ : ∃ W, W3.alloc (.cells #[.int .i64 2, .int .i64 1] 3) = W := ⟨_, rfl⟩
  have hb4 := below_new (w := W3) (.cells #[.int .i64 2, .int .i64 1] 3)
  have hn4 := World.alloc_heap_new W3 (.cells #[.int .i64 2, .int .i64 1] 3)
  rw [hW4] at hb4 hn4
  rw [hz3] at hn4
  have hz4 : W4.heap.size = w.heap.size + 1 + 1 + 1 + 1 := by rw [← hW4]; simp [hz3]
  have hn1 := (hb4.block _ (by omega)).trans hn1
  have hn2 := (hb4.block _ (by omega)).trans hn2
  have hn3 := (hb4.block _ (by omega)).trans hn3
  obtain ⟨W5, hW5⟩ : ∃ W, W4.alloc (.cells #[.int .i64 1, .int .i64 6] 3) = W := ⟨_, rfl⟩
  have hb5 := below_new (w := W4) (.cells #[.int .i64 1, .int .i64 6] 3)
  have hn5 := World.alloc_heap_new W4 (.cells #[.int .i64 1, .int .i64 6] 3)
  rw [hW5] at hb5 hn5
  rw [hz4] at hn5
  have hz5 : W5.heap.size = w.heap.size + 1 + 1 + 1 + 1 + 1 := by rw [← hW5]; simp [hz4]
  have hn1 := (hb5.block _ (by omega)).trans hn1
  have hn2 := (hb5.block _ (by omega)).trans hn2
  have hn3 := (hb5.block _ (by omega)).trans hn3
  have hn4 := (hb5.block _ (by omega)).trans hn4
  obtain ⟨W6, hW6⟩ : ∃ W, W5.alloc (.cells #[.int .i64 10, .slice (some ⟨w.heap.size + 1 + 1, 0, none⟩) 2 2, .int .i64 20, .slice (some ⟨w.heap.size + 1 + 1 + 1, 0, none⟩) 2 2, .int .i64 30, .slice (some ⟨w.heap.size + 1 + 1 + 1 + 1, 0, none⟩) 2 2] 58) = W := ⟨_, rfl⟩
  have hb6 := below_new (w := W5) (.cells #[.int .i64 10, .slice (some ⟨w.heap.size + 1 + 1, 0, none⟩) 2 2, .int .i64 20, .slice (some ⟨w.heap.size + 1 + 1 + 1, 0, none⟩) 2 2, .int .i64 30, .slice (some ⟨w.heap.size + 1 + 1 + 1 + 1, 0, none⟩) 2 2] 58)
  have hn6 := World.alloc_heap_new W5 (.cells #[.int .i64 10, .slice (some ⟨w.heap.size + 1 + 1, 0, none⟩) 2 2, .int .i64 20, .slice (some ⟨w.heap.size + 1 + 1 + 1, 0, none⟩) 2 2, .int .i64 30, .slice (some ⟨w.heap.size + 1 + 1 + 1 + 1, 0, none⟩) 2 2] 58)
  rw [hW6] at hb6 hn6
  rw [hz5] at hn6
  have hz6 : W6.heap.size = w.heap.size + 1 + 1 + 1 + 1 + 1 + 1 := by rw [← hW6]; simp [hz5]
  have hn1 := (hb6.block _ (by omega)).trans hn1
  have hn2 := (hb6.block _ (by omega)).trans hn2
  have hn3 := (hb6.block _ (by omega)).trans hn3
  have hn4 := (hb6.block _ (by omega)).trans hn4
  have hn5 := (hb6.block _ (by omega)).trans hn5
  have hB := hb1
  have hB := hB.trans (hb2.mono hB.size)
  have hB := hB.trans (hb3.mono hB.size)
  have hB := hB.trans (hb4.mono hB.size)
  have hB := hB.trans (hb5.mono hB.size)
  have hB := hB.trans (hb6.mono hB.size)
  have HW := Lib.hid (And.intro hW1 (And.intro hW2 (And.intro hW3 (And.intro hW4 (And.intro hW5 hW6)))))
  have HB := Lib.hid hB
  have HN := Lib.hid (And.intro hn2 (And.intro hn3 (And.intro hn4 (And.intro hn5 hn6))))
  obtain ⟨c0, c1⟩ := cells_two hn1
  clear hW1 hW2 hW3 hW4 hW5 hW6 hb1 hb2 hb3 hb4 hb5 hb6 hn1 hn2 hn3 hn4 hn5 hn6 hz1 hz2 hz3 hz4 hz5 hz6 hB
  go_enter Tryz.func18, Tryz.ntmps18
  go_wp2_with fail
  rw [HW.out.1, HW.out.2.1, HW.out.2.2.1, HW.out.2.2.2.1, HW.out.2.2.2.2.1, HW.out.2.2.2.2.2]
  (try go_wp2_with fail)
  exact bodyPost_ret (v := .agg #[.slice (some ⟨w.heap.size + 1, 0, none⟩) 2 2, .slice (some ⟨w.heap.size + 1 + 1 + 1 + 1 + 1, 0, none⟩) 3 3]) (by simp [results, Tryz.results18, go_sem, c0, c1]) rfl ⟨⟨_, rfl, ⟨_, _, rfl, two_sl HN.out.1, three_rows (a := ⟨10, [1, 3]⟩) (b := ⟨20, [2, 1]⟩) (c := ⟨30, [1, 6]⟩) HN.out.2.2.2.2 (two_sl HN.out.2.1) (two_sl HN.out.2.2.1) (two_sl HN.out.2.2.2.1)⟩⟩, HB.out⟩
end Go.Proofs.YthfegbcbpeedbaaGreatDoor
namespace Go.Ky
open Go.Nm
def leavesF (LL : List (List Int)) : Bool := (LL.all fun l => decide (Nms l)) && decide (0 < LL.length ∧ LL.length ≤ 1000)
def specF (st l : List Int) : Bool := decide (l.length = st.length) && (st.zip l).all fun p => decide (0 ≤ p.2 ∧ p.2 < p.1)
end Go.Ky
namespace Go.Proofs.YthfegbcbpeedbaaGreatDoor
open Go.RowKit Go.Nm Go.Ky

set_option maxRecDepth 100000 in
set_option maxHeartbeats 8000000 in
theorem areLeaves_any (u : Value) (LL : List (List Int)) (w : World) (hu : VsSl w w.heap.size u LL) (hl : ∀ L ∈ LL, L.length ≤ 1000000) (hn : LL.length ≤ 1000000) :
    Calls Tryz.prog 52 #[u] w fun e w' => e = .returned (.bool (leavesF LL)) ∧ w = w' := by
  have HU := Lib.hid hu
  obtain ⟨Au, cu, rfl⟩ := hu.form
  have HL := Lib.hid hl
  obtain ⟨n, h⟩ : ∃ n, LL.length = n := ⟨_, rfl⟩
  have HN := Lib.hid h
  obtain ⟨r, hr⟩ : ∃ r, leavesF LL = r := ⟨_, rfl⟩
  have HR := Lib.hid (show r = ((LL.all fun l => decide (Nms l)) && decide (0 < n ∧ n ≤ 1000)) from by rw [← hr]; unfold leavesF; rw [h])
  rw [hr]
  rw [h] at HU hn ⊢
  clear hu hl h hr
  go_enter Tryz.func52, Tryz.ntmps52
  go_wp2_with fail
  go_loopw [7] (fun iv wr => ∃ i : Nat, iv = .int .i64 (i : Int) ∧ i ≤ n ∧ w = wr ∧ ((LL.take i).all fun l => decide (Nms l)) = true) (fun iv _ => n - (intOf iv).toNat)
  case atStart => exact ⟨0, rfl, by omega, rfl, rfl⟩
  case round =>
    obtain ⟨i, rfl, hin, rfl, hg⟩ := hrel
    have HG := Lib.hid hg
    clear hg
    by_cases hlt : i < n
    · obtain ⟨ad, lv, l, rfl, _, hq, hc, hi⟩ := HU.out.at_ hlt
      obtain ⟨Al, cl, rfl, _⟩ := hi.form
      have HC := Lib.hid (areNames_any _ l w hi (HL.out l (List.mem_of_getElem? hq)))
      have HQ := Lib.hid hq
      generalize l.length = q at *
      obtain ⟨b, hb⟩ : ∃ b, decide (Nms l) = b := ⟨_, rfl⟩
      have HB := Lib.hid hb
      rw [hb] at HC
      clear hq hi hb
      go_wp2_with fail
      (with_reducible refine HC.out.mono ?_)
      rintro e w3 ⟨rfl, rfl⟩
      clear HC
      cases b with
      | false =>
        have HF := Lib.hid (show r = false from by rw [HR.out, all_false HQ.out HB.out, Bool.false_and])
        go_wp2_with fail
        go_ret
        exact ⟨by rw [HF.out]; rfl, rfl⟩
      | true =>
        have HT := Lib.hid (show ((LL.take (i + 1)).all fun l => decide (Nms l)) = true from by rw [all_take HQ.out, HG.out]; exact HB.out)
        go_wp2_with fail
        go_roundw
        case rel => exact ⟨i + 1, by go_num, by omega, by first | trivial | rfl, HT.out⟩
        case measure => simp [intOf]; omega
    · obtain rfl : n = i := by omega
      have HT := Lib.hid (show r = decide (0 < n ∧ n ≤ 1000) from by rw [HR.out, all_end HN.out HG.out, Bool.true_and])
      by_cases h1 : 0 < n
      · have h1i : (0 : Int) < (n : Int) := by omega
        by_cases h2 : n ≤ 1000
        · have h2i : (n : Int) ≤ 1000 := by omega
          have HF := Lib.hid (show r = true from by rw [HT.out]; exact decide_eq_true ⟨h1, h2⟩)
          clear h1 h2 HT
          go_wp2_with fail
          go_ret
          exact ⟨by rw [HF.out]; rfl, rfl⟩
        · have h2i : ¬ (n : Int) ≤ 1000 := by omega
          have HF := Lib.hid (show r = false from by rw [HT.out]; exact decide_eq_false (by omega))
          clear h1 h2 HT
          go_wp2_with fail
          go_ret
          exact ⟨by rw [HF.out]; rfl, rfl⟩
      · have h1i : ¬ (0 : Int) < (n : Int) := by omega
        have HF := Lib.hid (show r = false from by rw [HT.out]; exact decide_eq_false (by omega))
        clear h1 HT
        go_wp2_with fail
        go_ret
        exact ⟨by rw [HF.out]; rfl, rfl⟩
set_option maxRecDepth 100000 in
set_option maxHeartbeats 4000000 in
theorem isSpecimen_any (v u : Value) (m : Mx) (l : List Int) (w : World) (hv : MxV w v m) (hu : InSl w w.heap.size u l) (hl : l.length ≤ 1000000) :
    Calls Tryz.prog 47 #[v, u] w fun e w' => e = .returned (.bool (specF m.st l)) ∧ Below w.heap.size w w' := by
  obtain ⟨A1, c1, A2, c2, W0, rfl, hW0, hb0, hM, hS, hR, hX⟩ := mx_box hv
  have HB0 := Lib.hid hb0
  have HW0 := Lib.hid hW0
  have hu0 := hu.step hb0
  obtain ⟨Au, cu, rfl, _⟩ := hu0.form
  have HA := Lib.hid (show InA W0 W0.heap.size Au l from by obtain ⟨_, _, e, _, _, h⟩ := hu0; cases e; exact h)
  have HS := Lib.hid (show InA W0 W0.heap.size A1 m.st from by obtain ⟨_, _, e, _, _, h⟩ := hS W0 (Below.refl _ _); cases e; exact h)
  obtain ⟨k0, k1⟩ := hX W0 (Below.refl _ _)
  obtain ⟨n, hn⟩ : ∃ n, l.length = n := ⟨_, rfl⟩
  obtain ⟨ns, hns⟩ : ∃ ns, m.st.length = ns := ⟨_, rfl⟩
  have HN := Lib.hid hn
  have HNs := Lib.hid hns
  have HR := Lib.hid (show specF m.st l = (decide (n = ns) && (m.st.zip l).all fun p => decide (0 ≤ p.2 ∧ p.2 < p.1)) from by unfold specF; rw [hn, hns])
  obtain ⟨r, hr⟩ : ∃ r, specF m.st l = r := ⟨_, rfl⟩
  rw [hr] at HR ⊢
  rw [hn] at hl ⊢
  rw [hns] at k0 HW0 ⊢
  generalize m.rows.length = nr at *
  clear hv hu hu0 hW0 hb0 hM hS hR hX hn hns hr
  by_cases h1 : n = ns
  case neg =>
    have hq : ((n : Int) != (ns : Int)) = true := by simp; omega
    have HF := Lib.hid (show r = false from by rw [HR.out, decide_eq_false h1, Bool.false_and])
    clear h1
    go_enter Tryz.func47, Tryz.ntmps47
    go_wp2_with fail
    rw [HW0.out]
    go_wp2_with fail
    go_ret
    exact ⟨by rw [HF.out]; rfl, HB0.out⟩
  case pos =>
  subst h1
  have hq : ((n : Int) != (n : Int)) = false := by simp
  have HT0 := Lib.hid (show r = (m.st.zip l).all fun p => decide (0 ≤ p.2 ∧ p.2 < p.1) from by rw [HR.out]; simp)
  have HZl := Lib.hid (show (m.st.zip l).length = n from by rw [List.length_zip, HN.out, HNs.out]; omega)
  clear HR
  go_enter Tryz.func47, Tryz.ntmps47
  go_wp2_with fail
  rw [HW0.out]
  go_wp2_with fail
  go_loopw [15] (fun iv wr => ∃ i : Nat, iv = .int .i64 (i : Int) ∧ i ≤ n ∧ W0 = wr ∧ (((m.st.zip l).take i).all fun p => decide (0 ≤ p.2 ∧ p.2 < p.1)) = true) (fun iv _ => n - (intOf iv).toNat)
  case atStart => exact ⟨0, rfl, by omega, rfl, rfl⟩
  case round =>
    obtain ⟨i, rfl, hin, rfl, hg⟩ := hrel
    have HG := Lib.hid hg
    clear hg
    by_cases hlt : i < n
    · obtain ⟨x, ad, hx, rfl, _, hcx⟩ := HA.out.at_ HN.out hlt
      obtain ⟨q, ad1, hq1, rfl, _, hcq⟩ := HS.out.at_ HNs.out hlt
      have HZi := Lib.hid (zip_get hq1 hx)
      clear hx hq1 hq
      by_cases h1 : x < 0
      · have HF := Lib.hid (show r = false from by rw [HT0.out, all_false HZi.out (decide_eq_false (by simp only; omega))])
        go_wp2_with fail
        go_ret
        exact ⟨by rw [HF.out]; rfl, HB0.out⟩
      · by_cases h2 : q ≤ x
        · have HF := Lib.hid (show r = false from by rw [HT0.out, all_false HZi.out (decide_eq_false (by simp only; omega))])
          go_wp2_with fail
          go_ret
          exact ⟨by rw [HF.out]; rfl, HB0.out⟩
        · have HT := Lib.hid (show (((m.st.zip l).take (i + 1)).all fun p => decide (0 ≤ p.2 ∧ p.2 < p.1)) = true from by rw [all_take HZi.out, HG.out]; exact decide_eq_true (by simp only; omega))
          go_wp2_with fail
          go_roundw
          case rel => exact ⟨i + 1, by go_num, by omega, by first | trivial | rfl, HT.out⟩
          case measure => simp [intOf]; omega
    · obtain rfl : n = i := by omega
      have HF := Lib.hid (show r = true from by rw [HT0.out, all_end HZl.out HG.out])
      go_wp2_with fail
      go_ret
      exact ⟨by rw [HF.out]; rfl, HB0.out⟩
end Go.Proofs.YthfegbcbpeedbaaGreatDoor
namespace Go.Ky
open Go.Nm
/-- a key: nodes (a character, and where each state leads), and leaves -/
structure Kx where
  nd : List Rw
  lv : List (List Int)
def KSm (k : Kx) : Prop := k.nd.length ≤ 2000 ∧ k.lv.length ≤ 2000 ∧ (∀ r ∈ k.nd, r.may.length ≤ 1000) ∧ ∀ l ∈ k.lv, l.length ≤ 1000
def nextF (i n nl : Nat) (x : Int) : Bool := !((decide (x ≥ 0) && (decide (x ≤ i) || decide (x ≥ n))) || decide (x < -nl))
def nodeF (st : List Int) (i n nl : Nat) (r : Rw) : Bool := (decide (0 ≤ r.nm ∧ r.nm < st.length) && decide ((r.may.length : Int) = st.getD r.nm.toNat 0)) && r.may.all (nextF i n nl)
def nodesF (st : List Int) (k : Kx) : Bool := (k.nd.zipIdx.all fun p => nodeF st p.2 k.nd.length k.lv.length p.1) && decide (k.nd.length ≤ 1000)
theorem idx_get {L : List Rw} {i : Nat} {r : Rw} (h : L[i]? = some r) : L.zipIdx[i]? = some (r, i) := by
  rw [List.getElem?_zipIdx, h]; simp
end Go.Ky
namespace Go.Proofs.YthfegbcbpeedbaaGreatDoor
open Go.RowKit Go.Nm Go.Ky Go.Maps

theorem plainElem_bool_inv {H : Type} {P : Program} {e : TypeId} (he : P.underlying e = some .bool) {v : Value} {z : DataW H × List MemPlace} (h : plainElem P e v = some z) : ∃ x, v = .bool x ∧ z = (.lit (.bool x), []) := by
  unfold plainElem at h
  rw [he] at h
  cases v <;> simp at h
  exact ⟨_, rfl, h.symm⟩
theorem zeroB (w : World) : (zeroValue 4).run Tryz.prog w = .ok (.bool false) w := by kernel_rfl
theorem zeroU (w : World) : (zeroValue 109).run Tryz.prog w = .ok (.int .u64 0) w := by kernel_rfl
/-- the map in block mb is true at B alone -/
structure MB (W : World) (mb n : Nat) (B : List Int) (X : World) : Prop where
  bel : Below W.heap.size W X
  new : W.heap.size ≤ mb
  map : ∃ D : DataW Unit, X.ownsMap Tryz.prog 3 (plainElem Tryz.prog 4) mb n D ∧ ∀ k, D.atKey (.int .i64 k) (.lit (.bool false)) = .lit (.bool (decide (k ∈ B)))
/-- the map in block mb reads as f -/
structure MU (W : World) (mb n : Nat) (f : Int → Int) (X : World) : Prop where
  bel : Below W.heap.size W X
  new : W.heap.size ≤ mb
  map : ∃ D : DataW Unit, X.ownsMap Tryz.prog 3 (plainElem Tryz.prog 109) mb n D ∧ ∀ k, D.atKey (.int .i64 k) (.lit (.int .u64 0)) = .lit (.int .u64 (f k))
theorem MB.made (W X : World) (hb : Below W.heap.size W X) : MB W X.heap.size 0 [] (X.alloc (.map #[] 0)) :=
  ⟨hb.alloc hb.size _, hb.size, .map [], World.ownsMap_made _ _ _ _, fun _ => rfl⟩
theorem MU.made (W X : World) (hb : Below W.heap.size W X) : MU W X.heap.size 0 (fun _ => 0) (X.alloc (.map #[] 0)) :=
  ⟨hb.alloc hb.size _, hb.size, .map [], World.ownsMap_made _ _ _ _, fun _ => rfl⟩
theorem MB.lt {W X : World} {mb n : Nat} {B : List Int} (h : MB W mb n B X) : mb < X.heap.size := by
  obtain ⟨_, _, D, h, _⟩ := h; exact h.lt
theorem MU.lt {W X : World} {mb n : Nat} {f : Int → Int} (h : MU W mb n f X) : mb < X.heap.size := by
  obtain ⟨_, _, D, h, _⟩ := h; exact h.lt
theorem MB.kept {W X Y : World} {mb n : Nat} {B : List Int} {row : Option Nat} (h : MB W mb n B X) (hg : X.grownBy Y row) (hr : ∀ r, row = some r → W.heap.size ≤ r ∧ r ≠ mb) : MB W mb n B Y := by
  obtain ⟨hb, hw, D, h1, h2⟩ := h
  exact ⟨hb.grown hg hb.size (fun r e => (hr r e).1), hw, D, h1.kept hg (fun e => (hr _ e.symm).2 rfl), h2⟩
theorem MU.kept {W X Y : World} {mb n : Nat} {f : Int → Int} {row : Option Nat} (h : MU W mb n f X) (hg : X.grownBy Y row) (hr : ∀ r, row = some r → W.heap.size ≤ r ∧ r ≠ mb) : MU W mb n f Y := by
  obtain ⟨hb, hw, D, h1, h2⟩ := h
  exact ⟨hb.grown hg hb.size (fun r e => (hr r e).1), hw, D, h1.kept hg (fun e => (hr _ e.symm).2 rfl), h2⟩
theorem MB.step {W X Y : World} {mb n : Nat} {B : List Int} (h : MB W mb n B X) (hb : Below X.heap.size X Y) : MB W mb n B Y := h.kept (grown_of_below hb none) (fun _ e => nomatch e)
theorem MU.step {W X Y : World} {mb n : Nat} {f : Int → Int} (h : MU W mb n f X) (hb : Below X.heap.size X Y) : MU W mb n f Y := h.kept (grown_of_below hb none) (fun _ e => nomatch e)
section
variable {ops : Array Oper} {rest : List Oper} {o : Oper} {a : Act} {Q : Exit → Act → World → Prop} {W w : World} {mb n : Nat} {f : Int → Int} {B : List Int}
theorem wpList_lookup_mb {bb : Bool} (hg : o.guard = none) (m x : Operand) (hop : o.op = Op.lookup 123 m x false) (hM : MB W mb n B w) (hm : a.eval m = .map (some mb)) (z : Int) (hx : a.eval x = .int .i64 z) (hz : (Lit.int .i64 z).wf = true)
    (hbb : decide (z ∈ B) = bb) (hK : wpList Tryz.prog ops Q rest (a.put o.dst (.bool bb)) w) : wpList Tryz.prog ops Q (o :: rest) a w := by
  obtain ⟨_, _, D, h1, h2⟩ := hM
  subst hbb
  refine wpList_plain hg fun K' hK' => ?_
  obtain ⟨v, ps, hrun, hv⟩ := h1.lookup keyI Tryz.underlying123 (zeroB w) (plainElem_bool Tryz.underlying4 false) (keyOf_int_mk Tryz.underlying3 hz)
  rw [h2] at hv
  obtain ⟨b, rfl, hb⟩ := plainElem_bool_inv Tryz.underlying4 hv
  have e : decide (z ∈ B) = b := Lit.bool.inj (DataW.lit.inj (Prod.mk.inj hb).1)
  unfold Oper.wp
  simp [execOp, hop, hm, hx, hrun, Result.andThen]
  rw [e] at hK
  exact hK' _ _ hK
theorem wpList_put_mb (hg : o.guard = none) (m x v : Operand) (hop : o.op = Op.mapUpdate 123 m x v) (hM : MB W mb n B w) (hn : n < maxLen) (hm : a.eval m = .map (some mb)) (z : Int) (hx : a.eval x = .int .i64 z) (hz : (Lit.int .i64 z).wf = true) (hv : a.eval v = .bool true)
    (hK : ∀ w', MB W mb (n + 1) (B ++ [z]) w' → w.grownBy w' (some mb) → wpList Tryz.prog ops Q rest (a.put o.dst undef) w') : wpList Tryz.prog ops Q (o :: rest) a w := by
  obtain ⟨hb, hw, D, h1, h2⟩ := hM
  refine wpList_mapUpdate_in w hg m x v 123 hop 3 4 keyI Tryz.underlying123 _ mb n D hm h1 hn _ _ _ hx hv (keyOf_int_mk Tryz.underlying3 hz) _ [] (plainElem_bool Tryz.underlying4 true) ?_
  intro w' h4 h5
  refine hK w' ⟨hb.grown h5.grown hb.size (fun k e => by cases e; exact hw), hw, _, h4, fun k => ?_⟩ h5.grown
  by_cases hk : k = z
  · subst hk; rw [atKey_put_same h1.isMap (isK _)]; simp
  · rw [atKey_put_other (ne_lit hk), h2]; simp [hk]
theorem wpList_lookup_mu (hg : o.guard = none) (m x : Operand) (hop : o.op = Op.lookup 121 m x false) (hM : MU W mb n f w) (hm : a.eval m = .map (some mb)) (z : Int) (hx : a.eval x = .int .i64 z) (hz : (Lit.int .i64 z).wf = true)
    (hK : wpList Tryz.prog ops Q rest (a.put o.dst (.int .u64 (f z))) w) : wpList Tryz.prog ops Q (o :: rest) a w := by
  obtain ⟨_, _, D, h1, h2⟩ := hM
  refine wpList_lookup_own_int w hg m x 121 hop 3 109 .u64 keyI Tryz.underlying121 Tryz.underlying109 (zeroU _) mb n D hm h1 _ _ hx (keyOf_int_mk Tryz.underlying3 hz) ?_
  intro c hat _
  have := (h2 z).symm.trans hat
  injection this with h; injection h with _ h
  rw [← h]; exact hK
theorem wpList_put_mu (hg : o.guard = none) (m x v : Operand) (hop : o.op = Op.mapUpdate 121 m x v) (hM : MU W mb n f w) (hn : n < maxLen) (hm : a.eval m = .map (some mb)) (z : Int) (hx : a.eval x = .int .i64 z) (hz : (Lit.int .i64 z).wf = true) (c : Int) (hv : a.eval v = .int .u64 c) (hc : (Lit.int .u64 c).wf = true)
    (hK : ∀ w', MU W mb (n + 1) (fun k => if k = z then c else f k) w' → w.grownBy w' (some mb) → wpList Tryz.prog ops Q rest (a.put o.dst undef) w') : wpList Tryz.prog ops Q (o :: rest) a w := by
  obtain ⟨hb, hw, D, h1, h2⟩ := hM
  refine wpList_mapUpdate_in w hg m x v 121 hop 3 109 keyI Tryz.underlying121 _ mb n D hm h1 hn _ _ _ hx hv (keyOf_int_mk Tryz.underlying3 hz) _ [] (plainElem_int Tryz.underlying109 hc) ?_
  intro w' h4 h5
  refine hK w' ⟨hb.grown h5.grown hb.size (fun k e => by cases e; exact hw), hw, _, h4, fun k => ?_⟩ h5.grown
  by_cases hk : k = z
  · subst hk; rw [atKey_put_same h1.isMap (isK _), if_pos rfl]
  · rw [atKey_put_other (ne_lit hk), h2, if_neg hk]
end
/-- v is a key -/
def KyV (w : World) (v : Value) (k : Kx) : Prop := ∃ v1 v2, v = .agg #[v1, v2] ∧ IlSl w w.heap.size v1 k.nd ∧ VsSl w w.heap.size v2 k.lv
theorem VsSl.step {w w' : World} {v : Value} {L : List (List Int)} (h : VsSl w w.heap.size v L) (hb : Below w.heap.size w w') : VsSl w' w'.heap.size v L := (h.below hb).mono hb.size
theorem KyV.step {w w' : World} {v : Value} {k : Kx} (h : KyV w v k) (hb : Below w.heap.size w w') : KyV w' v k := by
  obtain ⟨v1, v2, e, h1, h2⟩ := h
  exact ⟨v1, v2, e, h1.step hb, h2.step hb⟩
theorem ky_box {w : World} {v : Value} {k : Kx} (hv : KyV w v k) : ∃ (A1 : Option Addr) (c1 : Nat) (A2 : Option Addr) (c2 : Nat) (W0 : World), v = .agg #[.slice A1 k.nd.length c1, .slice A2 k.lv.length c2] ∧
    w.alloc (.cells #[.slice A1 k.nd.length c1, .slice A2 k.lv.length c2] 29) = W0 ∧ Below w.heap.size w W0 ∧ (∀ Y, Below W0.heap.size W0 Y → KyV Y (.agg #[.slice A1 k.nd.length c1, .slice A2 k.lv.length c2]) k) ∧
    (∀ Y, Below W0.heap.size W0 Y → IlSl Y Y.heap.size (.slice A1 k.nd.length c1) k.nd) ∧ (∀ Y, Below W0.heap.size W0 Y → VsSl Y Y.heap.size (.slice A2 k.lv.length c2) k.lv) ∧
    ∀ Y, Below W0.heap.size W0 Y → Y.cell? ⟨w.heap.size, 0, none⟩ = some (.slice A1 k.nd.length c1) ∧ Y.cell? ⟨w.heap.size, 1, none⟩ = some (.slice A2 k.lv.length c2) := by
  have hv0 := hv
  obtain ⟨v1, v2, rfl, h1, h2⟩ := hv
  obtain ⟨A1, c1, rfl⟩ := h1.form
  obtain ⟨A2, c2, rfl⟩ := h2.form
  have hb := below_new (w := w) (.cells #[.slice A1 k.nd.length c1, .slice A2 k.lv.length c2] 29)
  have hn := World.alloc_heap_new w (.cells #[.slice A1 k.nd.length c1, .slice A2 k.lv.length c2] 29)
  exact ⟨A1, c1, A2, c2, _, rfl, rfl, hb, fun Y h => (hv0.step hb).step h, fun Y h => (h1.step hb).step h, fun Y h => (h2.step hb).step h, fun Y h => cells_two ((h.block _ (Array.getElem?_eq_some_iff.1 hn).1).trans hn)⟩
end Go.Proofs.YthfegbcbpeedbaaGreatDoor
namespace Go.Proofs.YthfegbcbpeedbaaGreatDoor
open Go.RowKit

/-- all that lay from B on lies as it lay, but for the block ow -/
structure KA (B : Nat) (ow : Option Nat) (W W' : World) : Prop where
  size : W.heap.size ≤ W'.heap.size
  same : ∀ k o, B ≤ k → W.heap[k]? = some o → some k ≠ ow → W'.heap[k]? = some o
theorem KA.refl (B : Nat) (ow : Option Nat) (W : World) : KA B ow W W := ⟨Nat.le_refl _, fun _ _ _ h _ => h⟩
theorem KA.trans {B : Nat} {ow : Option Nat} {X Y Z : World} (h : KA B ow X Y) (k : KA B ow Y Z) : KA B ow X Z :=
  ⟨Nat.le_trans h.size k.size, fun i o hB hi hne => k.same i o hB (h.same i o hB hi hne) hne⟩
theorem KA.alloc (B : Nat) (ow : Option Nat) (W : World) (o : Obj) : KA B ow W (W.alloc o) :=
  ⟨by simp, fun k _ _ hk _ => (Below.heap_alloc W o k (Array.getElem?_eq_some_iff.1 hk).1).trans hk⟩
theorem KA.of_below {B : Nat} {ow : Option Nat} {W W' : World} (h : Below W.heap.size W W') : KA B ow W W' :=
  ⟨h.size, fun k _ _ hk _ => (h.block k (Array.getElem?_eq_some_iff.1 hk).1).trans hk⟩
def Grows (ow ow' : Option Nat) (W : World) : Prop := ow' = ow ∨ ∃ k, ow' = some k ∧ W.heap.size ≤ k

/-- what an iterator is good for, for whatever loop keeps the invariant I -/
def IterG {α : Type} (B : Nat) (P : Program) (n : Nat) (gf : Nat) (lb : Array Value) (encs : α → Array Value) (I : List α → Option Nat → World → Prop) (Px : List α → α → Prop) (S Sp : List α → Prop) : Prop :=
  ∀ (l : Nat) (J : List α → Option Nat → World → Prop) (Jx : List α → World → Prop) (ow : Option Nat) (W : World), B ≤ W.heap.size →
    (∀ ow, AbidesFrom W.heap.size (fun pre => J pre ow)) → AbidesFrom W.heap.size Jx → (∀ pre ow X, J pre ow X → I pre ow X) →
    (∀ pre x ow X, J pre ow X → Px pre x → YieldAt Fence.wide (n - 1) P l (encs x) X fun e X' =>
      (e = .returned (.bool true) ∧ ∃ ow', J (pre ++ [x]) ow' X' ∧ Grows ow ow' X ∧ KA B ow X X') ∨ (e = .returned (.bool false) ∧ Jx (pre ++ [x]) X')) →
    J [] ow W →
    CallsIn Fence.wide n P gf (#[.func (.yield l) #[] #[]] ++ lb) W fun e W' => (∃ v, e = .returned v) ∧ ((∃ xs ow', S xs ∧ J xs ow' W') ∨ ∃ pre, Sp pre ∧ Jx pre W')

/-- how the body of a round may be left -/
def postG {α : Type} (B : Nat) (I : List α → Option Nat → World → Prop) (Ix : Code → List α → World → Prop) (xs : List α) (ow : Option Nat) (W : World) : Exit → Act → World → Prop
  | .normal, _, W' => KA B ow W W' ∧ ∃ ow', I xs ow' W' ∧ Grows ow ow' W
  | .ret, _, W' => KA B ow W W' ∧ Ix .ret xs W'
  | .exit id, _, W' => KA B ow W W' ∧ Ix (.exit id) xs W'
  | .goto t, _, W' => KA B ow W W' ∧ Ix (.goto t) xs W'
  | .panic _, _, _ => False
  | .outgrown, _, _ => False

theorem wp_rangeG {α : Type} {P : Program} {n : Nat} {g : Operand} {ps : Array Tmp} {assign body : Code} {Q : Exit → Act → World → Prop} {a : Act} {w : World} (h1 : 1 ≤ n)
    {gf : Nat} {lb : Array Value} (hg : a.eval g = .func (.func gf) #[] lb) (eg : ∀ args w, (callFunc gf args).run P w = .ok (.enter gf args) w)
    {encs : α → Array Value} (hps : ∀ x, (encs x).size = ps.size) (I : List α → Option Nat → World → Prop) (Ix : Code → List α → World → Prop) (hI : ∀ ow, OwnFrom w.heap.size (fun pre => I pre ow)) (hIx : ∀ c, OwnFrom w.heap.size (Ix c))
    (hIow : ∀ pre ow W, I pre ow W → ∀ k, ow = some k → ∃ cs t fr, W.heap[k]? = some (.cells cs t fr)) (ow0 : Option Nat) (h0 : I [] ow0 w) {Px : List α → α → Prop} {S Sp : List α → Prop} (hseq : IterG w.heap.size P (n - 1) gf lb encs I Px S Sp)
    (Ax : α → Act → World → Prop) (hAx : ∀ x a', OwnFrom w.heap.size (fun (_ : Unit) W => Ax x a' W))
    (hassign : ∀ (l : Nat) (pre : List α) (x : α) (ow : Option Nat) (W : World) (K : Act → World → Prop), I pre ow W → (∀ a' W', (W' = W ∨ ∃ o, W' = W.alloc o) → Ax x a' W' → K a' W') →
      assign.wpIn (Fence.wide.inRound l) (n - 1 - 1) P (Exit.then K (fun _ _ _ => False)) { tmps := (ps.zip (encs x)).foldl (fun t (p, v) => t.setIfInBounds p v) a.tmps, defers := [] } W)
    (hbody : ∀ (l : Nat) (pre : List α) (x : α) (ow : Option Nat) (a' : Act) (W : World), w.heap.size ≤ l → (∃ r, W.heap[l]? = some (.loop r)) → I pre ow W → Ax x a' W → Px pre x →
      body.wpIn (Fence.wide.inRound l) (n - 1 - 1) P (postG w.heap.size I Ix (pre ++ [x]) ow W) a' W)
    (hdone : ∀ (D : Nat) (xs : List α) (ow : Option Nat) (W : World), w.heap.size ≤ D → S xs → I xs ow W → W.heap[D]? = some (.deferred (some [])) → Q .normal { a with defers := { target := .collected D, args := #[] } :: a.defers } W)
    (hstop : ∀ (D : Nat) (c : Code) (pre : List α) (W : World), w.heap.size ≤ D → Sp pre → Ix c pre W → W.heap[D]? = some (.deferred (some [])) → c.wpIn Fence.wide n P Q { a with defers := { target := .collected D, args := #[] } :: a.defers } W) :
    (Code.rangeFunc g ps assign body).wpIn Fence.wide n P Q a w := by
  refine wpIn_rangeFunc fun fn hfn => ?_
  rw [show Fence.wide.round = none from rfl]
  -- the record of the loop, by its state and its pending jump
  obtain ⟨rc, hrc⟩ : ∃ rc : LoopState → Option Code → Loop, rc = fun st pe => { state := st, pending := pe, fn, tmps := a.tmps, params := ps, assign, body, defers := w.heap.size } := ⟨_, rfl⟩
  obtain ⟨V, hV⟩ : ∃ V, V = (w.alloc (.deferred (some []))).alloc (.loop (rc .ready none)) := ⟨_, rfl⟩
  have vL : V.heap[w.heap.size + 1]? = some (.loop (rc .ready none)) := by
    rw [hV]; have := World.alloc_heap_new (w.alloc (.deferred (some []))) (.loop (rc .ready none)); rwa [World.size_alloc] at this
  have vD : V.heap[w.heap.size]? = some (.deferred (some [])) := by rw [hV]; exact (Below.heap_alloc _ _ _ (by simp)).trans (World.alloc_heap_new w _)
  have vI : I [] ow0 V := by rw [hV]; exact (hI ow0).alloc (s := []) _ ((hI ow0).alloc (s := []) _ h0)
  have vS : V.heap.size = w.heap.size + 2 := by rw [hV]; simp
  have notcell : ∀ {pre ow X k o}, I pre ow X → X.heap[k]? = some o → (∀ cs t fr, o ≠ .cells cs t fr) → some k ≠ ow := fun hi hk hno e => by
    obtain ⟨cs, t, fr, h⟩ := hIow _ _ _ hi _ e.symm
    rw [hk] at h; cases h; exact hno _ _ _ rfl
  refine ⟨w.heap.size + 1, [{ target := .collected w.heap.size, args := #[] }], V, { target := .fn (.func gf) lb, args := #[.func (.yield (w.heap.size + 1)) #[] #[]] }, V, gf, #[.func (.yield (w.heap.size + 1)) #[] #[]] ++ lb, V,
    by rw [hV, hrc]; exact run_enterLoop_outer _ _ _ _ _, by simp only [resolve, hg]; simp [go_sem], fun _ _ => trivial, by simp [invoke, go_sem, eg], fun _ => h1, ?_⟩
  have walk : ∀ {A B : World} {row : Option Nat}, (∀ r, row = some r → V.heap.size ≤ r ∧ ∃ o : Obj, A.heap[r]? = some o ∧ o.isWalk = true) → ∀ r, row = some r → w.heap.size ≤ r ∧ ∃ o : Obj, A.heap[r]? = some o ∧ o.isCells = false :=
    fun hr r e => by obtain ⟨hB, o, ho, hw⟩ := hr r e; exact ⟨by omega, o, ho, Obj.not_cells_of_walk hw⟩
  refine (hseq (w.heap.size + 1)
    (fun pre ow X => I pre ow X ∧ X.heap[w.heap.size + 1]? = some (.loop (rc .ready none)) ∧ X.heap[w.heap.size]? = some (.deferred (some [])))
    (fun pre X => ∃ c, Ix c pre X ∧ X.heap[w.heap.size + 1]? = some (.loop (rc .done (some c))) ∧ X.heap[w.heap.size]? = some (.deferred (some [])))
    ow0 V (by omega)
    (fun ow s A B row hs hgr hr => ⟨hI ow s A B row hs.1 hgr (walk (B := B) hr), (grownBy_keeps hgr (fun r e => (hr r e).2) hs.2.1 rfl).trans hs.2.1, (grownBy_keeps hgr (fun r e => (hr r e).2) hs.2.2 rfl).trans hs.2.2⟩)
    (fun s A B row hs hgr hr => by
      obtain ⟨c, hc, hl, hk⟩ := hs
      exact ⟨c, hIx c s A B row hc hgr (walk (B := B) hr), (grownBy_keeps hgr (fun r e => (hr r e).2) hl rfl).trans hl, (grownBy_keeps hgr (fun r e => (hr r e).2) hk rfl).trans hk⟩)
    (fun pre ow X h => h.1) ?_ ⟨vI, vL, vD⟩).mono ?_
  · -- a round
    rintro pre x ow X ⟨hi, hl, hk⟩ hpx
    have hy := run_yield (P := P) (args := encs x) hl (by rw [hrc]; exact hps x)
    rw [hrc] at hy
    refine ⟨fn, _, assign, body, hy, roundIn_of_wpIn hfn (hassign _ pre x ow X _ hi ?_)⟩
    intro a' Y hY hax
    have kY : KA w.heap.size ow X Y := by
      rcases hY with rfl | ⟨o, rfl⟩
      · exact KA.refl _ _ _
      · exact KA.alloc _ _ _ _
    have iY : I pre ow Y := by
      rcases hY with rfl | ⟨o, rfl⟩
      · exact hi
      · exact (hI ow).alloc (s := pre) _ hi
    have nl : some (w.heap.size + 1) ≠ ow := notcell hi hl (fun _ _ _ e => by cases e)
    have nd : some w.heap.size ≠ ow := notcell hi hk (fun _ _ _ e => by cases e)
    have lY := kY.same _ _ (by omega) hl nl
    have dY := kY.same _ _ (Nat.le_refl _) hk nd
    have ltY : w.heap.size + 1 < Y.heap.size := (Array.getElem?_eq_some_iff.1 lY).1
    obtain ⟨Z, hZ⟩ : ∃ Z, Z = Y.putObj (w.heap.size + 1) (.loop { rc .ready none with state := .busy }) := ⟨_, rfl⟩
    have lZ : Z.heap[w.heap.size + 1]? = some (.loop { rc .ready none with state := .busy }) := by rw [hZ]; exact World.putObj_heap_same ltY
    have dZ : Z.heap[w.heap.size]? = some (.deferred (some [])) := by rw [hZ]; exact (World.putObj_heap_other (by omega)).trans dY
    have sZ : Z.heap.size = Y.heap.size := by rw [hZ]; simp
    have oZ : ∀ k, k ≠ w.heap.size + 1 → Z.heap[k]? = Y.heap[k]? := fun k hne => by rw [hZ]; exact World.putObj_heap_other hne
    have iZ : I pre ow Z := by rw [hZ]; exact (hI ow).putObj (s := pre) _ iY (by omega) lY rfl
    have aZ : Ax x a' Z := by rw [hZ]; exact (hAx x a').putObj (s := ()) _ hax (by omega) lY rfl
    refine ⟨Z, by rw [hZ]; exact run_beginRound lY (by rw [hrc]), ?_⟩
    refine wpIn_mono (hbody _ pre x ow a' Z (by omega) ⟨_, lZ⟩ iZ aZ hpx) ?_
    -- behind the body: the record is there, and is written once more
    have fin : ∀ (jump : Option Code) (T : World), KA w.heap.size ow Z T →
        (Instr.endRound (w.heap.size + 1) jump).run P T = .ok (.bool jump.isNone) (T.putObj (w.heap.size + 1) (.loop (rc (if jump.isNone then .ready else .done) jump))) ∧ T.heap[w.heap.size + 1]? = some (.loop { rc .ready none with state := .busy }) ∧
        (T.putObj (w.heap.size + 1) (.loop (rc (if jump.isNone then .ready else .done) jump))).heap[w.heap.size + 1]? = some (.loop (rc (if jump.isNone then .ready else .done) jump)) ∧
        (T.putObj (w.heap.size + 1) (.loop (rc (if jump.isNone then .ready else .done) jump))).heap[w.heap.size]? = some (.deferred (some [])) := fun jump T hT => by
      have lT := hT.same _ _ (by omega) lZ nl
      have r := run_endRound (P := P) jump lT
      rw [hrc] at r lT ⊢
      exact ⟨r, lT, World.putObj_heap_same (Array.getElem?_eq_some_iff.1 lT).1, (World.putObj_heap_other (by omega)).trans (hT.same _ _ (Nat.le_refl _) dZ nd)⟩
    rintro e a3 T hp
    cases e with
    | normal =>
      obtain ⟨hT, ow', hi3, hgr⟩ := hp
      obtain ⟨hr, lT, l4, d4⟩ := fin none T hT
      refine ⟨_, _, hr, .inl ⟨rfl, ow', ⟨(hI ow').putObj (s := pre ++ [x]) _ hi3 (by omega) lT rfl, l4, d4⟩, ?_, ?_⟩⟩
      · rcases hgr with h | ⟨k, h, hk'⟩
        · exact .inl h
        · exact .inr ⟨k, h, by have := kY.size; omega⟩
      · refine ⟨by have := kY.size; have := hT.size; simp; omega, fun k o hB hko hne => ?_⟩
        by_cases ek : k = w.heap.size + 1
        · subst ek
          rw [hl] at hko; cases hko
          exact l4
        · rw [World.putObj_heap_other ek]
          exact hT.same k o hB ((oZ k ek).trans (kY.same k o hB hko hne)) hne
    | ret =>
      obtain ⟨hT, hi3⟩ := hp
      obtain ⟨hr, lT, l4, d4⟩ := fin (some .ret) T hT
      exact ⟨_, _, hr, .inr ⟨rfl, .ret, (hIx _).putObj _ hi3 (by omega) lT rfl, l4, d4⟩⟩
    | exit id =>
      obtain ⟨hT, hi3⟩ := hp
      obtain ⟨hr, lT, l4, d4⟩ := fin (some (.exit id)) T hT
      exact ⟨_, _, hr, .inr ⟨rfl, .exit id, (hIx _).putObj _ hi3 (by omega) lT rfl, l4, d4⟩⟩
    | goto t =>
      obtain ⟨hT, hi3⟩ := hp
      obtain ⟨hr, lT, l4, d4⟩ := fin (some (.goto t)) T hT
      exact ⟨_, _, hr, .inr ⟨rfl, .goto t, (hIx _).putObj _ hi3 (by omega) lT rfl, l4, d4⟩⟩
    | panic ch => exact hp.elim
    | outgrown => exact hp.elim
  · -- behind the iterator
    rintro e T ⟨⟨v, rfl⟩, (⟨xs, ow', hS, hi, hl, hk⟩ | ⟨pre, hSp, c, hi, hl, hk⟩)⟩
    · exact ⟨none, _, by have := run_endLoop (P := P) hl (by rw [hrc]; simp); rw [hrc] at this; exact this, hdone _ xs ow' _ (Nat.le_refl _) hS ((hI ow').putObj (s := xs) _ hi (by omega) hl rfl) ((World.putObj_heap_other (by omega)).trans hk)⟩
    · exact ⟨some c, _, by have := run_endLoop (P := P) hl (by rw [hrc]; simp); rw [hrc] at this; exact this, hstop _ c pre _ (Nat.le_refl _) hSp ((hIx c).putObj _ hi (by omega) hl rfl) ((World.putObj_heap_other (by omega)).trans hk)⟩
end Go.Proofs.YthfegbcbpeedbaaGreatDoor
namespace Go.Ky
open Go.Nm
open Go.Proofs.YthfegbcbpeedbaaGreatDoor (updP)
def bitF (seen : List Int) (c : Int) (s : Nat) : Bool := decide (meetF (seen.getD c.toNat 0) (2 ^ s) ≠ 0)
/-- what was visited, in order -/
def walkF (k : Kx) (seen : List Int) : Nat → List Int → Int → List Int
  | 0, B, _ => B
  | d + 1, B, a => if a ∈ B then B else if a < 0 then B ++ [a] else
      (k.nd.getD a.toNat ⟨0, []⟩).may.zipIdx.foldl (fun B p => if bitF seen (k.nd.getD a.toNat ⟨0, []⟩).nm p.2 = true then walkF k seen d B p.1 else B) (B ++ [a])
def wkStep (k : Kx) (seen : List Int) (d : Nat) (c : Int) (B : List Int) (p : Int × Nat) : List Int := if bitF seen c p.2 = true then walkF k seen d B p.1 else B
theorem walk_mem {k : Kx} {seen : List Int} {d : Nat} {B : List Int} {a : Int} (h : a ∈ B) : walkF k seen d B a = B := by
  cases d with
  | zero => rfl
  | succ d => unfold walkF; rw [if_pos h]
theorem walk_leaf {k : Kx} {seen : List Int} {d : Nat} {B : List Int} {a : Int} (h : a ∉ B) (ha : a < 0) : walkF k seen (d + 1) B a = B ++ [a] := by
  unfold walkF; rw [if_neg h, if_pos ha]
theorem walk_node {k : Kx} {seen : List Int} {d : Nat} {B : List Int} {i : Nat} {r : Rw} (h : (i : Int) ∉ B) (hr : k.nd[i]? = some r) : walkF k seen (d + 1) B (i : Int) = r.may.zipIdx.foldl (wkStep k seen d r.nm) (B ++ [(i : Int)]) := by
  have e : k.nd.getD (i : Int).toNat ⟨0, []⟩ = r := by rw [Int.toNat_natCast, List.getD_eq_getElem?_getD, hr]; rfl
  unfold walkF
  rw [if_neg h, if_neg (by omega), e]
  rfl
theorem fold_next {α β : Type} {f : β → α → β} {L : List α} {i : Nat} {x : α} (h : L[i]? = some x) (b : β) : (L.take (i + 1)).foldl f b = f ((L.take i).foldl f b) x := by
  rw [List.take_add_one, h, List.foldl_append]; rfl
theorem idx_getI {L : List Int} {i : Nat} {x : Int} (h : L[i]? = some x) : L.zipIdx[i]? = some (x, i) := by
  rw [List.getElem?_zipIdx, h]; simp
theorem nodup_len : ∀ {l m : List Int}, l.Nodup → (∀ z ∈ l, z ∈ m) → l.length ≤ m.length
  | [], _, _, _ => by simp
  | x :: l, m, h, hs => by
    have h1 := List.nodup_cons.1 h
    have hx : x ∈ m := hs x (by simp)
    have h2 := nodup_len (l := l) (m := m.erase x) h1.2 (fun z hz => (List.mem_erase_of_ne (fun e => h1.1 (by rw [← e]; exact hz))).2 (hs z (by simp [hz])))
    rw [List.length_erase_of_mem hx] at h2
    have h3 : 0 < m.length := List.length_pos_of_mem hx
    simp only [List.length_cons]
    omega
theorem range_len {l : List Int} {a b : Nat} (h : l.Nodup) (hr : ∀ z ∈ l, -(b : Int) ≤ z ∧ z < a) : l.length ≤ a + b := by
  have := nodup_len (m := (List.range (a + b)).map fun i : Nat => (i : Int) - b) h (fun z hz => by
    have := hr z hz
    rw [List.mem_map]
    exact ⟨(z + b).toNat, by rw [List.mem_range]; omega, by omega⟩)
  simpa using this
def lvsF (k : Kx) (B : List Int) : List (List Int) := (B.filter fun z => decide (z < 0)).map fun z => k.lv.getD (-1 - z).toNat []
theorem lvs_nn {k : Kx} {B : List Int} {z : Int} (h : 0 ≤ z) : lvsF k (B ++ [z]) = lvsF k B := by
  unfold lvsF
  rw [List.filter_append]
  simp [show ¬ z < 0 by omega]
theorem lvs_neg {k : Kx} {B : List Int} {z : Int} {l : List Int} (h : z < 0) (hl : k.lv[(-1 - z).toNat]? = some l) : lvsF k (B ++ [z]) = lvsF k B ++ [l] := by
  unfold lvsF
  rw [List.filter_append, List.map_append]
  have e : k.lv.getD (-1 - z).toNat [] = l := by rw [List.getD_eq_getElem?_getD, hl]; rfl
  simp [h]
  exact e
def begF (k : Kx) : Int := if k.nd.length = 0 then -1 else 0
def reachF (k : Kx) (seen : List Int) : List (List Int) := lvsF k (walkF k seen (k.nd.length + 1) [] (begF k))
def misF (k : Kx) (name : Int) (seen : List Int) : Bool := (reachF k seen).any fun l => !decide (name ∈ l)
/-- the least state with which the key still misleads -/
def fmI (k : Kx) (name : Int) (n : Nat) (may : Int) (c : Nat) : Nat → Nat → (Nat → Int) → (Nat → Int) → (Nat → Int) × (Nat → Int)
  | 0, _, f, g => (f, g)
  | d + 1, s, f, g => if meetF may (2 ^ s) ≠ 0 ∧ misF k name ((List.range n).map (updP f c (meetF may (2 ^ s)))) = true then (updP f c (meetF may (2 ^ s)), updP g c (s : Int)) else fmI k name n may c d (s + 1) (updP f c (meetF may (2 ^ s))) g
def fmS (k : Kx) (r : Rw) : Nat → (Nat → Int) × (Nat → Int)
  | 0 => (fun i => r.may.getD i 0, fun _ => 0)
  | c + 1 => fmI k r.nm r.may.length (r.may.getD c 0) c 16 0 (fmS k r c).1 (fmS k r c).2
def firstF (k : Kx) (r : Rw) : List Int := (List.range r.may.length).map (fmS k r r.may.length).2
end Go.Ky
namespace Go.Ky
open Go.Nm
def notF (x y : Int) : Int := bits BinOp.andNot IntKind.i64 x y
def usefulF (L : List Rw) (c : Nat) (x : Int) : Bool := decide (1 < L.length) && L.any fun r => decide (notF x (r.may.getD c 0) ≠ 0)
def charF (L : List Rw) (l : List Int) : Int × Bool × Int := bestS L l (fun c => usefulF L c (l.getD c 0)) l.length
mutual
def growF (m : Mx) : Nat → List Rw → List Int → Kx → Kx × Int × Int
  | 0, _, _, k => (k, 0, 2)
  | d + 1, L, l, k =>
    if (charF L l).2.1 = true then
      let st := (List.range (m.st.getD (charF L l).1.toNat 0).toNat).foldl (fun (st : Kx × List Int × Int) s =>
        if st.2.2 = 0 then (let g := growF m d (remL L (l.set (charF L l).1.toNat (2 ^ s))) (l.set (charF L l).1.toNat (2 ^ s)) st.1; if g.2.2 = 0 then (g.1, st.2.1 ++ [g.2.1], 0) else (g.1, st.2.1, g.2.2)) else st) (⟨k.nd ++ [⟨(charF L l).1, []⟩], k.lv⟩, [], 0)
      if st.2.2 = 0 then (⟨st.1.nd.set k.nd.length ⟨(charF L l).1, st.2.1⟩, st.1.lv⟩, (k.nd.length : Int), 0) else (st.1, 0, st.2.2)
    else if k.lv.length = 1000 then (k, 0, 2) else (⟨k.nd, k.lv ++ [L.map (·.nm)]⟩, -1 - (k.lv.length : Int), 0)
end
end Go.Ky
