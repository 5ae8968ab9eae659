/- areLeaves, isSpecimen. -/
import Derived.Test.YthfegbcbpeedbaaDoorKyMa
namespace Go.Ky
open Go.Nm
def leavesF (LL : List (List Int)) : Bool := (LL.all fun l => decide (Nms l)) && decide (0 < LL.length ∧ LL.length ≤ 1000)
def specF (st l : List Int) : Bool := decide (l.length = st.length) && (st.zip l).all fun p => decide (0 ≤ p.2 ∧ p.2 < p.1)
end Go.Ky
namespace Go.Proofs.YthfegbcbpeedbaaDoor
open Go.RowKit Go.Nm Go.Ky

set_option maxRecDepth 100000 in
set_option maxHeartbeats 8000000 in
theorem areLeaves_any (u : Value) (LL : List (List Int)) (w : World) (hu : VsSl w w.heap.size u LL) (hl : ∀ L ∈ LL, L.length ≤ 1000000) (hn : LL.length ≤ 1000000) :
    Calls Tryd.prog 95 #[u] w fun e w' => e = .returned (.bool (leavesF LL)) ∧ w = w' := by
  have HU := Lib.hid hu
  obtain ⟨Au, cu, rfl⟩ := hu.form
  have HL := Lib.hid hl
  obtain ⟨n, h⟩ : ∃ n, LL.length = n := ⟨_, rfl⟩
  have HN := Lib.hid h
  obtain ⟨r, hr⟩ : ∃ r, leavesF LL = r := ⟨_, rfl⟩
  have HR := Lib.hid (show r = ((LL.all fun l => decide (Nms l)) && decide (0 < n ∧ n ≤ 1000)) from by rw [← hr]; unfold leavesF; rw [h])
  rw [hr]
  rw [h] at HU hn ⊢
  clear hu hl h hr
  go_enter Tryd.func95, Tryd.ntmps95
  go_wp2_with fail
  go_loopw [7] (fun iv wr => ∃ i : Nat, iv = .int .i64 (i : Int) ∧ i ≤ n ∧ w = wr ∧ ((LL.take i).all fun l => decide (Nms l)) = true) (fun iv _ => n - (intOf iv).toNat)
  case atStart => exact ⟨0, rfl, by omega, rfl, rfl⟩
  case round =>
    obtain ⟨i, rfl, hin, rfl, hg⟩ := hrel
    have HG := Lib.hid hg
    clear hg
    by_cases hlt : i < n
    · obtain ⟨ad, lv, l, rfl, _, hq, hc, hi⟩ := HU.out.at_ hlt
      obtain ⟨Al, cl, rfl, _⟩ := hi.form
      have HC := Lib.hid (areNames_any _ l w hi (HL.out l (List.mem_of_getElem? hq)))
      have HQ := Lib.hid hq
      generalize l.length = q at *
      obtain ⟨b, hb⟩ : ∃ b, decide (Nms l) = b := ⟨_, rfl⟩
      have HB := Lib.hid hb
      rw [hb] at HC
      clear hq hi hb
      go_wp2_with fail
      (with_reducible refine HC.out.mono ?_)
      rintro e w3 ⟨rfl, rfl⟩
      clear HC
      cases b with
      | false =>
        have HF := Lib.hid (show r = false from by rw [HR.out, all_false HQ.out HB.out, Bool.false_and])
        go_wp2_with fail
        go_ret
        exact ⟨by rw [HF.out]; rfl, rfl⟩
      | true =>
        have HT := Lib.hid (show ((LL.take (i + 1)).all fun l => decide (Nms l)) = true from by rw [all_take HQ.out, HG.out]; exact HB.out)
        go_wp2_with fail
        go_roundw
        case rel => exact ⟨i + 1, by go_num, by omega, by first | trivial | rfl, HT.out⟩
        case measure => simp [intOf]; omega
    · obtain rfl : n = i := by omega
      have HT := Lib.hid (show r = decide (0 < n ∧ n ≤ 1000) from by rw [HR.out, all_end HN.out HG.out, Bool.true_and])
      by_cases h1 : 0 < n
      · have h1i : (0 : Int) < (n : Int) := by omega
        by_cases h2 : n ≤ 1000
        · have h2i : (n : Int) ≤ 1000 := by omega
          have HF := Lib.hid (show r = true from by rw [HT.out]; exact decide_eq_true ⟨h1, h2⟩)
          clear h1 h2 HT
          go_wp2_with fail
          go_ret
          exact ⟨by rw [HF.out]; rfl, rfl⟩
        · have h2i : ¬ (n : Int) ≤ 1000 := by omega
          have HF := Lib.hid (show r = false from by rw [HT.out]; exact decide_eq_false (by omega))
          clear h1 h2 HT
          go_wp2_with fail
          go_ret
          exact ⟨by rw [HF.out]; rfl, rfl⟩
      · have h1i : ¬ (0 : Int) < (n : Int) := by omega
        have HF := Lib.hid (show r = false from by rw [HT.out]; exact decide_eq_false (by omega))
        clear h1 HT
        go_wp2_with fail
        go_ret
        exact ⟨by rw [HF.out]; rfl, rfl⟩
set_option maxRecDepth 100000 in
set_option maxHeartbeats 4000000 in
theorem isSpecimen_any (v u : Value) (m : Mx) (l : List Int) (w : World) (hv : MxV w v m) (hu : InSl w w.heap.size u l) (hl : l.length ≤ 1000000) :
    Calls Tryd.prog 93 #[v, u] w fun e w' => e = .returned (.bool (specF m.st l)) ∧ Below w.heap.size w w' := by
  obtain ⟨A1, c1, A2, c2, W0, rfl, hW0, hb0, hM, hS, hR, hX⟩ := mx_box hv
  have HB0 := Lib.hid hb0
  have HW0 := Lib.hid hW0
  have hu0 := hu.step hb0
  obtain ⟨Au, cu, rfl, _⟩ := hu0.form
  have HA := Lib.hid (show InA W0 W0.heap.size Au l from by obtain ⟨_, _, e, _, _, h⟩ := hu0; cases e; exact h)
  have HS := Lib.hid (show InA W0 W0.heap.size A1 m.st from by obtain ⟨_, _, e, _, _, h⟩ := hS W0 (Below.refl _ _); cases e; exact h)
  obtain ⟨k0, k1⟩ := hX W0 (Below.refl _ _)
  obtain ⟨n, hn⟩ : ∃ n, l.length = n := ⟨_, rfl⟩
  obtain ⟨ns, hns⟩ : ∃ ns, m.st.length = ns := ⟨_, rfl⟩
  have HN := Lib.hid hn
  have HNs := Lib.hid hns
  have HR := Lib.hid (show specF m.st l = (decide (n = ns) && (m.st.zip l).all fun p => decide (0 ≤ p.2 ∧ p.2 < p.1)) from by unfold specF; rw [hn, hns])
  obtain ⟨r, hr⟩ : ∃ r, specF m.st l = r := ⟨_, rfl⟩
  rw [hr] at HR ⊢
  rw [hn] at hl ⊢
  rw [hns] at k0 HW0 ⊢
  generalize m.rows.length = nr at *
  clear hv hu hu0 hW0 hb0 hM hS hR hX hn hns hr
  by_cases h1 : n = ns
  case neg =>
    have hq : ((n : Int) != (ns : Int)) = true := by simp; omega
    have HF := Lib.hid (show r = false from by rw [HR.out, decide_eq_false h1, Bool.false_and])
    clear h1
    go_enter Tryd.func93, Tryd.ntmps93
    go_wp2_with fail
    rw [HW0.out]
    go_wp2_with fail
    go_ret
    exact ⟨by rw [HF.out]; rfl, HB0.out⟩
  case pos =>
  subst h1
  have hq : ((n : Int) != (n : Int)) = false := by simp
  have HT0 := Lib.hid (show r = (m.st.zip l).all fun p => decide (0 ≤ p.2 ∧ p.2 < p.1) from by rw [HR.out]; simp)
  have HZl := Lib.hid (show (m.st.zip l).length = n from by rw [List.length_zip, HN.out, HNs.out]; omega)
  clear HR
  go_enter Tryd.func93, Tryd.ntmps93
  go_wp2_with fail
  rw [HW0.out]
  go_wp2_with fail
  go_loopw [15] (fun iv wr => ∃ i : Nat, iv = .int .i64 (i : Int) ∧ i ≤ n ∧ W0 = wr ∧ (((m.st.zip l).take i).all fun p => decide (0 ≤ p.2 ∧ p.2 < p.1)) = true) (fun iv _ => n - (intOf iv).toNat)
  case atStart => exact ⟨0, rfl, by omega, rfl, rfl⟩
  case round =>
    obtain ⟨i, rfl, hin, rfl, hg⟩ := hrel
    have HG := Lib.hid hg
    clear hg
    by_cases hlt : i < n
    · obtain ⟨x, ad, hx, rfl, _, hcx⟩ := HA.out.at_ HN.out hlt
      obtain ⟨q, ad1, hq1, rfl, _, hcq⟩ := HS.out.at_ HNs.out hlt
      have HZi := Lib.hid (zip_get hq1 hx)
      clear hx hq1 hq
      by_cases h1 : x < 0
      · have HF := Lib.hid (show r = false from by rw [HT0.out, all_false HZi.out (decide_eq_false (by simp only; omega))])
        go_wp2_with fail
        go_ret
        exact ⟨by rw [HF.out]; rfl, HB0.out⟩
      · by_cases h2 : q ≤ x
        · have HF := Lib.hid (show r = false from by rw [HT0.out, all_false HZi.out (decide_eq_false (by simp only; omega))])
          go_wp2_with fail
          go_ret
          exact ⟨by rw [HF.out]; rfl, HB0.out⟩
        · have HT := Lib.hid (show (((m.st.zip l).take (i + 1)).all fun p => decide (0 ≤ p.2 ∧ p.2 < p.1)) = true from by rw [all_take HZi.out, HG.out]; exact decide_eq_true (by simp only; omega))
          go_wp2_with fail
          go_roundw
          case rel => exact ⟨i + 1, by go_num, by omega, by first | trivial | rfl, HT.out⟩
          case measure => simp [intOf]; omega
    · obtain rfl : n = i := by omega
      have HF := Lib.hid (show r = true from by rw [HT0.out, all_end HZl.out HG.out])
      go_wp2_with fail
      go_ret
      exact ⟨by rw [HF.out]; rfl, HB0.out⟩
end Go.Proofs.YthfegbcbpeedbaaDoor
