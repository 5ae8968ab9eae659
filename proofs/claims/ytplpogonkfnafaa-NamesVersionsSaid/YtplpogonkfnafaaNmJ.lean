/- SameLists. -/
import Derived.Test.YtplpogonkfnafaaNmI
namespace Go.Proofs.Ytplpogonkfnafaa
open Go.RowKit Go.Nm

theorem VsSl.form2 {w : World} {B : Nat} {v : Value} {LL : List (List Int)} (h : VsSl w B v LL) : ∃ A c, v = .slice A LL.length c ∧ VsSl w B (.slice A LL.length c) LL := by
  obtain ⟨A, c, rfl⟩ := h.form
  exact ⟨A, c, rfl, h⟩
set_option maxRecDepth 100000 in
set_option maxHeartbeats 4000000 in
theorem SameLists_any (u v : Value) (L M : List (List Int)) (w : World) (hu : VsSl w w.heap.size u L) (hv : VsSl w w.heap.size v M) (hL : L.length ≤ 1000000) (hLs : ∀ l ∈ L, l.length ≤ 1000000) (hMs : ∀ l ∈ M, l.length ≤ 1000000) :
    Calls Try.prog 35 #[u, v] w fun e w' => e = .returned (.bool (decide (L = M))) ∧ Below w.heap.size w w' := by
  obtain ⟨A, c, rfl, hA⟩ := hu.form2
  obtain ⟨B, d, rfl, hB⟩ := hv.form2
  have HA := Lib.hid hA
  have HB := Lib.hid hB
  have HLs := Lib.hid (And.intro hLs hMs)
  obtain ⟨r, hr⟩ : ∃ r, decide (L = M) = r := ⟨_, rfl⟩
  rw [hr]
  have HR := Lib.hid hr
  clear hA hB hr hu hv hLs hMs
  generalize hnl : L.length = n at *
  generalize hnm : M.length = m at *
  have HL := Lib.hid hnl
  have HM := Lib.hid hnm
  clear hnl hnm
  by_cases hnm : n = m
  · subst hnm
    go_enter Try.func35, Try.ntmps35
    go_wp2_with fail
    go_loopw [5] (fun iv wr => ∃ i : Nat, iv = .int .i64 (i : Int) ∧ i ≤ n ∧ (∀ j, j < i → L[j]? = M[j]?) ∧ Below w.heap.size w wr) (fun iv _ => n - (intOf iv).toNat)
    case atStart => exact ⟨0, rfl, by omega, fun j hj => absurd hj (by omega), Below.refl _ _⟩
    case round =>
      obtain ⟨i, rfl, hin, hq, hb⟩ := hrel
      have HQ := Lib.hid hq
      have HBl := Lib.hid hb
      by_cases hlt : i < n
      · obtain ⟨ad, ux, x, rfl, hbd, hx, hcx, hix⟩ := ((HA.out.below hb).mono hb.size).at_ hlt
        obtain ⟨ad2, uy, y, rfl, hbd2, hy, hcy, hiy⟩ := ((HB.out.below hb).mono hb.size).at_ hlt
        have HC := Lib.hid (SameInts_any ux uy x y wr.drew (hix.step (Below.refl _ _).drew) (hiy.step (Below.refl _ _).drew) (HLs.out.1 x (List.mem_of_getElem? hx)) (HLs.out.2 y (List.mem_of_getElem? hy)))
        obtain ⟨Ax, cx, rfl, _⟩ := hix.form
        obtain ⟨Ay, cy, rfl, _⟩ := hiy.form
        have HX := Lib.hid (And.intro hx hy)
        clear hq hb hix hiy hx hy hbd hbd2
        generalize hlx : x.length = lx at *
        generalize hly : y.length = ly at *
        obtain ⟨q, hqq⟩ : ∃ q, decide (x = y) = q := ⟨_, rfl⟩
        rw [hqq] at HC
        have HQq := Lib.hid hqq
        clear hqq hlx hly
        go_wp2_with fail
        refine wp_region_tail 8 (by kernel_rfl) (by kernel_rfl) ?_
        simp only [List.take_succ_cons, List.take_zero, List.drop_succ_cons, List.drop_zero]
        repeat still_step
        refine wpStill_nil ?_
        go_wp2_with fail
        refine HC.out.mono ?_
        rintro e w3 ⟨rfl, hb3⟩
        have HB3 := Lib.hid (HBl.out.trans (((Below.refl _ _).drew.trans hb3).mono HBl.out.size))
        clear hb3
        cases q with
        | true =>
          have HN := Lib.hid (same_next HQ.out HX.out.1 HX.out.2 (of_decide_eq_true HQq.out))
          go_wp2_with fail
          go_roundw
          case rel => exact ⟨i + 1, by go_num, by omega, HN.out, HB3.out⟩
          case measure => simp [intOf]; omega
        | false =>
          have HF := Lib.hid (show r = false from by
            rw [← HR.out, decide_eq_false_iff_not]; intro e; subst e
            have hx := HX.out.1; have hy := HX.out.2
            rw [hx] at hy; injection hy with hy
            exact of_decide_eq_false HQq.out hy)
          go_wp2_with fail
          go_ret
          exact ⟨by rw [HF.out]; rfl, HB3.out⟩
      · obtain rfl : i = n := by omega
        have HF := Lib.hid (show r = true from by rw [← HR.out, decide_eq_true_eq]; exact same_end HL.out HM.out HQ.out)
        clear hq hb
        go_wp2_with fail
        go_ret
        exact ⟨by rw [HF.out]; rfl, HBl.out⟩
  · have HF := Lib.hid (show r = false from by rw [← HR.out, decide_eq_false_iff_not]; intro e; apply hnm; rw [← HL.out, ← HM.out, e])
    have hb : ((n : Int) != (m : Int)) = true := by simpa using fun e => hnm (by omega)
    go_enter Try.func35, Try.ntmps35
    go_wp2_with fail
    go_ret
    exact ⟨by rw [HF.out]; rfl, Below.refl _ _⟩
end Go.Proofs.Ytplpogonkfnafaa
