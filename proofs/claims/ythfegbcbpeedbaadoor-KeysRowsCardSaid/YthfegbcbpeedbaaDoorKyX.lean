/- The reference: Fits, Row. -/
import Derived.Test.YthfegbcbpeedbaaDoorKyW
namespace Go.Proofs.YthfegbcbpeedbaaDoor
open Go.RowKit Go.Nm Go.Ky

set_option maxRecDepth 100000 in
set_option maxHeartbeats 8000000 in
theorem rFits_any (v u : Value) (m : Mx) (name : Int) (l : List Int) (w : World) (hv : MxV w v m) (hs : MSm m) (hu : InSl w w.heap.size u l) (hl : l.length ≤ 1000000) :
    Calls Tryd.prog 27 #[v, .int .i64 name, u] w fun e w' => e = .returned (.tuple #[.bool (fitB m name l), .int .i64 (fitE m name l)]) ∧ Below w.heap.size w w' := by
  obtain ⟨A1, c1, A2, c2, W0, rfl, hW0, hb0, hM, hS, hR, hX⟩ := mx_box hv
  have HB0 := Lib.hid hb0
  have HW0 := Lib.hid hW0
  have HX := Lib.hid hX
  have hu0 := hu.step hb0
  have HU := Lib.hid hu0
  have HRr := Lib.hid (hR W0 (Below.refl _ _))
  obtain ⟨Au, cu, rfl, _⟩ := hu0.form
  have HC := Lib.hid (rseenError_any _ _ m l W0 (hM W0 (Below.refl _ _)) hs hu0 hl)
  have HAt := Lib.hid (fun Y (h : Below W0.heap.size W0 Y) => rat_any _ m name Y (hM Y h) hs)
  obtain ⟨k0, k1⟩ := hX W0 (Below.refl _ _)
  obtain ⟨er, hr⟩ : ∃ r, seenE m [l] = r := ⟨_, rfl⟩
  have HE := Lib.hid (show er = 0 ∨ er = 30 ∨ er = 32 from by rw [← hr]; exact seen_cases m [l])
  have HO := Lib.hid (show fitE m name l = (if er = 0 then rowE m name else er) ∧ fitB m name l = (if er = 0 ∧ rowE m name = 0 then fitsF (rowF m name).may l else false) from ⟨by unfold fitE; rw [hr], by unfold fitB; rw [hr]⟩)
  have HG := Lib.hid (show er = 0 → mxF m = true ∧ setsF m.st l = true from fun h => seen_ok (by rw [hr]; exact h))
  have HLl := Lib.hid hl
  have HRo := Lib.hid (fun h : mxF m = true => (show rowE m name = (if (rowO m name).isSome = true then 0 else 1) ∧ rowF m name = (rowO m name).getD ⟨0, []⟩ from ⟨by unfold rowE; rw [if_pos h], by unfold rowF; rw [if_pos h]⟩))
  have HMl := Lib.hid (fun (h : mxF m = true ∧ setsF m.st l = true) (r : Rw) (hr : r ∈ m.rows) => (show l.length = r.may.length from by rw [mx_may h.1 hr]; exact sets_len h.2))
  rw [hr] at HC
  rw [HO.out.1, HO.out.2]
  obtain ⟨rf, hrf⟩ : ∃ rf, rowF m name = rf := ⟨_, rfl⟩
  obtain ⟨re, hre⟩ : ∃ re, rowE m name = re := ⟨_, rfl⟩
  obtain ⟨ro, hro⟩ : ∃ ro, rowO m name = ro := ⟨_, rfl⟩
  rw [hrf, hre, hro] at HRo
  rw [hrf, hre]
  rw [hro] at HAt
  obtain ⟨n, hn⟩ : ∃ n, l.length = n := ⟨_, rfl⟩
  rw [hn] at HC HU HMl ⊢
  have HNn := Lib.hid hn
  generalize m.st.length = ns at *
  obtain ⟨nr, hnr⟩ : ∃ n, m.rows.length = n := ⟨_, rfl⟩
  rw [hnr] at HC HW0 HX HAt HRr k1 ⊢
  clear hv hu hu0 hW0 hb0 hM hS hR hX hl hr hs HO hn hnr hrf hre hro
  go_enter Tryd.func27, Tryd.ntmps27
  go_wp2_with fail
  rw [HW0.out]
  (try go_wp2_with fail)
  (with_reducible refine HC.out.mono ?_)
  rintro e w1 ⟨rfl, hb⟩
  have HB2 := Lib.hid hb
  clear hb k0 k1 HC
  rcases HE.out with rfl | rfl | rfl
  · obtain ⟨k0, k1⟩ := HX.out w1 HB2.out
    have HG1 := Lib.hid (HG.out rfl)
    have HA1 := Lib.hid (HAt.out w1 HB2.out)
    have HRo1 := Lib.hid (HRo.out HG1.out.1)
    have HMl1 := Lib.hid (HMl.out HG1.out)
    clear HRo HG HE HAt HMl
    go_wp2_with fail
    (with_reducible refine HA1.out.mono ?_)
    rintro e w2 ⟨hcase, hb⟩
    have HB3 := Lib.hid (HB2.out.trans (hb.mono HB2.out.size))
    clear hb k0 k1 HA1
    rcases hcase with ⟨i, r, rfl, hri, hin, rfl⟩ | ⟨rfl, rfl⟩
    · obtain ⟨r', ad, Am, cm, hr', rfl, hY⟩ := HRr.out.at_ hin
      rw [hri] at hr'; injection hr' with hr'; subst hr'
      have HF := Lib.hid (show re = 0 ∧ rf = r from HRo1.out)
      have HMe := Lib.hid (rmeet_any _ _ r.may l w2 (hY w2 HB3.out).2 (HU.out.step HB3.out) (HNn.out.trans (HMl1.out r (List.mem_of_getElem? hri))) (by have := HMl1.out r (List.mem_of_getElem? hri); have := HNn.out; have := HLl.out; omega))
      obtain ⟨d0, d1⟩ := (hY w2 HB3.out).1
      obtain ⟨k0, k1⟩ := HX.out w2 HB3.out
      clear hY hri
      go_wp2_with fail
      (with_reducible refine HMe.out.mono ?_)
      rintro e w3 ⟨rfl, hb⟩
      have HB4 := Lib.hid (HB3.out.trans (hb.mono HB3.out.size))
      clear hb k0 k1 d0 d1 HMe
      go_wp2_with fail
      go_ret2
      exact ⟨by rw [HF.out.1, HF.out.2]; simp, HB0.out.trans (HB4.out.mono HB0.out.size)⟩
    · have HF := Lib.hid (show re = 1 ∧ rf = ⟨0, []⟩ from HRo1.out)
      go_wp2_with fail
      go_ret2
      exact ⟨by rw [HF.out.1, HF.out.2]; simp, HB0.out.trans (HB3.out.mono HB0.out.size)⟩
  · go_wp2_with fail
    go_ret2
    exact ⟨by simp, HB0.out.trans (HB2.out.mono HB0.out.size)⟩
  · go_wp2_with fail
    go_ret2
    exact ⟨by simp, HB0.out.trans (HB2.out.mono HB0.out.size)⟩
end Go.Proofs.YthfegbcbpeedbaaDoor
