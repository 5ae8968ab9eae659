/- Remain, Fits. -/
import Derived.Test.YthfegbcbpeedbaaDoorKyI
namespace Go.Proofs.YthfegbcbpeedbaaDoor
open Go.RowKit Go.Nm Go.Ky

set_option maxRecDepth 100000 in
set_option maxHeartbeats 8000000 in
theorem Remain_any (v u : Value) (m : Mx) (l : List Int) (w : World) (hv : MxV w v m) (hs : MSm m) (hu : InSl w w.heap.size u l) (hl : l.length ≤ 1000000) :
    Calls Tryd.prog 28 #[v, u] w fun e w' => (∃ r, e = .returned (.tuple #[r, .int .i64 (seenE m [l])]) ∧ InSl w' w'.heap.size r (remO m l) ∧ ∀ g, r.ownBlock = some g → w.heap.size ≤ g) ∧ Below w.heap.size w w' := by
  obtain ⟨A1, c1, A2, c2, W0, rfl, hW0, hb0, hM, hS, hR, hX⟩ := mx_box hv
  have HB0 := Lib.hid hb0
  have HW0 := Lib.hid hW0
  have hu0 := hu.step hb0
  obtain ⟨Au, cu, rfl, _⟩ := hu0.form
  have hb1 := below_new (w := W0) (.cells #[.slice Au l.length cu] 22)
  have HB1 := Lib.hid hb1
  have HC := Lib.hid (checkSeen_any _ _ m [l] _ (hM _ hb1) hs (one_box hu0) (by intro L hL; simp at hL; subst hL; exact hl) (by simp))
  obtain ⟨k0, k1⟩ := hX W0 (Below.refl _ _)
  obtain ⟨d0, d1⟩ := hX _ hb1
  have HX := Lib.hid hX
  have HRm := Lib.hid (fun (hm : mxF m = true ∧ setsF m.st l = true) Y (h : Below W0.heap.size W0 Y) => remaining_any _ _ m.rows l Y (hR Y h) (hu0.step h) (fun r hr => by rw [mx_may hm.1 hr]; exact sets_len hm.2) hs.2.1 hl)
  have HNl := Lib.hid (show (remL m.rows l).length ≤ 100000 from by have := List.length_filter_le (fun r : Rw => fitsF r.may l) m.rows; have := hs.2.1; unfold remL; omega)
  obtain ⟨er, hr⟩ : ∃ r, seenE m [l] = r := ⟨_, rfl⟩
  have HE := Lib.hid (show er = 0 ∨ er = 30 ∨ er = 32 from by rw [← hr]; exact seen_cases m [l])
  have hz : W0.heap.size = w.heap.size + 1 := by rw [← hW0]; simp
  rw [hz] at HC
  have HO := Lib.hid (show remO m l = if er = 0 then (remL m.rows l).map (·.nm) else [] from by unfold remO; rw [hr])
  have HG := Lib.hid (show er = 0 → mxF m = true ∧ setsF m.st l = true from fun h => seen_ok (by rw [hr]; exact h))
  rw [hr] at HC ⊢
  rw [HO.out]
  generalize m.st.length = ns at *
  generalize m.rows.length = nr at *
  obtain ⟨n, hn⟩ : ∃ n, l.length = n := ⟨_, rfl⟩
  rw [hn] at HC HB1 HRm d0 d1 ⊢
  clear hv hu hu0 hW0 hb0 hM hS hR hX hl hr hs hb1 hz HO hn
  go_enter Tryd.func28, Tryd.ntmps28
  go_wp2_with fail
  rw [HW0.out]
  go_wp2_with fail
  (with_reducible refine HC.out.mono ?_)
  rintro e w1 ⟨rfl, hb⟩
  have HB2 := Lib.hid (HB1.out.trans (hb.mono HB1.out.size))
  clear hb k0 k1 d0 d1 HC
  rcases HE.out with rfl | rfl | rfl
  · obtain ⟨k0, k1⟩ := HX.out w1 HB2.out
    have HR1 := Lib.hid (HRm.out (HG.out rfl) w1 HB2.out)
    clear HRm HG HE
    go_wp2_with fail
    (with_reducible refine HR1.out.mono ?_)
    rintro e w2 ⟨⟨vs, rfl, hvs, _⟩, hb⟩
    have HB3 := Lib.hid (HB2.out.trans (hb.mono HB2.out.size))
    have HNo := Lib.hid (namesOf_any _ _ w2 hvs HNl.out)
    obtain ⟨Av, cv, rfl⟩ := hvs.form
    generalize (remL m.rows l).length = q at *
    clear hvs hb k0 k1 HR1
    go_wp2_with fail
    (with_reducible refine HNo.out.mono ?_)
    rintro e w3 ⟨⟨r, rfl, hr, ho⟩, hb⟩
    have HB4 := Lib.hid (HB3.out.trans (hb.mono HB3.out.size))
    have HR := Lib.hid (And.intro hr ho)
    clear hr ho hb HNo
    go_wp2_with fail
    go_ret2
    exact ⟨⟨_, rfl, HR.out.1, fun g e => Nat.le_trans (Nat.le_trans HB0.out.size HB3.out.size) (HR.out.2 g e)⟩, HB0.out.trans (HB4.out.mono HB0.out.size)⟩
  · go_wp2_with fail
    go_ret2
    exact ⟨⟨_, rfl, InSl.nil _ _, fun g e => by cases e⟩, HB0.out.trans (HB2.out.mono HB0.out.size)⟩
  · go_wp2_with fail
    go_ret2
    exact ⟨⟨_, rfl, InSl.nil _ _, fun g e => by cases e⟩, HB0.out.trans (HB2.out.mono HB0.out.size)⟩
set_option maxRecDepth 100000 in
set_option maxHeartbeats 8000000 in
theorem Fits_any (v u : Value) (m : Mx) (name : Int) (l : List Int) (w : World) (hv : MxV w v m) (hs : MSm m) (hu : InSl w w.heap.size u l) (hl : l.length ≤ 1000000) :
    Calls Tryd.prog 26 #[v, .int .i64 name, u] w fun e w' => e = .returned (.tuple #[.bool (fitB m name l), .int .i64 (fitE m name l)]) ∧ Below w.heap.size w w' := by
  obtain ⟨A1, c1, A2, c2, W0, rfl, hW0, hb0, hM, hS, hR, hX⟩ := mx_box hv
  have HB0 := Lib.hid hb0
  have HW0 := Lib.hid hW0
  have hu0 := hu.step hb0
  have HU := Lib.hid hu0
  obtain ⟨Au, cu, rfl, _⟩ := hu0.form
  have hb1 := below_new (w := W0) (.cells #[.slice Au l.length cu] 22)
  have HB1 := Lib.hid hb1
  have HC := Lib.hid (checkSeen_any _ _ m [l] _ (hM _ hb1) hs (one_box hu0) (by intro L hL; simp at hL; subst hL; exact hl) (by simp))
  obtain ⟨k0, k1⟩ := hX W0 (Below.refl _ _)
  obtain ⟨d0, d1⟩ := hX _ hb1
  have HX := Lib.hid hX
  have HRw := Lib.hid (fun Y (h : Below W0.heap.size W0 Y) => Row_any _ m name Y (hM Y h) hs)
  obtain ⟨er, hr⟩ : ∃ r, seenE m [l] = r := ⟨_, rfl⟩
  have HE := Lib.hid (show er = 0 ∨ er = 30 ∨ er = 32 from by rw [← hr]; exact seen_cases m [l])
  have hz : W0.heap.size = w.heap.size + 1 := by rw [← hW0]; simp
  rw [hz] at HC
  have HO := Lib.hid (show fitE m name l = (if er = 0 then rowE m name else er) ∧ fitB m name l = (if er = 0 ∧ rowE m name = 0 then fitsF (rowF m name).may l else false) from ⟨by unfold fitE; rw [hr], by unfold fitB; rw [hr]⟩)
  have HG := Lib.hid (show er = 0 → mxF m = true ∧ setsF m.st l = true from fun h => seen_ok (by rw [hr]; exact h))
  have HLl := Lib.hid hl
  have HK := Lib.hid (fun h : mxF m = true => row_cases (name := name) h)
  rw [hr] at HC
  rw [HO.out.1, HO.out.2]
  obtain ⟨rr, hrr⟩ : ∃ rr, rowF m name = rr := ⟨_, rfl⟩
  obtain ⟨ee, hee⟩ : ∃ ee, rowE m name = ee := ⟨_, rfl⟩
  rw [hrr, hee] at HRw HK
  rw [hrr, hee]
  generalize m.rows.length = nr at *
  obtain ⟨n, hn⟩ : ∃ n, l.length = n := ⟨_, rfl⟩
  have HLn := Lib.hid hn
  rw [hn] at HC HB1 HU d0 d1 ⊢
  obtain ⟨ns, hns⟩ : ∃ n, m.st.length = n := ⟨_, rfl⟩
  have HNs := Lib.hid hns
  rw [hns] at HC HW0 HX HRw HK k0 d0 ⊢
  clear hv hu hu0 hW0 hb0 hM hS hR hX hl hr hs hb1 hz HO hn hns hrr hee
  go_enter Tryd.func26, Tryd.ntmps26
  go_wp2_with fail
  rw [HW0.out]
  go_wp2_with fail
  (with_reducible refine HC.out.mono ?_)
  rintro e w1 ⟨rfl, hb⟩
  have HB2 := Lib.hid (HB1.out.trans (hb.mono HB1.out.size))
  clear hb k0 k1 d0 d1 HC
  rcases HE.out with rfl | rfl | rfl
  · obtain ⟨k0, k1⟩ := HX.out w1 HB2.out
    have HR1 := Lib.hid (HRw.out w1 HB2.out)
    have HG1 := Lib.hid (HG.out rfl)
    clear HRw HG HE
    go_wp2_with fail
    (with_reducible refine HR1.out.mono ?_)
    rintro e w2 ⟨⟨rv, rfl, hrv⟩, hb⟩
    have HB3 := Lib.hid (HB2.out.trans (hb.mono HB2.out.size))
    obtain ⟨Ar, cr, rfl, _⟩ := hrv.1.form
    have HV := Lib.hid hrv
    have HK1 := Lib.hid (HK.out HG1.out.1)
    clear hrv hb k0 k1 HR1 HK
    rcases HK1.out with ⟨rfl, h2, h3, h4⟩ | ⟨rfl, rfl⟩
    · have hbx := below_new (w := w2) (.cells #[.int .i64 rr.nm, .slice Ar rr.may.length cr] 35)
      have hnx := cells_two (World.alloc_heap_new w2 (.cells #[.int .i64 rr.nm, .slice Ar rr.may.length cr] 35))
      have HB4 := Lib.hid (HB3.out.trans (hbx.mono HB3.out.size))
      have HFi := Lib.hid (fits_any _ _ rr l _ ⟨Ar, cr, rfl, HV.out.1.step hbx⟩ (HU.out.step HB4.out) (by rw [h2, sets_len HG1.out.2, HNs.out]) HLl.out)
      obtain ⟨k0, k1⟩ := hnx
      clear hbx h2 h3 h4
      go_wp2_with fail
      (with_reducible refine HFi.out.mono ?_)
      rintro e w3 ⟨rfl, hb⟩
      have HB5 := Lib.hid (HB4.out.trans (hb.mono HB4.out.size))
      clear hb k0 k1 HFi
      go_wp2_with fail
      go_ret2
      exact ⟨by simp, HB0.out.trans (HB5.out.mono HB0.out.size)⟩
    · have HB4 := Lib.hid (HB3.out.trans ((below_new (w := w2) (.cells #[.int .i64 0, .slice Ar 0 cr] 35)).mono HB3.out.size))
      simp only [List.length_nil] at *
      go_wp2_with fail
      go_ret2
      exact ⟨by simp, HB0.out.trans (HB4.out.mono HB0.out.size)⟩
  · go_wp2_with fail
    go_ret2
    exact ⟨by simp, HB0.out.trans (HB2.out.mono HB0.out.size)⟩
  · go_wp2_with fail
    go_ret2
    exact ⟨by simp, HB0.out.trans (HB2.out.mono HB0.out.size)⟩
end Go.Proofs.YthfegbcbpeedbaaDoor
