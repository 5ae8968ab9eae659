/- Best. -/
import Derived.Test.YthfegbcbpeedbaaDoorKyP
namespace Go.Proofs.YthfegbcbpeedbaaDoor
open Go.RowKit Go.Nm Go.Ky

set_option maxRecDepth 100000 in
set_option maxHeartbeats 8000000 in
theorem Best_any (v u : Value) (m : Mx) (l : List Int) (w : World) (hv : MxV w v m) (hs : MSm m) (hu : InSl w w.heap.size u l) (hl : l.length ≤ 1000) :
    Calls Tryd.prog 38 #[v, u] w fun e w' => e = .returned (.tuple #[.int .i64 (bestC m l), .int .i64 (bestE m l)]) ∧ Below w.heap.size w w' := by
  obtain ⟨A1, c1, A2, c2, W0, rfl, hW0, hb0, hM, hS, hR, hX⟩ := mx_box hv
  have hz : W0.heap.size = w.heap.size + 1 := by rw [← hW0]; simp
  have hu0 := hu.step hb0
  obtain ⟨Au, cu, rfl, _⟩ := hu0.form
  have hba := below_new (w := W0) (.cells #[.slice Au l.length cu] 22)
  have hna := World.alloc_heap_new W0 (.cells #[.slice Au l.length cu] 22)
  have hu1 := hu0.step hba
  obtain ⟨W1, hW1⟩ : ∃ W1, W0.alloc (.cells #[.slice Au l.length cu] 22) = W1 := ⟨_, rfl⟩
  have hz1 : W1.heap.size = w.heap.size + 1 + 1 := by rw [← hW1, ← hz]; simp
  rw [hz] at hna
  rw [hW1] at hba hna hu1
  have hbb := below_new (w := W1) (.cells #[.slice Au l.length cu] 22)
  have hC := checkSeen_any _ _ m [l] _ (hM _ (hba.trans (hbb.mono hba.size))) hs (one_box hu1) (by intro L hL; simp at hL; subst hL; omega) (by simp)
  rw [hz1] at hC
  have HC := Lib.hid hC
  have HB0 := Lib.hid hb0
  have HBa := Lib.hid hba
  have HBb := Lib.hid hbb
  have HW := Lib.hid (And.intro hW0 hW1)
  have HX := Lib.hid (fun Y (h : Below W1.heap.size W1 Y) => And.intro (hX Y (hba.trans (h.mono hba.size))) (cell_one ((h.block _ (Array.getElem?_eq_some_iff.1 hna).1).trans hna)))
  have HRm := Lib.hid (fun (hm : mxF m = true ∧ setsF m.st l = true) Y (h : Below W1.heap.size W1 Y) => remaining_any _ _ m.rows l Y (hR Y (hba.trans (h.mono hba.size))) (hu1.step h) (fun r hr => by rw [mx_may hm.1 hr]; exact sets_len hm.2) hs.2.1 (by omega))
  have HNl := Lib.hid (show (remL m.rows l).length ≤ 1000 from by have := List.length_filter_le (fun r : Rw => fitsF r.may l) m.rows; have := hs.2.1; unfold remL; omega)
  have HMy := Lib.hid (fun (hm : mxF m = true ∧ setsF m.st l = true) (r : Rw) (hr : r ∈ remL m.rows l) (c : Nat) (hc : c < l.length) => (show ∃ y, r.may[c]? = some y ∧ 0 ≤ y ∧ y ≤ 65535 from by
    have hr2 : r ∈ m.rows := (List.mem_filter.1 hr).1
    have hc2 : c < r.may.length := by rw [mx_may hm.1 hr2, ← sets_len hm.2]; exact hc
    have := sets_range hm.1 (may_sets hm.1 hr2) (List.getElem?_eq_getElem hc2)
    exact ⟨_, List.getElem?_eq_getElem hc2, by omega, by omega⟩))
  have HSr := Lib.hid (fun (hm : mxF m = true ∧ setsF m.st l = true) (k : Nat) (x : Int) (hx : l[k]? = some x) => (show 0 ≤ x ∧ x ≤ 65535 from by have := sets_range hm.1 hm.2 hx; omega))
  have HU1 := Lib.hid hu1
  have HLl := Lib.hid hl
  have HE := Lib.hid (seen_cases m [l])
  have HO := Lib.hid (show bestE m l = (if seenE m [l] = 0 then (if (bestS (remL m.rows l) l (fun c => !decZ (l.getD c 0)) l.length).2.1 = true then 0 else 3) else seenE m [l]) ∧ bestC m l = (if bestE m l = 0 then (bestS (remL m.rows l) l (fun c => !decZ (l.getD c 0)) l.length).1 else 0) from ⟨rfl, rfl⟩)
  have HG := Lib.hid (fun h : seenE m [l] = 0 => seen_ok h)
  obtain ⟨er, hr⟩ : ∃ r, seenE m [l] = r := ⟨_, rfl⟩
  obtain ⟨be, hbe⟩ : ∃ r, bestE m l = r := ⟨_, rfl⟩
  obtain ⟨bc, hbc⟩ : ∃ r, bestC m l = r := ⟨_, rfl⟩
  rw [hr] at HC HE HG
  rw [hr, hbe, hbc] at HO
  rw [hbe, hbc]
  generalize m.st.length = ns at *
  generalize m.rows.length = nr at *
  obtain ⟨n, hn⟩ : ∃ n, l.length = n := ⟨_, rfl⟩
  have HNn := Lib.hid hn
  rw [hn] at HC HBb HRm HX HU1 HW
  rw [hn]
  obtain ⟨⟨k0, k1⟩, k2⟩ := HX.out W1 (Below.refl _ _)
  obtain ⟨⟨d0, d1⟩, d2⟩ := HX.out _ HBb.out
  clear hv hu hu0 hu1 hW0 hW1 hb0 hba hbb hna hM hS hR hX hl hr hs hz hz1 hn hbe hbc hC
  go_enter Tryd.func38, Tryd.ntmps38
  go_wp2_with fail
  rw [HW.out.1, HW.out.2]
  (try go_wp2_with fail)
  (with_reducible refine HC.out.mono ?_)
  rintro e w1 ⟨rfl, hb⟩
  have HB2 := Lib.hid (HBb.out.trans (hb.mono HBb.out.size))
  have HBw := Lib.hid (fun Y (h : Below W1.heap.size W1 Y) => HB0.out.trans ((HBa.out.trans (h.mono HBa.out.size)).mono HB0.out.size))
  clear hb k0 k1 k2 d0 d1 d2 HC
  rcases HE.out with rfl | rfl | rfl
  · obtain ⟨⟨k0, k1⟩, k2⟩ := HX.out w1 HB2.out
    have HG1 := Lib.hid (HG.out rfl)
    have HR1 := Lib.hid (HRm.out HG1.out w1 HB2.out)
    have HO1 := Lib.hid (show be = (if (bestS (remL m.rows l) l (fun c => !decZ (l.getD c 0)) n).2.1 = true then 0 else 3) ∧ bc = (if be = 0 then (bestS (remL m.rows l) l (fun c => !decZ (l.getD c 0)) n).1 else 0) from by
      have h := HO.out
      rw [HNn.out] at h
      simpa using h)
    clear HRm HG HE HO
    go_wp2_with fail
    (with_reducible refine HR1.out.mono ?_)
    rintro e w2 ⟨⟨vs, rfl, hvs, _⟩, hb⟩
    have HB3 := Lib.hid (HB2.out.trans (hb.mono HB2.out.size))
    have HBs := Lib.hid (bestB_any (w.heap.size + 1) vs (.slice Au n cu) (remL m.rows l) l (fun c => !decZ (l.getD c 0)) w2 hvs (HU1.out.step HB3.out) HNl.out HLl.out (HSr.out HG1.out) (fun r hr c hc => HMy.out HG1.out r hr c hc)
      (fun X hX c x hx => by
        have hb4 := HB3.out.trans (hX.mono HB3.out.size)
        refine (best1_any c (w.heap.size + 1) (.slice Au n cu) l x X (HX.out X hb4).2 (HU1.out.step hb4) hx (HSr.out HG1.out c x hx)).mono ?_
        rintro e w' ⟨rfl, rfl⟩
        exact ⟨by rw [List.getD_eq_getElem?_getD, hx]; rfl, Below.refl _ _⟩))
    obtain ⟨Av, cv, rfl⟩ := hvs.form
    rw [HNn.out] at HBs
    obtain ⟨⟨bs1, bs2, bs3⟩, hbs⟩ : ∃ bs, bestS (remL m.rows l) l (fun c => !decZ (l.getD c 0)) n = bs := ⟨_, rfl⟩
    rw [hbs] at HBs HO1
    generalize (remL m.rows l).length = q at *
    clear hvs hb k0 k1 k2 HR1 hbs
    simp only at HBs HO1
    obtain ⟨⟨k0, k1⟩, k2⟩ := HX.out w2 HB3.out
    go_wp2_with fail
    (with_reducible refine HBs.out.mono ?_)
    rintro e w3 ⟨rfl, hb⟩
    have HB4 := Lib.hid (HB3.out.trans (hb.mono HB3.out.size))
    clear hb k0 k1 k2 HBs
    cases bs2 with
    | false =>
      have HF := Lib.hid (show be = 3 ∧ bc = 0 from by
        have h := HO1.out.1
        simp at h
        exact ⟨h, by rw [HO1.out.2, h]; simp⟩)
      go_wp2_with fail
      go_ret2
      exact ⟨by rw [HF.out.1, HF.out.2]; rfl, HBw.out _ HB4.out⟩
    | true =>
      have HF := Lib.hid (show be = 0 ∧ bc = bs1 from by
        have h := HO1.out.1
        simp at h
        exact ⟨h, by rw [HO1.out.2, h]; simp⟩)
      go_wp2_with fail
      go_ret2
      exact ⟨by rw [HF.out.1, HF.out.2]; rfl, HBw.out _ HB4.out⟩
  · have HF := Lib.hid (show be = 30 ∧ bc = 0 from by
      have h := HO.out.1
      simp at h
      exact ⟨h, by rw [HO.out.2, h]; simp⟩)
    go_wp2_with fail
    go_ret2
    exact ⟨by rw [HF.out.1, HF.out.2]; rfl, HBw.out _ HB2.out⟩
  · have HF := Lib.hid (show be = 32 ∧ bc = 0 from by
      have h := HO.out.1
      simp at h
      exact ⟨h, by rw [HO.out.2, h]; simp⟩)
    go_wp2_with fail
    go_ret2
    exact ⟨by rw [HF.out.1, HF.out.2]; rfl, HBw.out _ HB2.out⟩
end Go.Proofs.YthfegbcbpeedbaaDoor
