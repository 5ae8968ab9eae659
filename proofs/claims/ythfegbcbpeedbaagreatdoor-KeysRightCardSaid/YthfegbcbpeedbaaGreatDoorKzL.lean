/- KeysRight: the law. -/
import Derived.Test.YthfegbcbpeedbaaGreatDoorKzB
import Derived.Test.YthfegbcbpeedbaaGreatDoorKzC
import Derived.Test.YthfegbcbpeedbaaGreatDoorKzD
import Derived.Test.YthfegbcbpeedbaaGreatDoorKyAs
import Derived.Test.YthfegbcbpeedbaaGreatDoorKySh
import Derived.Test.YthfegbcbpeedbaaGreatDoorKyRg
namespace Go.Proofs.YthfegbcbpeedbaaGreatDoor
open Go.RowKit Go.Nm Go.Ky

set_option maxRecDepth 100000 in
set_option maxHeartbeats 4000000 in
theorem SameListsW_any (u v : Value) (L M : List (List Int)) (w : World) (hu : VsSl w w.heap.size u L) (hv : VsSl w w.heap.size v M) (hL : L.length ≤ 10000000000) (hLs : ∀ l ∈ L, l.length ≤ 1000000) (hMs : ∀ l ∈ M, l.length ≤ 1000000) :
    Calls Tryz.prog 16 #[u, v] w fun e w' => e = .returned (.bool (decide (L = M))) ∧ Below w.heap.size w w' := by
  obtain ⟨A, c, rfl, hA⟩ := hu.form2
  obtain ⟨B, d, rfl, hB⟩ := hv.form2
  have HA := Lib.hid hA
  have HB := Lib.hid hB
  have HLs := Lib.hid (And.intro hLs hMs)
  obtain ⟨r, hr⟩ : ∃ r, decide (L = M) = r := ⟨_, rfl⟩
  rw [hr]
  have HR := Lib.hid hr
  clear hA hB hr hu hv hLs hMs
  generalize hnl : L.length = n at *
  generalize hnm : M.length = m at *
  have HL := Lib.hid hnl
  have HM := Lib.hid hnm
  clear hnl hnm
  by_cases hnm : n = m
  · subst hnm
    go_enter Tryz.func16, Tryz.ntmps16
    go_wp2_with fail
    go_loopw [5] (fun iv wr => ∃ i : Nat, iv = .int .i64 (i : Int) ∧ i ≤ n ∧ (∀ j, j < i → L[j]? = M[j]?) ∧ Below w.heap.size w wr) (fun iv _ => n - (intOf iv).toNat)
    case atStart => exact ⟨0, rfl, by omega, fun j hj => absurd hj (by omega), Below.refl _ _⟩
    case round =>
      obtain ⟨i, rfl, hin, hq, hb⟩ := hrel
      have HQ := Lib.hid hq
      have HBl := Lib.hid hb
      by_cases hlt : i < n
      · obtain ⟨ad, ux, x, rfl, hbd, hx, hcx, hix⟩ := ((HA.out.below hb).mono hb.size).at_ hlt
        obtain ⟨ad2, uy, y, rfl, hbd2, hy, hcy, hiy⟩ := ((HB.out.below hb).mono hb.size).at_ hlt
        have HC := Lib.hid (SameInts_any ux uy x y wr.drew (hix.step (Below.refl _ _).drew) (hiy.step (Below.refl _ _).drew) (HLs.out.1 x (List.mem_of_getElem? hx)) (HLs.out.2 y (List.mem_of_getElem? hy)))
        obtain ⟨Ax, cx, rfl, _⟩ := hix.form
        obtain ⟨Ay, cy, rfl, _⟩ := hiy.form
        have HX := Lib.hid (And.intro hx hy)
        clear hq hb hix hiy hx hy hbd hbd2
        generalize hlx : x.length = lx at *
        generalize hly : y.length = ly at *
        obtain ⟨q, hqq⟩ : ∃ q, decide (x = y) = q := ⟨_, rfl⟩
        rw [hqq] at HC
        have HQq := Lib.hid hqq
        clear hqq hlx hly
        go_wp2_with fail
        refine wp_region_tail 8 (by kernel_rfl) (by kernel_rfl) ?_
        simp only [List.take_succ_cons, List.take_zero, List.drop_succ_cons, List.drop_zero]
        repeat still_step
        refine wpStill_nil ?_
        go_wp2_with fail
        refine HC.out.mono ?_
        rintro e w3 ⟨rfl, hb3⟩
        have HB3 := Lib.hid (HBl.out.trans (((Below.refl _ _).drew.trans hb3).mono HBl.out.size))
        clear hb3
        cases q with
        | true =>
          have HN := Lib.hid (same_next HQ.out HX.out.1 HX.out.2 (of_decide_eq_true HQq.out))
          go_wp2_with fail
          go_roundw
          case rel => exact ⟨i + 1, by go_num, by omega, HN.out, HB3.out⟩
          case measure => simp [intOf]; omega
        | false =>
          have HF := Lib.hid (show r = false from by
            rw [← HR.out, decide_eq_false_iff_not]; intro e; subst e
            have hx := HX.out.1; have hy := HX.out.2
            rw [hx] at hy; injection hy with hy
            exact of_decide_eq_false HQq.out hy)
          go_wp2_with fail
          go_ret
          exact ⟨by rw [HF.out]; rfl, HB3.out⟩
      · obtain rfl : i = n := by omega
        have HF := Lib.hid (show r = true from by rw [← HR.out, decide_eq_true_eq]; exact same_end HL.out HM.out HQ.out)
        clear hq hb
        go_wp2_with fail
        go_ret
        exact ⟨by rw [HF.out]; rfl, HBl.out⟩
  · have HF := Lib.hid (show r = false from by rw [← HR.out, decide_eq_false_iff_not]; intro e; apply hnm; rw [← HL.out, ← HM.out, e])
    have hb : ((n : Int) != (m : Int)) = true := by simpa using fun e => hnm (by omega)
    go_enter Tryz.func16, Tryz.ntmps16
    go_wp2_with fail
    go_ret
    exact ⟨by rw [HF.out]; rfl, Below.refl _ _⟩
theorem conf_len (m : Mx) (k : Kx) : (confL m k).length ≤ 10000000000 := by
  unfold confL
  split
  · unfold confF
    refine Nat.le_trans (flat_len (b := 65536) fun a => by rw [List.length_map]; exact pairB_len _ _) ?_
    have := keysB_len k.lv
    omega
  · simp
theorem conf_two (m : Mx) (k : Kx) : ∀ l ∈ confL m k, l.length ≤ 1000000 := fun l hl => by
  unfold confL at hl
  split at hl
  · unfold confF at hl
    obtain ⟨a, _, h⟩ := List.mem_flatMap.1 hl
    obtain ⟨b, _, rfl⟩ := List.mem_map.1 h
    simp
  · cases hl
theorem wrong_len {m : Mx} {k : Kx} (hs : MSm m) : (wrongL m k).length ≤ 1000000 := by
  unfold wrongL
  split
  · rename_i h
    have hw : ∃ r ∈ m.rows, wrongL m k = firstF k r := by
      unfold wrongE at h
      by_cases hc : ckE m k = 0
      · rw [if_pos hc] at h
        cases hr : wrongR m k with
        | none => rw [hr] at h; simp at h
        | some r =>
          refine ⟨r, List.mem_of_find?_eq_some hr, ?_⟩
          unfold wrongL wrongE
          rw [if_pos hc, hr]; rfl
      · rw [if_neg hc] at h; exact absurd h hc
    obtain ⟨r, hr, e⟩ := hw
    have h2 : (wrongL m k).length ≤ 1000000 := by
      rw [e]; unfold firstF
      rw [List.length_map, List.length_range]
      have := hs.2.2 r hr
      omega
    unfold wrongL at h2
    rw [if_pos h] at h2
    exact h2
  · simp
end Go.Proofs.YthfegbcbpeedbaaGreatDoor
namespace Go.Proofs.YthfegbcbpeedbaaGreatDoor
open Go.RowKit Go.Nm Go.Ky

set_option maxRecDepth 100000 in
set_option maxHeartbeats 16000000 in
theorem KeysRight_any (v kv : Value) (m : Mx) (k : Kx) (w : World) (hv : MxV w v m) (hk : KyV w kv k) (hT : TabH w) :
    Calls Tryz.prog 3 #[v, kv] w fun e w' => e = .returned (.bool true) ∧ Below w.heap.size w w' := by
  obtain ⟨A1, c1, A2, c2, W0, rfl, hW0, hb0, hM, hS, hR, hX⟩ := mx_box hv
  have hz : W0.heap.size = w.heap.size + 1 := by rw [← hW0]; simp
  have hn0 : W0.heap[w.heap.size]? = some (.cells #[.slice A1 m.st.length c1, .slice A2 m.rows.length c2] 25) := by rw [← hW0]; exact World.alloc_heap_new w _
  obtain ⟨D1, e1, D2, e2, W1, rfl, hW1, hb1, hKy, hNd, hLv, hX1⟩ := ky_box (hk.step hb0)
  have hz1 : W1.heap.size = W0.heap.size + 1 := by rw [← hW1]; simp
  have hn1 : W1.heap[W0.heap.size]? = some (.cells #[.slice D1 k.nd.length e1, .slice D2 k.lv.length e2] 29) := by rw [← hW1]; exact World.alloc_heap_new W0 _
  have hb01 := hb0.trans (hb1.mono hb0.size)
  rw [hz] at hn1
  have HW := Lib.hid (And.intro hW0 hW1)
  have HB := Lib.hid hb01
  have HT := Lib.hid ((hT.step hb0).step hb1)
  have HM := Lib.hid (hM W1 hb1)
  have HKy := Lib.hid (hKy W1 (Below.refl _ _))
  have HBx := Lib.hid ((hb1.block _ (by omega)).trans hn0)
  have HKx := Lib.hid hn1
  obtain ⟨ns, hns⟩ : ∃ n, m.st.length = n := ⟨_, rfl⟩
  obtain ⟨nr, hnr⟩ : ∃ n, m.rows.length = n := ⟨_, rfl⟩
  obtain ⟨nn, hnn⟩ : ∃ n, k.nd.length = n := ⟨_, rfl⟩
  obtain ⟨nl, hnl⟩ : ∃ n, k.lv.length = n := ⟨_, rfl⟩
  rw [hns, hnr] at HW HM HBx
  rw [hnn, hnl] at HW HKy HKx
  rw [hns, hnr, hnn, hnl]
  have HNs := Lib.hid (And.intro hns hnr)
  have HNk := Lib.hid (And.intro hnn hnl)
  obtain ⟨k0, k1⟩ := cells_two HBx.out
  obtain ⟨j0, j1⟩ := cells_two HKx.out
  clear hv hk hT hW0 hb0 hM hS hR hX hz hn0 hW1 hb1 hKy hNd hLv hX1 hz1 hn1 hb01 hns hnr hnn hnl
  go_enter Tryz.func3, Tryz.ntmps3
  go_wp2_with fail
  rw [HW.out.1, HW.out.2]
  (try go_wp2_with fail)
  (with_reducible refine (awake_any _ HT.out).mono ?_)
  rintro e w1 ⟨rfl, hb⟩
  replace HB := Lib.hid (HB.out.trans (hb.mono HB.out.size))
  replace HT := Lib.hid (HT.out.step hb)
  replace HM := Lib.hid (HM.out.step hb)
  replace HKy := Lib.hid (HKy.out.step hb)
  replace HBx := Lib.hid ((hb.block _ (Array.getElem?_eq_some_iff.1 HBx.out).1).trans HBx.out)
  replace HKx := Lib.hid ((hb.block _ (Array.getElem?_eq_some_iff.1 HKx.out).1).trans HKx.out)
  clear hb
  clear k0 k1 j0 j1
  obtain ⟨k0, k1⟩ := cells_two HBx.out
  obtain ⟨j0, j1⟩ := cells_two HKx.out
  have HFw := Lib.hid (few_any _ m w1 HM.out)
  cases hfw : fewF m with
  | false =>
    rw [hfw] at HFw
    clear hfw
    go_wp2_with fail
    (with_reducible refine HFw.out.mono ?_)
    rintro e w2 ⟨rfl, hb⟩
    replace HB := Lib.hid (HB.out.trans (hb.mono HB.out.size))
    clear hb
    go_wp2_with fail
    go_ret
    exact ⟨rfl, HB.out⟩
  | true =>
  rw [hfw] at HFw
  have HSm := Lib.hid (few_sm hfw)
  have HFe := Lib.hid hfw
  clear hfw
  go_wp2_with fail
  (with_reducible refine HFw.out.mono ?_)
  rintro e w3 ⟨rfl, hb⟩
  replace HB := Lib.hid (HB.out.trans (hb.mono HB.out.size))
  replace HT := Lib.hid (HT.out.step hb)
  replace HM := Lib.hid (HM.out.step hb)
  replace HKy := Lib.hid (HKy.out.step hb)
  replace HBx := Lib.hid ((hb.block _ (Array.getElem?_eq_some_iff.1 HBx.out).1).trans HBx.out)
  replace HKx := Lib.hid ((hb.block _ (Array.getElem?_eq_some_iff.1 HKx.out).1).trans HKx.out)
  clear HFw
  clear hb
  clear k0 k1 j0 j1
  obtain ⟨k0, k1⟩ := cells_two HBx.out
  obtain ⟨j0, j1⟩ := cells_two HKx.out
  have HSh := Lib.hid (short_any _ k w3 HKy.out)
  cases hsh : shortF k with
  | false =>
    rw [hsh] at HSh
    clear hsh
    go_wp2_with fail
    (with_reducible refine HSh.out.mono ?_)
    rintro e w4 ⟨rfl, hb⟩
    replace HB := Lib.hid (HB.out.trans (hb.mono HB.out.size))
    clear hb
    go_wp2_with fail
    go_ret
    exact ⟨rfl, HB.out⟩
  | true =>
  rw [hsh] at HSh
  have HKm := Lib.hid (short_sm hsh)
  have HShe := Lib.hid hsh
  clear hsh
  go_wp2_with fail
  (with_reducible refine HSh.out.mono ?_)
  rintro e w5 ⟨rfl, hb⟩
  replace HB := Lib.hid (HB.out.trans (hb.mono HB.out.size))
  replace HT := Lib.hid (HT.out.step hb)
  replace HM := Lib.hid (HM.out.step hb)
  replace HKy := Lib.hid (HKy.out.step hb)
  replace HBx := Lib.hid ((hb.block _ (Array.getElem?_eq_some_iff.1 HBx.out).1).trans HBx.out)
  replace HKx := Lib.hid ((hb.block _ (Array.getElem?_eq_some_iff.1 HKx.out).1).trans HKx.out)
  clear HSh
  clear hb
  clear k0 k1 j0 j1
  obtain ⟨k0, k1⟩ := cells_two HBx.out
  obtain ⟨j0, j1⟩ := cells_two HKx.out
  obtain ⟨we, hwe⟩ : ∃ x, wrongE m k = x := ⟨_, rfl⟩
  obtain ⟨wn, hwn⟩ : ∃ x, wrongN m k = x := ⟨_, rfl⟩
  obtain ⟨wl, hwl⟩ : ∃ x, wrongL m k = x := ⟨_, rfl⟩
  obtain ⟨re, hre⟩ : ∃ x, rightE m k = x := ⟨_, rfl⟩
  obtain ⟨ce, hce⟩ : ∃ x, ckE m k = x := ⟨_, rfl⟩
  obtain ⟨cl, hcl⟩ : ∃ x, confL m k = x := ⟨_, rfl⟩
  obtain ⟨dc, hdc⟩ : ∃ x, depC m k = x := ⟨_, rfl⟩
  have HRs := Lib.hid (And.intro hwe (And.intro hwn (And.intro hwl (And.intro hre (And.intro hce (And.intro hcl hdc))))))
  have HLs := Lib.hid (show wl.length ≤ 1000000 ∧ cl.length ≤ 10000000000 ∧ ∀ l ∈ cl, l.length ≤ 1000000 from by
    have h1 := wrong_len (k := k) HSm.out
    have h2 := conf_len m k
    have h3 := conf_two m k
    rw [hwl] at h1; rw [hcl] at h2 h3
    exact ⟨h1, h2, h3⟩)
  clear hwe hwn hwl hre hce hcl hdc
  have HC := Lib.hid (Right_any _ _ m k w5 HM.out HSm.out HKy.out HKm.out)
  rw [HRs.out.1, HRs.out.2.2.2.1] at HC
  go_wp2_with fail
  (with_reducible refine HC.out.mono ?_)
  rintro e w6 ⟨rfl, hb⟩
  replace HB := Lib.hid (HB.out.trans (hb.mono HB.out.size))
  replace HT := Lib.hid (HT.out.step hb)
  replace HM := Lib.hid (HM.out.step hb)
  replace HKy := Lib.hid (HKy.out.step hb)
  replace HBx := Lib.hid ((hb.block _ (Array.getElem?_eq_some_iff.1 HBx.out).1).trans HBx.out)
  replace HKx := Lib.hid ((hb.block _ (Array.getElem?_eq_some_iff.1 HKx.out).1).trans HKx.out)
  clear HC
  clear hb
  clear k0 k1 j0 j1
  obtain ⟨k0, k1⟩ := cells_two HBx.out
  obtain ⟨j0, j1⟩ := cells_two HKx.out
  have HC := Lib.hid (rRight_any _ _ m k w6 HM.out HSm.out HKy.out HKm.out)
  rw [HRs.out.1, HRs.out.2.2.2.1] at HC
  go_wp2_with fail
  (with_reducible refine HC.out.mono ?_)
  rintro e w7 ⟨rfl, hb⟩
  replace HB := Lib.hid (HB.out.trans (hb.mono HB.out.size))
  replace HT := Lib.hid (HT.out.step hb)
  replace HM := Lib.hid (HM.out.step hb)
  replace HKy := Lib.hid (HKy.out.step hb)
  replace HBx := Lib.hid ((hb.block _ (Array.getElem?_eq_some_iff.1 HBx.out).1).trans HBx.out)
  replace HKx := Lib.hid ((hb.block _ (Array.getElem?_eq_some_iff.1 HKx.out).1).trans HKx.out)
  clear HC
  clear hb
  clear k0 k1 j0 j1
  obtain ⟨k0, k1⟩ := cells_two HBx.out
  obtain ⟨j0, j1⟩ := cells_two HKx.out
  have HC := Lib.hid (Wrong_any _ _ m k w7 HM.out HSm.out HKy.out HKm.out)
  rw [HRs.out.1, HRs.out.2.1, HRs.out.2.2.1] at HC
  go_wp2_with fail
  (with_reducible refine HC.out.mono ?_)
  rintro e w8 ⟨⟨u1, rfl, hf⟩, hb⟩
  replace HB := Lib.hid (HB.out.trans (hb.mono HB.out.size))
  replace HT := Lib.hid (HT.out.step hb)
  replace HM := Lib.hid (HM.out.step hb)
  replace HKy := Lib.hid (HKy.out.step hb)
  replace HBx := Lib.hid ((hb.block _ (Array.getElem?_eq_some_iff.1 HBx.out).1).trans HBx.out)
  replace HKx := Lib.hid ((hb.block _ (Array.getElem?_eq_some_iff.1 HKx.out).1).trans HKx.out)
  have H1 := Lib.hid hf.1
  clear hf HC
  clear hb
  clear k0 k1 j0 j1
  obtain ⟨k0, k1⟩ := cells_two HBx.out
  obtain ⟨j0, j1⟩ := cells_two HKx.out
  have HC := Lib.hid (rWrong_any _ _ m k w8 HM.out HSm.out HKy.out HKm.out)
  rw [HRs.out.1, HRs.out.2.1, HRs.out.2.2.1] at HC
  go_wp2_with fail
  (with_reducible refine HC.out.mono ?_)
  rintro e w9 ⟨⟨u2, rfl, hf⟩, hb⟩
  replace HB := Lib.hid (HB.out.trans (hb.mono HB.out.size))
  replace HT := Lib.hid (HT.out.step hb)
  replace HM := Lib.hid (HM.out.step hb)
  replace HKy := Lib.hid (HKy.out.step hb)
  replace HBx := Lib.hid ((hb.block _ (Array.getElem?_eq_some_iff.1 HBx.out).1).trans HBx.out)
  replace HKx := Lib.hid ((hb.block _ (Array.getElem?_eq_some_iff.1 HKx.out).1).trans HKx.out)
  replace H1 := Lib.hid (H1.out.step hb)
  have H2 := Lib.hid hf.1
  clear hf HC
  clear hb
  clear k0 k1 j0 j1
  obtain ⟨k0, k1⟩ := cells_two HBx.out
  obtain ⟨j0, j1⟩ := cells_two HKx.out
  have HC := Lib.hid (Confused_any _ _ m k w9 HM.out HSm.out HKy.out HKm.out HT.out)
  rw [HRs.out.2.2.2.2.1, HRs.out.2.2.2.2.2.1] at HC
  go_wp2_with fail
  (with_reducible refine HC.out.mono ?_)
  rintro e w10 ⟨⟨u3, rfl, hf⟩, hb⟩
  replace HB := Lib.hid (HB.out.trans (hb.mono HB.out.size))
  replace HT := Lib.hid (HT.out.step hb)
  replace HM := Lib.hid (HM.out.step hb)
  replace HKy := Lib.hid (HKy.out.step hb)
  replace HBx := Lib.hid ((hb.block _ (Array.getElem?_eq_some_iff.1 HBx.out).1).trans HBx.out)
  replace HKx := Lib.hid ((hb.block _ (Array.getElem?_eq_some_iff.1 HKx.out).1).trans HKx.out)
  replace H1 := Lib.hid (H1.out.step hb)
  replace H2 := Lib.hid (H2.out.step hb)
  have H3 := Lib.hid hf
  clear hf HC
  clear hb
  clear k0 k1 j0 j1
  obtain ⟨k0, k1⟩ := cells_two HBx.out
  obtain ⟨j0, j1⟩ := cells_two HKx.out
  have HC := Lib.hid (rConfused_any _ _ m k w10 HM.out HSm.out HKy.out HKm.out)
  rw [HRs.out.2.2.2.2.1, HRs.out.2.2.2.2.2.1] at HC
  go_wp2_with fail
  (with_reducible refine HC.out.mono ?_)
  rintro e w11 ⟨⟨u4, rfl, hf⟩, hb⟩
  replace HB := Lib.hid (HB.out.trans (hb.mono HB.out.size))
  replace HT := Lib.hid (HT.out.step hb)
  replace HM := Lib.hid (HM.out.step hb)
  replace HKy := Lib.hid (HKy.out.step hb)
  replace HBx := Lib.hid ((hb.block _ (Array.getElem?_eq_some_iff.1 HBx.out).1).trans HBx.out)
  replace HKx := Lib.hid ((hb.block _ (Array.getElem?_eq_some_iff.1 HKx.out).1).trans HKx.out)
  replace H1 := Lib.hid (H1.out.step hb)
  replace H2 := Lib.hid (H2.out.step hb)
  replace H3 := Lib.hid (H3.out.step hb)
  have H4 := Lib.hid hf
  clear hf HC
  clear hb
  clear k0 k1 j0 j1
  obtain ⟨k0, k1⟩ := cells_two HBx.out
  obtain ⟨j0, j1⟩ := cells_two HKx.out
  have HC := Lib.hid (Depth_any _ _ m k w11 HM.out HSm.out HKy.out HKm.out)
  rw [HRs.out.2.2.2.2.2.2, HRs.out.2.2.2.2.1] at HC
  go_wp2_with fail
  (with_reducible refine HC.out.mono ?_)
  rintro e w12 ⟨rfl, hb⟩
  replace HB := Lib.hid (HB.out.trans (hb.mono HB.out.size))
  replace HT := Lib.hid (HT.out.step hb)
  replace HM := Lib.hid (HM.out.step hb)
  replace HKy := Lib.hid (HKy.out.step hb)
  replace HBx := Lib.hid ((hb.block _ (Array.getElem?_eq_some_iff.1 HBx.out).1).trans HBx.out)
  replace HKx := Lib.hid ((hb.block _ (Array.getElem?_eq_some_iff.1 HKx.out).1).trans HKx.out)
  replace H1 := Lib.hid (H1.out.step hb)
  replace H2 := Lib.hid (H2.out.step hb)
  replace H3 := Lib.hid (H3.out.step hb)
  replace H4 := Lib.hid (H4.out.step hb)
  clear HC
  clear hb
  clear k0 k1 j0 j1
  obtain ⟨k0, k1⟩ := cells_two HBx.out
  obtain ⟨j0, j1⟩ := cells_two HKx.out
  have HC := Lib.hid (rDepth_any _ _ m k w12 HM.out HSm.out HKy.out HKm.out)
  rw [HRs.out.2.2.2.2.2.2, HRs.out.2.2.2.2.1] at HC
  go_wp2_with fail
  (with_reducible refine HC.out.mono ?_)
  rintro e w13 ⟨rfl, hb⟩
  replace HB := Lib.hid (HB.out.trans (hb.mono HB.out.size))
  replace HT := Lib.hid (HT.out.step hb)
  replace HM := Lib.hid (HM.out.step hb)
  replace HKy := Lib.hid (HKy.out.step hb)
  replace HBx := Lib.hid ((hb.block _ (Array.getElem?_eq_some_iff.1 HBx.out).1).trans HBx.out)
  replace HKx := Lib.hid ((hb.block _ (Array.getElem?_eq_some_iff.1 HKx.out).1).trans HKx.out)
  replace H1 := Lib.hid (H1.out.step hb)
  replace H2 := Lib.hid (H2.out.step hb)
  replace H3 := Lib.hid (H3.out.step hb)
  replace H4 := Lib.hid (H4.out.step hb)
  clear HC
  clear hb
  clear k0 k1 j0 j1
  obtain ⟨k0, k1⟩ := cells_two HBx.out
  obtain ⟨j0, j1⟩ := cells_two HKx.out
  obtain ⟨rb, hrb⟩ : ∃ x, decide (we = 3) = x := ⟨_, rfl⟩
  rw [hrb]
  clear hrb
  have q0 : (rb == rb) = true := by simp
  have q1 : (re == re) = true := by simp
  have q2 : (we == we) = true := by simp
  have q3 : (wn == wn) = true := by simp
  have q4 : (ce == ce) = true := by simp
  have q5 : (dc == dc) = true := by simp
  have HC := Lib.hid (SameInts_any u1 u2 wl wl w13 H1.out H2.out HLs.out.1 HLs.out.1)
  rw [show decide (wl = wl) = true from by simp] at HC
  go_wp2_with fail
  (with_reducible refine HC.out.mono ?_)
  rintro e w14 ⟨rfl, hb⟩
  replace HB := Lib.hid (HB.out.trans (hb.mono HB.out.size))
  replace HT := Lib.hid (HT.out.step hb)
  replace HM := Lib.hid (HM.out.step hb)
  replace HKy := Lib.hid (HKy.out.step hb)
  replace HBx := Lib.hid ((hb.block _ (Array.getElem?_eq_some_iff.1 HBx.out).1).trans HBx.out)
  replace HKx := Lib.hid ((hb.block _ (Array.getElem?_eq_some_iff.1 HKx.out).1).trans HKx.out)
  replace H1 := Lib.hid (H1.out.step hb)
  replace H2 := Lib.hid (H2.out.step hb)
  replace H3 := Lib.hid (H3.out.step hb)
  replace H4 := Lib.hid (H4.out.step hb)
  clear HC
  clear hb
  clear k0 k1 j0 j1
  obtain ⟨k0, k1⟩ := cells_two HBx.out
  obtain ⟨j0, j1⟩ := cells_two HKx.out
  have HC := Lib.hid (SameListsW_any u3 u4 cl cl w14 H3.out H4.out HLs.out.2.1 HLs.out.2.2 HLs.out.2.2)
  rw [show decide (cl = cl) = true from by simp] at HC
  go_wp2_with fail
  (with_reducible refine HC.out.mono ?_)
  rintro e w15 ⟨rfl, hb⟩
  replace HB := Lib.hid (HB.out.trans (hb.mono HB.out.size))
  replace HT := Lib.hid (HT.out.step hb)
  replace HM := Lib.hid (HM.out.step hb)
  replace HKy := Lib.hid (HKy.out.step hb)
  replace HBx := Lib.hid ((hb.block _ (Array.getElem?_eq_some_iff.1 HBx.out).1).trans HBx.out)
  replace HKx := Lib.hid ((hb.block _ (Array.getElem?_eq_some_iff.1 HKx.out).1).trans HKx.out)
  replace H1 := Lib.hid (H1.out.step hb)
  replace H2 := Lib.hid (H2.out.step hb)
  replace H3 := Lib.hid (H3.out.step hb)
  replace H4 := Lib.hid (H4.out.step hb)
  clear HC
  clear hb
  clear k0 k1 j0 j1
  obtain ⟨k0, k1⟩ := cells_two HBx.out
  obtain ⟨j0, j1⟩ := cells_two HKx.out
  go_wp2_with fail
  refine bodyPost_ret (v := .bool true) (by simp [results, Tryz.results3, go_sem]) rfl ?_
  exact And.intro rfl HB.out
end Go.Proofs.YthfegbcbpeedbaaGreatDoor
