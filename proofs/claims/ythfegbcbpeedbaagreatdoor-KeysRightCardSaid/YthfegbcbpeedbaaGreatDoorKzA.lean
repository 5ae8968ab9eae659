/- What the reference asks of a leaf. -/
import Derived.Test.YthfegbcbpeedbaaGreatDoorKzM
namespace Go.Proofs.YthfegbcbpeedbaaGreatDoor
open Go.RowKit Go.Nm Go.Ky

set_option maxRecDepth 100000 in
set_option maxHeartbeats 4000000 in
theorem rhas_any (u : Value) (y : Int) (L : List Int) (w : World) (hu : InSl w w.heap.size u L) (hn : L.length ≤ 1000000) :
    Calls Tryz.prog 37 #[u, .int .i64 y] w fun e w' => e = .returned (.bool (hasF L y)) ∧ w = w' := by
  obtain ⟨A, c, rfl, _⟩ := hu.form
  have HA := Lib.hid (show InA w w.heap.size A L from by obtain ⟨_, _, e, _, _, h⟩ := hu; cases e; exact h)
  obtain ⟨n, hnn⟩ : ∃ n, L.length = n := ⟨_, rfl⟩
  have HN := Lib.hid hnn
  rw [hnn] at hn ⊢
  clear hu hnn
  go_enter Tryz.func37, Tryz.ntmps37
  go_wp2_with fail
  go_loopw [5] (fun iv wr => ∃ i : Nat, iv = .int .i64 (i : Int) ∧ i ≤ n ∧ hasF (L.take i) y = false ∧ w = wr) (fun iv _ => n - (intOf iv).toNat)
  case atStart => exact ⟨0, rfl, by omega, rfl, rfl⟩
  case round =>
    obtain ⟨i, rfl, hin, hno, rfl⟩ := hrel
    have HNo := Lib.hid hno
    clear hno
    by_cases hlt : i < n
    · obtain ⟨x, ad, hx, rfl, _, hcx⟩ := HA.out.at_ HN.out hlt
      have HX := Lib.hid hx
      clear hx
      by_cases hxy : x = y
      · subst hxy
        have HY := Lib.hid (has_yes HX.out)
        go_wp2_with fail
        go_ret
        exact ⟨by rw [HY.out]; rfl, rfl⟩
      · have HT := Lib.hid (has_take HX.out HNo.out hxy)
        go_wp2_with fail
        go_roundw
        case rel => exact ⟨i + 1, by go_num, by omega, HT.out, by first | trivial | rfl⟩
        case measure => simp [intOf]; omega
    · obtain rfl : n = i := by omega
      have HE := Lib.hid (show hasF L y = false from by have h := HNo.out; rwa [List.take_of_length_le (by have := HN.out; omega)] at h)
      go_wp2_with fail
      go_ret
      exact ⟨by rw [HE.out]; rfl, rfl⟩
set_option maxRecDepth 100000 in
set_option maxHeartbeats 8000000 in
theorem rfails_any (u v : Value) (k : Kx) (seen st : List Int) (name : Int) (w : World) (hu : KyV w u k) (hv : InSl w w.heap.size v seen) (hk : KSm k) (hok : KOk st k) (hss : seen.length = st.length) (hl : 1 ≤ k.lv.length)
    (hs : ∀ (i : Nat) (x : Int), seen[i]? = some x → 0 ≤ x ∧ x ≤ 65535) :
    Calls Tryz.prog 31 #[u, v, .int .i64 name] w fun e w' => e = .returned (.bool (badF k seen name)) ∧ Below w.heap.size w w' := by
  obtain ⟨A1, c1, A2, c2, W0, rfl, hW0, hb0, hK, hN, hV, hX⟩ := ky_box hu
  have HB0 := Lib.hid hb0
  have HW0 := Lib.hid hW0
  have HX := Lib.hid hX
  have HV := Lib.hid hV
  have hv0 := hv.step hb0
  have HRe := Lib.hid (rreached_any _ v k seen st W0 (hK W0 (Below.refl _ _)) hv0 hk hok hss hl hs)
  have HLl := Lib.hid hk.2.2.2
  obtain ⟨Av, cv, rfl, _⟩ := hv0.form
  obtain ⟨f, hf⟩ : ∃ f, rchF k seen = f := ⟨_, rfl⟩
  obtain ⟨nl, hnl⟩ : ∃ n, k.lv.length = n := ⟨_, rfl⟩
  have hl2 : nl ≤ 2000 := by rw [← hnl]; exact hk.2.1
  have HYes := Lib.hid (fun (i : Nat) (L : List Int) (hi : k.lv[i]? = some L) (hr : f i = true) (hh : hasF L name = false) => show badF k seen name = true from bad_yes hi (by rw [hf]; exact hr) hh)
  have HNo := Lib.hid (fun (h : ∀ (i : Nat) (L : List Int), i < nl → k.lv[i]? = some L → f i = true → hasF L name = true) => show badF k seen name = false from bad_no (fun i L h1 h2 h3 => h i L (by omega) h2 (by rw [← hf]; exact h3)))
  obtain ⟨k0, k1⟩ := hX W0 (Below.refl _ _)
  rw [hnl] at HW0 HX HV HRe k1
  rw [hf] at HRe
  rw [hnl]
  obtain ⟨R, hR⟩ : ∃ R, badF k seen name = R := ⟨_, rfl⟩
  rw [hR] at HYes HNo ⊢
  generalize seen.length = ns at *
  generalize k.nd.length = nn at *
  clear hu hv hk hok hss hl hs hW0 hb0 hK hN hV hX hv0 hf hnl hR
  go_enter Tryz.func31, Tryz.ntmps31
  go_wp2_with fail
  rw [HW0.out]
  (try go_wp2_with fail)
  (with_reducible refine HRe.out.mono ?_)
  rintro e w1 ⟨⟨g, rfl, hI⟩, hb⟩
  have HB1 := Lib.hid hb
  have HI := Lib.hid hI
  clear k0 k1 hI hb HRe
  obtain ⟨k0, k1⟩ := HX.out w1 HB1.out
  go_wp2_with fail
  go_loopw [8] (fun iv wr => ∃ (i : Nat), iv = .int .i64 (i : Int) ∧ i ≤ nl ∧ Below w1.heap.size w1 wr ∧ (∀ (j : Nat) (L : List Int), j < i → k.lv[j]? = some L → f j = true → hasF L name = true)) (fun iv _ => nl - (intOf iv).toNat)
  case atStart => exact ⟨0, rfl, by omega, Below.refl _ _, fun j L h => by omega⟩
  case round =>
    obtain ⟨i, rfl, hin, hb, hall⟩ := hrel
    have HBi := Lib.hid hb
    have HAll := Lib.hid hall
    have HBw := Lib.hid (HB1.out.trans (hb.mono HB1.out.size))
    clear hb hall k0 k1
    obtain ⟨k0, k1⟩ := HX.out wr HBw.out
    by_cases hlt : i < nl
    · have hcb := (IwG.step HI.out HBi.out).cell hlt
      obtain ⟨b, hbb⟩ : ∃ b, f i = b := ⟨_, rfl⟩
      have HBb := Lib.hid hbb
      have hcb2 : wr.cell? ⟨g, i, none⟩ = some (.bool b) := by rw [← hbb]; exact hcb
      obtain ⟨ad, ul, L, rfl, _, hL, hc, hul⟩ := (HV.out wr HBw.out).at_ hlt
      obtain ⟨Au, cu, rfl, _⟩ := hul.form
      have HL := Lib.hid hL
      have HHs := Lib.hid (rhas_any _ name L wr hul (by have := HLl.out L (List.mem_of_getElem? hL); omega))
      generalize L.length = nL at *
      clear hbb hcb hL hul
      cases b with
      | false =>
        go_wp2_with fail
        go_roundw
        case rel => exact ⟨i + 1, by go_num, by omega, HBi.out, fun j M hj hM hr => by
          by_cases e : j = i
          · subst e; rw [HBb.out] at hr; cases hr
          · exact HAll.out j M (by omega) hM hr⟩
        case measure => simp [intOf]; omega
      | true =>
        obtain ⟨h2, hh2⟩ : ∃ h2, hasF L name = h2 := ⟨_, rfl⟩
        rw [hh2] at HHs
        have HH2 := Lib.hid hh2
        clear hh2
        go_wp2_with fail
        (with_reducible refine HHs.out.mono ?_)
        rintro e w5 ⟨rfl, rfl⟩
        clear k0 k1 hc hcb2 HHs
        cases h2 with
        | false =>
          have HF := Lib.hid (HYes.out i L HL.out HBb.out HH2.out)
          go_wp2_with fail
          go_ret
          exact ⟨by rw [HF.out]; rfl, HB0.out.trans (HBw.out.mono HB0.out.size)⟩
        | true =>
          go_wp2_with fail
          go_roundw
          case rel => exact ⟨i + 1, by go_num, by omega, HBi.out, fun j M hj hM hr => by
            by_cases e : j = i
            · subst e; rw [HL.out] at hM; injection hM with hM; subst hM; exact HH2.out
            · exact HAll.out j M (by omega) hM hr⟩
          case measure => simp [intOf]; omega
    · obtain rfl : nl = i := by omega
      have HF := Lib.hid (HNo.out HAll.out)
      go_wp2_with fail
      go_ret
      exact ⟨by rw [HF.out]; rfl, HB0.out.trans (HBw.out.mono HB0.out.size)⟩
end Go.Proofs.YthfegbcbpeedbaaGreatDoor
