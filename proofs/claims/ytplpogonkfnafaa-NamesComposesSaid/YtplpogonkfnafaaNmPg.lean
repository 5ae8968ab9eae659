/- NamesComposes: the walk. -/
import Derived.Test.YtplpogonkfnafaaNmPf
import Derived.Deep.DeepCutAuto
namespace Go.Proofs.Ytplpogonkfnafaa
open Go.RowKit Go.Nm

set_option maxRecDepth 100000 in
set_option maxHeartbeats 16000000 in
theorem NamesComposes_any (v vc : Value) (b : Bk) (aV aW aU : Int) (w : World) (hv : BkV w v b vc) :
    Calls Try.prog 8 #[v, .int .i64 aV, .int .i64 aW, .int .i64 aU] w fun e w' => e = .returned (.bool true) ∧ Below w.heap.size w w' := by
  obtain ⟨A1, c1, A2, c2, W0, rfl, rfl, hW0, hb0, hB0, hx⟩ := bk_box hv
  have HB0 := Lib.hid hb0
  have HBk0 := Lib.hid hB0
  have HX := Lib.hid hx
  have HW0 := Lib.hid hW0
  have HAw := Lib.hid (awake_any W0)
  clear hb0 hB0 hx hW0 hv
  go_enter Try.func8, Try.ntmps8
  go_wp2_with fail
  rw [HW0.out]
  (with_reducible refine HAw.out.mono ?_)
  rintro e Y1 ⟨rfl, hb⟩
  have HB1 := Lib.hid hb
  have HBk1 := Lib.hid (HBk0.out.step hb)
  have HSm := Lib.hid (small_any _ _ b Y1 HBk1.out)
  obtain ⟨k0, k1⟩ := HX.out Y1 hb
  clear hb HBk0 HAw
  go_wp2_with fail
  (with_reducible refine HSm.out.mono ?_)
  rintro e Y2 ⟨⟨r, rfl, hs⟩, hb⟩
  have HB2 := Lib.hid (HB1.out.trans (hb.mono HB1.out.size))
  have HBk2 := Lib.hid (HBk1.out.step hb)
  have HS := Lib.hid hs
  clear k0 k1 hb HSm HB1 HBk1 hs
  obtain ⟨k0, k1⟩ := HX.out Y2 HB2.out
  cases r with
  | false =>
    go_wp2_with fail
    go_ret
    exact ⟨rfl, HB0.out.trans (HB2.out.mono HB0.out.size)⟩
  | true =>
    have HS1 := Lib.hid (HS.out rfl)
    obtain ⟨⟨F, e1⟩, h1⟩ : ∃ o, stepsOut b aV aW = o := ⟨_, rfl⟩
    obtain ⟨⟨S, e2⟩, h2⟩ : ∃ o, stepsOut b aW aU = o := ⟨_, rfl⟩
    obtain ⟨⟨T, e3⟩, h3⟩ : ∃ o, stepsOut b aV aU = o := ⟨_, rfl⟩
    obtain ⟨⟨M, e4⟩, h4⟩ : ∃ o, namesOut b aW = o := ⟨_, rfl⟩
    have HD := Lib.hid (cp_data h1 h2 h3 h4)
    have HC1 := Lib.hid (fun Y (hb : Below Y2.heap.size Y2 Y) => Steps_any _ _ b aV aW Y (HBk2.out.step hb) HS1.out)
    have HC2 := Lib.hid (fun Y (hb : Below Y2.heap.size Y2 Y) => Steps_any _ _ b aW aU Y (HBk2.out.step hb) HS1.out)
    have HC3 := Lib.hid (fun Y (hb : Below Y2.heap.size Y2 Y) => Steps_any _ _ b aV aU Y (HBk2.out.step hb) HS1.out)
    have HC4 := Lib.hid (fun Y (hb : Below Y2.heap.size Y2 Y) => Names_any _ _ b aW Y (HBk2.out.step hb) HS1.out)
    simp only [h1] at HC1
    simp only [h2] at HC2
    simp only [h3] at HC3
    simp only [h4] at HC4
    have HX0 := Lib.hid (Below.refl Y2.heap.size Y2)
    clear h1 h2 h3 h4 HS HBk2
    have HCc := Lib.hid (HC1.out _ HX0.out)
    go_wp2_with fail
    (with_reducible refine HCc.out.mono ?_)
    rintro e Z1 ⟨⟨un1, rfl, hn⟩, hb⟩
    obtain ⟨An1, cn1, rfl⟩ := hn.form
    have HN1 := Lib.hid hn
    clear hn
    have HX1 := Lib.hid (HX0.out.trans (hb.mono HX0.out.size))
    clear k0 k1 hb HCc HC1
    obtain ⟨k0, k1⟩ := HX.out Z1 (HB2.out.trans (HX1.out.mono HB2.out.size))
    have HCc := Lib.hid (HC2.out _ HX1.out)
    go_wp2_with fail
    (with_reducible refine HCc.out.mono ?_)
    rintro e Z2 ⟨⟨un2, rfl, hn⟩, hb⟩
    obtain ⟨An2, cn2, rfl⟩ := hn.form
    have HN2 := Lib.hid hn
    clear hn
    have HX2 := Lib.hid (HX1.out.trans (hb.mono HX1.out.size))
    have HN1 := Lib.hid ((HN1.out.below hb).mono hb.size)
    clear k0 k1 hb HCc HC2
    obtain ⟨k0, k1⟩ := HX.out Z2 (HB2.out.trans (HX2.out.mono HB2.out.size))
    have HCc := Lib.hid (HC3.out _ HX2.out)
    go_wp2_with fail
    (with_reducible refine HCc.out.mono ?_)
    rintro e Z3 ⟨⟨un3, rfl, hn⟩, hb⟩
    obtain ⟨An3, cn3, rfl⟩ := hn.form
    have HN3 := Lib.hid hn
    clear hn
    have HX3 := Lib.hid (HX2.out.trans (hb.mono HX2.out.size))
    have HN1 := Lib.hid ((HN1.out.below hb).mono hb.size)
    have HN2 := Lib.hid ((HN2.out.below hb).mono hb.size)
    clear k0 k1 hb HCc HC3
    obtain ⟨k0, k1⟩ := HX.out Z3 (HB2.out.trans (HX3.out.mono HB2.out.size))
    have HCc := Lib.hid (HC4.out _ HX3.out)
    go_wp2_with fail
    (with_reducible refine HCc.out.mono ?_)
    rintro e Z4 ⟨⟨un4, rfl, hn⟩, hb⟩
    obtain ⟨An4, cn4, rfl, _⟩ := hn.form
    have HN4 := Lib.hid hn
    clear hn
    have HX4 := Lib.hid (HX3.out.trans (hb.mono HX3.out.size))
    have HN1 := Lib.hid ((HN1.out.below hb).mono hb.size)
    have HN2 := Lib.hid ((HN2.out.below hb).mono hb.size)
    have HN3 := Lib.hid ((HN3.out.below hb).mono hb.size)
    clear k0 k1 hb HCc HC4
    obtain ⟨k0, k1⟩ := HX.out Z4 (HB2.out.trans (HX4.out.mono HB2.out.size))
    have HBe := Lib.hid (HB0.out.trans ((HB2.out.trans (HX4.out.mono HB2.out.size)).mono HB0.out.size))
    by_cases he1 : e1 = 0
    case neg =>
      have hq1 : (e1 != 0) = true := by simpa using he1
      clear HD he1
      go_wp2_with fail
      go_ret
      exact ⟨by simp, HBe.out⟩
    case pos =>
    by_cases he2 : e2 = 0
    case neg =>
      have hq1 : (e1 != 0) = false := by simpa using he1
      have hq2 : (e2 != 0) = true := by simpa using he2
      clear HD he1 he2
      go_wp2_with fail
      go_ret
      exact ⟨by simp, HBe.out⟩
    case pos =>
    by_cases he3 : e3 = 0
    case neg =>
      have hq1 : (e1 != 0) = false := by simpa using he1
      have hq2 : (e2 != 0) = false := by simpa using he2
      have hq3 : (e3 != 0) = true := by simpa using he3
      clear HD he1 he2 he3
      go_wp2_with fail
      go_ret
      exact ⟨by simp, HBe.out⟩
    case pos =>
    obtain ⟨rfl, hD⟩ := HD.out he1 he2 he3
    subst he1 he2 he3
    have HD2 := Lib.hid hD
    have HCo := Lib.hid (Compose_any _ _ _ F S M Z4 HN1.out HN2.out HN4.out (by have := hD.len; have := hD.nt; omega) (by have := hD.ns; omega) (by have := hD.nm; omega) (fun l hl => Nat.le_trans (hD.lf l hl) (by omega)) (fun l hl => Nat.le_trans (hD.ls l hl) (by omega)))
    clear hD HD k0 k1
    go_wp2_with fail
    (with_reducible refine HCo.out.mono ?_)
    rintro e Z5 h
    rcases h with ⟨_, R, hR, ⟨ur, rfl, hr⟩, hb⟩ | ⟨h, _⟩
    case inr => exact absurd HD2.out.ok h
    case inl =>
    obtain ⟨Ar, cr, rfl⟩ := hr.form
    have HR := Lib.hid hR
    have HBf := Lib.hid (HBe.out.trans (hb.mono HBe.out.size))
    have HNr := Lib.hid hr
    have HN3 := Lib.hid ((HN3.out.below hb).mono hb.size)
    obtain ⟨nt, hnt⟩ : ∃ nt, T.length = nt := ⟨_, rfl⟩
    have hrl : R.length = nt := by rw [hR.1, HD2.out.len, hnt]
    have HNt := Lib.hid (And.intro hnt hrl)
    have hnt4 : nt ≤ 400 := by have := HD2.out.nt; omega
    rw [hnt] at HN3 ⊢
    rw [hrl] at HNr ⊢
    have hqn : ((nt : Int) != (nt : Int)) = false := by simp
    clear hR hr hb hnt hrl HCo HN1 HN2 HN4
    go_upto_region 13 with fail
    go_cut [102] (fun s wx => s = .bool (decide (aV ≤ aW ∧ aW ≤ aU ∨ aW ≤ aV ∧ aU ≤ aW)) ∧ wx = Z5)
    case first =>
      clear hqn
      by_cases a1 : aV ≤ aW
      · by_cases a2 : aW ≤ aU
        · go_wp2_with fail
          go_meet
          first | exact ⟨congrArg Value.bool (decide_eq_true (by omega)).symm, rfl⟩ | exact ⟨congrArg Value.bool (decide_eq_false (by omega)).symm, rfl⟩
        · by_cases a3 : aW ≤ aV
          · by_cases a4 : aU ≤ aW
            · go_wp2_with fail
              go_meet
              first | exact ⟨congrArg Value.bool (decide_eq_true (by omega)).symm, rfl⟩ | exact ⟨congrArg Value.bool (decide_eq_false (by omega)).symm, rfl⟩
            · go_wp2_with fail
              go_meet
              first | exact ⟨congrArg Value.bool (decide_eq_true (by omega)).symm, rfl⟩ | exact ⟨congrArg Value.bool (decide_eq_false (by omega)).symm, rfl⟩
          · go_wp2_with fail
            go_meet
            first | exact ⟨congrArg Value.bool (decide_eq_true (by omega)).symm, rfl⟩ | exact ⟨congrArg Value.bool (decide_eq_false (by omega)).symm, rfl⟩
      · by_cases a3 : aW ≤ aV
        · by_cases a4 : aU ≤ aW
          · go_wp2_with fail
            go_meet
            first | exact ⟨congrArg Value.bool (decide_eq_true (by omega)).symm, rfl⟩ | exact ⟨congrArg Value.bool (decide_eq_false (by omega)).symm, rfl⟩
          · go_wp2_with fail
            go_meet
            first | exact ⟨congrArg Value.bool (decide_eq_true (by omega)).symm, rfl⟩ | exact ⟨congrArg Value.bool (decide_eq_false (by omega)).symm, rfl⟩
        · go_wp2_with fail
          go_meet
          first | exact ⟨congrArg Value.bool (decide_eq_true (by omega)).symm, rfl⟩ | exact ⟨congrArg Value.bool (decide_eq_false (by omega)).symm, rfl⟩
    case rest =>
      obtain ⟨rfl, rfl⟩ := hcut
      by_cases hd : aV ≤ aW ∧ aW ≤ aU ∨ aW ≤ aV ∧ aU ≤ aW
      case pos =>
        obtain rfl := HD2.out.same R HR.out hd
        have HL := Lib.hid (SameLists_any _ _ R R wc (by have h := HNr.out; rwa [← HNt.out.2] at h) (by have h := HN3.out; rwa [← HNt.out.2] at h) (by have := HNt.out.2; omega) (fun l hl => Nat.le_trans (HD2.out.lt l hl) (by omega)) (fun l hl => Nat.le_trans (HD2.out.lt l hl) (by omega)))
        rw [decide_eq_true rfl, HNt.out.2] at HL
        rw [decide_eq_true hd]
        clear hd
        go_wp2_with fail
        (with_reducible refine HL.out.mono ?_)
        rintro e Z6 ⟨rfl, hb⟩
        have HBg := Lib.hid (HBf.out.trans (hb.mono HBf.out.size))
        clear hb
        go_wp2_with fail
        go_ret
        exact ⟨by simp, HBg.out⟩
      case neg =>
        rw [decide_eq_false hd]
        clear hd
        obtain ⟨Zc, hZc⟩ : ∃ Zc, Zc = wc := ⟨_, rfl⟩
        subst hZc
        go_wp2_with fail
        go_loopw [20] (fun iv wr => ∃ i : Nat, iv = .int .i64 (i : Int) ∧ i ≤ nt ∧ Below Zc.heap.size Zc wr) (fun iv _ => nt - (intOf iv).toNat)
        case atStart => exact ⟨0, rfl, by omega, Below.refl _ _⟩
        case round =>
          obtain ⟨i, rfl, hin, hb⟩ := hrel
          have HBr := Lib.hid hb
          clear hb
          by_cases hlt : i < nt
          · obtain ⟨adt, ut, t, rfl, hbt, ht, hct0, hts⟩ := HN3.out.at_ hlt
            obtain ⟨adr, uq, r, rfl, hbq, hr, hcr0, hrs⟩ := HNr.out.at_ hlt
            obtain ⟨At, ct, rfl, _⟩ := hts.form
            obtain ⟨Aq, cq, rfl, _⟩ := hrs.form
            have HRd := Lib.hid (fun Y (h : Below Zc.heap.size Zc Y) => And.intro ((h.cell (p := adt.add i) (by rw [add_block]; exact hbt)).trans hct0) ((h.cell (p := adr.add i) (by rw [add_block]; exact hbq)).trans hcr0))
            have HTs := Lib.hid (show InA Zc Zc.heap.size At t from by obtain ⟨_, _, e, _, _, h⟩ := hts; cases e; exact h)
            have HRs := Lib.hid hrs
            have HSu := Lib.hid (HD2.out.sub R HR.out i r t hr ht)
            have HLr := Lib.hid (HD2.out.lr R HR.out r (List.mem_of_getElem? hr))
            obtain ⟨lt, hlt'⟩ : ∃ lt, t.length = lt := ⟨_, rfl⟩
            have HLt := Lib.hid hlt'
            have hlt4 : lt ≤ 400 := by have := HD2.out.lt t (List.mem_of_getElem? ht); omega
            rw [hlt'] at HRd
            obtain ⟨c0, c1⟩ := HRd.out wr HBr.out
            clear hbt ht hct0 hts hbq hr hcr0 hrs hlt'
            go_wp2_with fail
            clear c0 c1
            go_loopw [21] (fun kv wq => ∃ k : Nat, kv = .int .i64 (k : Int) ∧ k ≤ lt ∧ Below Zc.heap.size Zc wq) (fun kv _ => lt - (intOf kv).toNat)
            case atStart => exact ⟨0, rfl, by omega, HBr.out⟩
            case round =>
              obtain ⟨k, rfl, hkn, hb⟩ := hrel
              have HBk := Lib.hid hb
              clear hb
              obtain ⟨c0, c1⟩ := HRd.out wr HBk.out
              by_cases hkt : k < lt
              · obtain ⟨y, ady, hy, rfl, hby, hcy0⟩ := HTs.out.at_ HLt.out hkt
                have hcy := (HBk.out.cell (p := ady.add k) (by rw [add_block]; exact hby)).trans hcy0
                have HHo := Lib.hid (holds_any _ r y wr.drew ((HRs.out.step HBk.out).step (Below.refl _ _).drew) (by have := HLr.out; omega))
                rw [decide_eq_true (HSu.out y (List.mem_of_getElem? hy))] at HHo
                clear hby hcy0 hy
                go_wp2_with fail
                refine wp_region_tail 11 (by kernel_rfl) (by kernel_rfl) ?_
                simp only [List.take_succ_cons, List.take_zero, List.drop_succ_cons, List.drop_zero]
                iterate 11 ((with_reducible refine wpStill_step ?_); intro K hK; go_simp; (try (refine ite_neg_of (by simp [undef] <;> assumption) ?_)); (with_reducible refine hK _ ?_); clear hK K)
                (with_reducible refine wpStill_nil ?_)
                go_wp2_with fail
                (with_reducible refine HHo.out.mono ?_)
                rintro e YH ⟨rfl, hb⟩
                have HBH := Lib.hid (HBk.out.trans ((show Below wr.heap.size wr YH from (Below.refl _ _).drew.trans hb).mono HBk.out.size))
                clear hb HHo c0 c1 hcy
                go_wp2_with fail
                go_roundw
                case rel => exact ⟨k + 1, by go_num, by omega, HBH.out⟩
                case measure => simp [intOf]; omega
              · go_wp2_with fail
                go_roundw
                case rel => exact ⟨i + 1, by go_num, by omega, HBk.out⟩
                case measure => simp [intOf]; omega
          · go_wp2_with fail
            go_ret
            exact ⟨by simp, HBf.out.trans (HBr.out.mono HBf.out.size)⟩
end Go.Proofs.Ytplpogonkfnafaa
