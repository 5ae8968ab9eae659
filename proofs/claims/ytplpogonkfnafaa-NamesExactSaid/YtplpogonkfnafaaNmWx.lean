/- NamesExact: the walk. -/
import Derived.Test.YtplpogonkfnafaaNmWr
import Derived.Test.YtplpogonkfnafaaNmXd
import Derived.Test.YtplpogonkfnafaaNmE
namespace Go.Proofs.Ytplpogonkfnafaa
open Go.RowKit Go.Nm

theorem minF (a c : Int) : (if c < a then c else a) = min a c := by split <;> omega
theorem maxF (a c : Int) : (if a < c then c else a) = max a c := by split <;> omega
theorem maxG (a c : Int) : (if c < a then a else c) = max a c := by split <;> omega
set_option maxRecDepth 100000 in
set_option maxHeartbeats 16000000 in
theorem NamesExact_any (v vc u : Value) (b : Bk) (aV aW aX aY aR : Int) (L : List Int) (w : World) (hv : BkV w v b vc) (hu : InSl w w.heap.size u L) :
    Calls Try.prog 11 #[v, .agg #[.int .i64 aV, .int .i64 aW, .int .i64 aX, .int .i64 aY, .int .i64 aR, u]] w fun e w' => e = .returned (.bool true) ∧ Below w.heap.size w w' := by
  have hv0 := hv
  obtain ⟨v1, rfl, h1, h2⟩ := hv
  obtain ⟨A1, c1, rfl, _⟩ := h1.form
  obtain ⟨A2, c2, rfl⟩ := h2.form
  obtain ⟨Au, cu, rfl, _⟩ := hu.form
  obtain ⟨W0, hW0⟩ : ∃ W0, (w.alloc (.cells #[.slice A1 b.first.length c1, .slice A2 b.chs.length c2] 25)).alloc (.cells #[.int .i64 aV, .int .i64 aW, .int .i64 aX, .int .i64 aY, .int .i64 aR, .slice Au L.length cu] 27) = W0 := ⟨_, rfl⟩
  obtain ⟨hb0, hcs⟩ := args_cells w _ _ _ _ _ _ _ _ W0 hW0
  have HCs := Lib.hid hcs
  have HB0 := Lib.hid hb0
  have HBk0 := Lib.hid (hv0.step hb0)
  have HAw := Lib.hid (awake_any W0)
  clear hv0 h1 h2 hu hb0 hcs
  go_enter Try.func11, Try.ntmps11
  go_wp2_with fail
  (with_reducible refine HAw.out.mono ?_)
  rintro e Y1 ⟨rfl, hb⟩
  have HB1 := Lib.hid hb
  have HBk1 := Lib.hid (HBk0.out.step hb)
  have HSm := Lib.hid (small_any _ _ b Y1 HBk1.out)
  obtain ⟨⟨k0, k1⟩, q0, q1, q2, q3, q4, q5⟩ := HCs.out Y1 hb
  clear hb HBk0 HAw
  go_wp2_with fail
  (with_reducible refine HSm.out.mono ?_)
  rintro e Y2 ⟨⟨r, rfl, hs⟩, hb⟩
  have HB2 := Lib.hid (HB1.out.trans (hb.mono HB1.out.size))
  have HBk2 := Lib.hid (HBk1.out.step hb)
  have HS := Lib.hid hs
  clear k0 k1 q0 q1 q2 q3 q4 q5 hb HSm HB1 HBk1 hs
  obtain ⟨⟨k0, k1⟩, q0, q1, q2, q3, q4, q5⟩ := HCs.out Y2 HB2.out
  cases r with
  | false =>
    go_wp2_with fail
    go_ret
    exact ⟨rfl, HB0.out.trans (HB2.out.mono HB0.out.size)⟩
  | true =>
    have HR1 := Lib.hid (Exact_any _ _ b aV aX aW Y2 HBk2.out (HS.out rfl))
    have HR2 := Lib.hid (fun Y (hb : Below Y2.heap.size Y2 Y) => Chain_any _ _ b aV aX Y (HBk2.out.step hb) (HS.out rfl))
    have HRl := Lib.hid (fun y Y (hb : Below Y2.heap.size Y2 Y) => Relate_any _ _ b aV aX aW y Y (HBk2.out.step hb) (HS.out rfl))
    have HEx := Lib.hid (fun n x m Y (hb : Below Y2.heap.size Y2 Y) => Exact_any _ _ b n x m Y (HBk2.out.step hb) (HS.out rfl))
    obtain ⟨⟨y, e1⟩, h1⟩ : ∃ o, exOut b aV aX aW = o := ⟨_, rfl⟩
    obtain ⟨⟨C, e2⟩, h2⟩ : ∃ o, chainOut b aV aX = o := ⟨_, rfl⟩
    have HD := Lib.hid (fun he => ex_data h1 h2 he)
    rw [h1] at HR1
    rw [h2] at HR2
    clear h1 h2
    go_wp2_with fail
    (with_reducible refine HR1.out.mono ?_)
    rintro e Y3 ⟨rfl, hb⟩
    have HB3 := Lib.hid (And.intro hb (HB2.out.trans (hb.mono HB2.out.size)))
    clear k0 k1 q0 q1 q2 q3 q4 q5 hb HR1
    obtain ⟨⟨k0, k1⟩, q0, q1, q2, q3, q4, q5⟩ := HCs.out Y3 HB3.out.2
    have HR2 := Lib.hid (HR2.out Y3 HB3.out.1)
    go_wp2_with fail
    (with_reducible refine HR2.out.mono ?_)
    rintro e Y4 ⟨⟨uc, rfl, hc⟩, hb⟩
    have HB4 := Lib.hid (And.intro (HB3.out.1.trans (hb.mono HB3.out.1.size)) (HB3.out.2.trans (hb.mono HB3.out.2.size)))
    obtain ⟨Ac, cc, rfl, _⟩ := hc.form
    have HIn := Lib.hid (show InA Y4 Y4.heap.size Ac C from by obtain ⟨_, _, e, _, _, h⟩ := hc; cases e; exact h)
    clear k0 k1 q0 q1 q2 q3 q4 q5 hb HR2 HB3 hc
    obtain ⟨⟨k0, k1⟩, q0, q1, q2, q3, q4, q5⟩ := HCs.out Y4 HB4.out.2
    have HBe := Lib.hid (HB0.out.trans (HB4.out.2.mono HB0.out.size))
    by_cases he : e1 = 0 ∨ e1 = 3
    case neg =>
      have hn0 : e1 ≠ 0 := fun h => he (.inl h)
      have hn3 : e1 ≠ 3 := fun h => he (.inr h)
      have hB0 : (e1 != 0) = true := by simpa using hn0
      have hB3 : (e1 != 3) = true := by simpa using hn3
      clear he hn0 hn3
      go_wp2_with fail
      go_ret
      exact ⟨rfl, HBe.out⟩
    case pos =>
      obtain ⟨rfl, hlen, hst, hok⟩ := HD.out he
      have HSt := Lib.hid hst
      have HOk := Lib.hid hok
      have HE := Lib.hid he
      clear HD hst hok he
      obtain ⟨nc, hnc⟩ : ∃ nc, C.length = nc := ⟨_, rfl⟩
      rw [hnc] at hlen ⊢
      have HNc := Lib.hid hnc
      clear hnc
      obtain ⟨q, hq⟩ : ∃ q, stillB aV aW C = q := ⟨_, rfl⟩
      rw [hq] at HSt
      have HQ := Lib.hid hq
      clear hq
      rcases HE.out with rfl | rfl
      · go_wp2_with fail
        go_loopw [10, 11] (fun sv iv wr => ∃ k : Nat, iv = .int .i64 (k : Int) ∧ k ≤ nc ∧ sv = .bool (stillB aV aW (C.take k)) ∧ Below Y4.heap.size Y4 wr) (fun _ iv _ => nc - (intOf iv).toNat)
        case atStart => exact ⟨0, rfl, by omega, by simp [stillB], Below.refl _ _⟩
        case round =>
          obtain ⟨k, rfl, hkn, rfl, hbr⟩ := hrel
          have HBr := Lib.hid hbr
          clear k0 k1 q0 q1 q2 q3 q4 q5
          obtain ⟨⟨k0, k1⟩, q0, q1, q2, q3, q4, q5⟩ := HCs.out wr (HB4.out.2.trans (hbr.mono HB4.out.2.size))
          clear hbr
          by_cases hlt : k < nc
          · obtain ⟨x, ad, hx, rfl, hadb, hcx⟩ := ((HIn.out.below HBr.out).mono HBr.out.size).at_ HNc.out hlt
            have HNx := Lib.hid (stillB_next (V := aV) (W := aW) hx)
            clear hx hadb
            obtain ⟨st, hst⟩ : ∃ st, stillB aV aW (C.take k) = st := ⟨_, rfl⟩
            rw [hst] at HNx ⊢
            clear hst
            by_cases hb1 : min aV aW ≤ x
            · have hm1 : (if aW < aV then aW else aV) ≤ x := by rw [minF]; exact hb1
              have hm2 : ¬ x < (if aW < aV then aW else aV) := by rw [minF]; omega
              by_cases hb2 : x < max aV aW
              · have hx1 : x < (if aV < aW then aW else aV) := by rw [maxF]; exact hb2
                have hx2 : x < (if aW < aV then aV else aW) := by rw [maxG]; exact hb2
                have HE2 := Lib.hid (show stillB aV aW (C.take (k + 1)) = false from by rw [HNx.out, show betw aV aW x = true from by unfold betw; simp only [Bool.and_eq_true, decide_eq_true_eq]; exact ⟨hb1, hb2⟩]; simp)
                go_wp2_with fail
                refine wp_region_still_lit (by kernel_rfl) (by kernel_rfl) ?_
                iterate 22 ((with_reducible refine wpStill_step ?_); intro K hK; go_simp; (try (refine ite_neg_of (by simp [undef] <;> assumption) ?_)); (with_reducible refine hK _ ?_); clear hK K)
                (with_reducible refine wpStill_nil ?_)
                go_wp2_with fail
                go_roundw
                case rel => exact ⟨k + 1, by go_num, by omega, by rw [HE2.out], HBr.out.drew⟩
                case measure => simp [intOf]; omega
              · have hx1 : ¬ x < (if aV < aW then aW else aV) := by rw [maxF]; exact hb2
                have hx2 : ¬ x < (if aW < aV then aV else aW) := by rw [maxG]; exact hb2
                have HE2 := Lib.hid (show stillB aV aW (C.take (k + 1)) = st from by rw [HNx.out, show betw aV aW x = false from by unfold betw; simp only [Bool.and_eq_false_iff, decide_eq_false_iff_not]; exact .inr hb2]; simp)
                go_wp2_with fail
                refine wp_region_still_lit (by kernel_rfl) (by kernel_rfl) ?_
                iterate 22 ((with_reducible refine wpStill_step ?_); intro K hK; go_simp; (try (refine ite_neg_of (by simp [undef] <;> assumption) ?_)); (with_reducible refine hK _ ?_); clear hK K)
                (with_reducible refine wpStill_nil ?_)
                go_wp2_with fail
                go_roundw
                case rel => exact ⟨k + 1, by go_num, by omega, by rw [HE2.out], HBr.out.drew⟩
                case measure => simp [intOf]; omega
            · have hm1 : ¬ (if aW < aV then aW else aV) ≤ x := by rw [minF]; exact hb1
              have hm2 : x < (if aW < aV then aW else aV) := by rw [minF]; omega
              have HE2 := Lib.hid (show stillB aV aW (C.take (k + 1)) = st from by rw [HNx.out, show betw aV aW x = false from by unfold betw; simp only [Bool.and_eq_false_iff, decide_eq_false_iff_not]; exact .inl hb1]; simp)
              clear hb1
              go_wp2_with fail
              refine wp_region_still_lit (by kernel_rfl) (by kernel_rfl) ?_
              iterate 22 ((with_reducible refine wpStill_step ?_); intro K hK; go_simp; (try (refine ite_neg_of (by simp <;> assumption) ?_)); (with_reducible refine hK _ ?_); clear hK K)
              (with_reducible refine wpStill_nil ?_)
              go_wp2_with fail
              all_goals go_roundw
              all_goals first
                | exact ⟨k + 1, by go_num, by omega, by rw [HE2.out], HBr.out.drew⟩
                | (simp [intOf]; omega)
          · have hk : k = nc := by omega
            subst hk
            rw [List.take_of_length_le (by have := HNc.out; omega), HQ.out]
            have HBr2 := Lib.hid (HB4.out.1.trans (HBr.out.mono HB4.out.1.size))
            have HBf := Lib.hid (HBe.out.trans (HBr.out.mono HBe.out.size))
            have HBg := Lib.hid (HB4.out.2.trans (HBr.out.mono HB4.out.2.size))
            clear hkn hlt HIn HNc HQ HBr HB4 HBe
            obtain ⟨hrl, hx1, hx2⟩ := HOk.out (by first | trivial | rfl)
            have HRl := Lib.hid (HRl.out y wr HBr2.out)
            rw [hrl] at HRl
            have HX1 := Lib.hid (fun Y (hb : Below Y2.heap.size Y2 Y) => HEx.out aW y aV Y hb)
            rw [hx1] at HX1
            have HX2 := Lib.hid (fun Y (hb : Below Y2.heap.size Y2 Y) => HEx.out aW y 0 Y hb)
            rw [hx2] at HX2
            have HX3 := Lib.hid (fun Y (hb : Below Y2.heap.size Y2 Y) => HEx.out aV aX 0 Y hb)
            clear hrl hx1 hx2 HEx HOk
            generalize exOut b aV aX 0 = o at *
            obtain ⟨zz, ez⟩ := o
            have hyx : q = false ∨ (q = true ∧ y = aX) := by
              cases q with
              | false => exact .inl rfl
              | true => exact .inr ⟨rfl, (HSt.out (by first | trivial | rfl)).2⟩
            clear HSt
            rcases hyx with rfl | ⟨rfl, rfl⟩
            · go_wp2_with fail
              (with_reducible refine HRl.out.mono ?_)
              rintro e Y6 ⟨rfl, hb⟩
              have HC6 := Lib.hid (And.intro (HBr2.out.trans (hb.mono HBr2.out.size)) (And.intro (HBg.out.trans (hb.mono HBg.out.size)) (HBf.out.trans (hb.mono HBf.out.size))))
              clear k0 k1 q0 q1 q2 q3 q4 q5 HRl hb HBr2 HBg HBf
              obtain ⟨⟨k0, k1⟩, q0, q1, q2, q3, q4, q5⟩ := HCs.out Y6 HC6.out.2.1
              have HX1 := Lib.hid (HX1.out Y6 HC6.out.1)
              go_wp2_with fail
              (with_reducible refine HX1.out.mono ?_)
              rintro e Y7 ⟨rfl, hb⟩
              have HC7 := Lib.hid (And.intro (HC6.out.1.trans (hb.mono HC6.out.1.size)) (And.intro (HC6.out.2.1.trans (hb.mono HC6.out.2.1.size)) (HC6.out.2.2.trans (hb.mono HC6.out.2.2.size))))
              clear k0 k1 q0 q1 q2 q3 q4 q5 HX1 hb HC6
              obtain ⟨⟨k0, k1⟩, q0, q1, q2, q3, q4, q5⟩ := HCs.out Y7 HC7.out.2.1
              have HX2 := Lib.hid (HX2.out Y7 HC7.out.1)
              go_wp2_with fail
              (with_reducible refine HX2.out.mono ?_)
              rintro e Y8 ⟨rfl, hb⟩
              have HC8 := Lib.hid (And.intro (HC7.out.1.trans (hb.mono HC7.out.1.size)) (And.intro (HC7.out.2.1.trans (hb.mono HC7.out.2.1.size)) (HC7.out.2.2.trans (hb.mono HC7.out.2.2.size))))
              clear k0 k1 q0 q1 q2 q3 q4 q5 HX2 hb HC7
              obtain ⟨⟨k0, k1⟩, q0, q1, q2, q3, q4, q5⟩ := HCs.out Y8 HC8.out.2.1
              have HX3 := Lib.hid (HX3.out Y8 HC8.out.1)
              go_wp2_with fail
              (with_reducible refine HX3.out.mono ?_)
              rintro e Y9 ⟨rfl, hb⟩
              have HC9 := Lib.hid (HC8.out.2.2.trans (hb.mono HC8.out.2.2.size))
              clear hb HC8
              dsimp only
              go_wp2_with fail
              go_ret
              exact ⟨rfl, HC9.out⟩
            · go_wp2_with fail
              (with_reducible refine HRl.out.mono ?_)
              rintro e Y6 ⟨rfl, hb⟩
              have HC6 := Lib.hid (And.intro (HBr2.out.trans (hb.mono HBr2.out.size)) (And.intro (HBg.out.trans (hb.mono HBg.out.size)) (HBf.out.trans (hb.mono HBf.out.size))))
              clear k0 k1 q0 q1 q2 q3 q4 q5 HRl hb HBr2 HBg HBf
              obtain ⟨⟨k0, k1⟩, q0, q1, q2, q3, q4, q5⟩ := HCs.out Y6 HC6.out.2.1
              have HX1 := Lib.hid (HX1.out Y6 HC6.out.1)
              go_wp2_with fail
              (with_reducible refine HX1.out.mono ?_)
              rintro e Y7 ⟨rfl, hb⟩
              have HC7 := Lib.hid (And.intro (HC6.out.1.trans (hb.mono HC6.out.1.size)) (And.intro (HC6.out.2.1.trans (hb.mono HC6.out.2.1.size)) (HC6.out.2.2.trans (hb.mono HC6.out.2.2.size))))
              clear k0 k1 q0 q1 q2 q3 q4 q5 HX1 hb HC6
              obtain ⟨⟨k0, k1⟩, q0, q1, q2, q3, q4, q5⟩ := HCs.out Y7 HC7.out.2.1
              have HX2 := Lib.hid (HX2.out Y7 HC7.out.1)
              go_wp2_with fail
              (with_reducible refine HX2.out.mono ?_)
              rintro e Y8 ⟨rfl, hb⟩
              have HC8 := Lib.hid (And.intro (HC7.out.1.trans (hb.mono HC7.out.1.size)) (And.intro (HC7.out.2.1.trans (hb.mono HC7.out.2.1.size)) (HC7.out.2.2.trans (hb.mono HC7.out.2.2.size))))
              clear k0 k1 q0 q1 q2 q3 q4 q5 HX2 hb HC7
              obtain ⟨⟨k0, k1⟩, q0, q1, q2, q3, q4, q5⟩ := HCs.out Y8 HC8.out.2.1
              have HX3 := Lib.hid (HX3.out Y8 HC8.out.1)
              go_wp2_with fail
              (with_reducible refine HX3.out.mono ?_)
              rintro e Y9 ⟨rfl, hb⟩
              have HC9 := Lib.hid (HC8.out.2.2.trans (hb.mono HC8.out.2.2.size))
              clear hb HC8
              dsimp only
              go_wp2_with fail
              go_ret
              exact ⟨rfl, HC9.out⟩
      · go_wp2_with fail
        go_loopw [10, 11] (fun sv iv wr => ∃ k : Nat, iv = .int .i64 (k : Int) ∧ k ≤ nc ∧ sv = .bool (stillB aV aW (C.take k)) ∧ Below Y4.heap.size Y4 wr) (fun _ iv _ => nc - (intOf iv).toNat)
        case atStart => exact ⟨0, rfl, by omega, by simp [stillB], Below.refl _ _⟩
        case round =>
          obtain ⟨k, rfl, hkn, rfl, hbr⟩ := hrel
          have HBr := Lib.hid hbr
          clear k0 k1 q0 q1 q2 q3 q4 q5
          obtain ⟨⟨k0, k1⟩, q0, q1, q2, q3, q4, q5⟩ := HCs.out wr (HB4.out.2.trans (hbr.mono HB4.out.2.size))
          clear hbr
          by_cases hlt : k < nc
          · obtain ⟨x, ad, hx, rfl, hadb, hcx⟩ := ((HIn.out.below HBr.out).mono HBr.out.size).at_ HNc.out hlt
            have HNx := Lib.hid (stillB_next (V := aV) (W := aW) hx)
            clear hx hadb
            obtain ⟨st, hst⟩ : ∃ st, stillB aV aW (C.take k) = st := ⟨_, rfl⟩
            rw [hst] at HNx ⊢
            clear hst
            by_cases hb1 : min aV aW ≤ x
            · have hm1 : (if aW < aV then aW else aV) ≤ x := by rw [minF]; exact hb1
              have hm2 : ¬ x < (if aW < aV then aW else aV) := by rw [minF]; omega
              by_cases hb2 : x < max aV aW
              · have hx1 : x < (if aV < aW then aW else aV) := by rw [maxF]; exact hb2
                have hx2 : x < (if aW < aV then aV else aW) := by rw [maxG]; exact hb2
                have HE2 := Lib.hid (show stillB aV aW (C.take (k + 1)) = false from by rw [HNx.out, show betw aV aW x = true from by unfold betw; simp only [Bool.and_eq_true, decide_eq_true_eq]; exact ⟨hb1, hb2⟩]; simp)
                go_wp2_with fail
                refine wp_region_still_lit (by kernel_rfl) (by kernel_rfl) ?_
                iterate 22 ((with_reducible refine wpStill_step ?_); intro K hK; go_simp; (try (refine ite_neg_of (by simp [undef] <;> assumption) ?_)); (with_reducible refine hK _ ?_); clear hK K)
                (with_reducible refine wpStill_nil ?_)
                go_wp2_with fail
                go_roundw
                case rel => exact ⟨k + 1, by go_num, by omega, by rw [HE2.out], HBr.out.drew⟩
                case measure => simp [intOf]; omega
              · have hx1 : ¬ x < (if aV < aW then aW else aV) := by rw [maxF]; exact hb2
                have hx2 : ¬ x < (if aW < aV then aV else aW) := by rw [maxG]; exact hb2
                have HE2 := Lib.hid (show stillB aV aW (C.take (k + 1)) = st from by rw [HNx.out, show betw aV aW x = false from by unfold betw; simp only [Bool.and_eq_false_iff, decide_eq_false_iff_not]; exact .inr hb2]; simp)
                go_wp2_with fail
                refine wp_region_still_lit (by kernel_rfl) (by kernel_rfl) ?_
                iterate 22 ((with_reducible refine wpStill_step ?_); intro K hK; go_simp; (try (refine ite_neg_of (by simp [undef] <;> assumption) ?_)); (with_reducible refine hK _ ?_); clear hK K)
                (with_reducible refine wpStill_nil ?_)
                go_wp2_with fail
                go_roundw
                case rel => exact ⟨k + 1, by go_num, by omega, by rw [HE2.out], HBr.out.drew⟩
                case measure => simp [intOf]; omega
            · have hm1 : ¬ (if aW < aV then aW else aV) ≤ x := by rw [minF]; exact hb1
              have hm2 : x < (if aW < aV then aW else aV) := by rw [minF]; omega
              have HE2 := Lib.hid (show stillB aV aW (C.take (k + 1)) = st from by rw [HNx.out, show betw aV aW x = false from by unfold betw; simp only [Bool.and_eq_false_iff, decide_eq_false_iff_not]; exact .inl hb1]; simp)
              clear hb1
              go_wp2_with fail
              refine wp_region_still_lit (by kernel_rfl) (by kernel_rfl) ?_
              iterate 22 ((with_reducible refine wpStill_step ?_); intro K hK; go_simp; (try (refine ite_neg_of (by simp <;> assumption) ?_)); (with_reducible refine hK _ ?_); clear hK K)
              (with_reducible refine wpStill_nil ?_)
              go_wp2_with fail
              all_goals go_roundw
              all_goals first
                | exact ⟨k + 1, by go_num, by omega, by rw [HE2.out], HBr.out.drew⟩
                | (simp [intOf]; omega)
          · have hk : k = nc := by omega
            subst hk
            rw [List.take_of_length_le (by have := HNc.out; omega), HQ.out]
            have HBr2 := Lib.hid (HB4.out.1.trans (HBr.out.mono HB4.out.1.size))
            have HBf := Lib.hid (HBe.out.trans (HBr.out.mono HBe.out.size))
            have HBg := Lib.hid (HB4.out.2.trans (HBr.out.mono HB4.out.2.size))
            clear hkn hlt HIn HNc HQ HBr HB4 HBe
            cases q with
            | true =>
              have h := (HSt.out (by first | trivial | rfl)).1
              exact absurd h (by decide)
            | false =>
              go_wp2_with fail
              go_ret
              exact ⟨rfl, HBf.out⟩
end Go.Proofs.Ytplpogonkfnafaa
