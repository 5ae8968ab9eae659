/- NamesAllFates: its second loop. -/
import Derived.Test.YtplpogonkfnafaaNmWp
namespace Go.Proofs.Ytplpogonkfnafaa
open Go.RowKit Go.Nm

set_option maxRecDepth 100000 in
set_option maxHeartbeats 400000000 in
def afc2 (b : Bk) (aV aW aX aY aR : Int) (L : List Int) (w : World) (A1 : Option Addr) (c1 : Nat) (A2 : Option Addr) (c2 : Nat) (Au : Option Addr) (cu : Nat) (hv0 : Hid (BkV w (.agg #[.slice A1 b.first.length c1, .slice A2 b.chs.length c2]) b (.slice A2 b.chs.length c2))) (hh2 : Hid (ChSl w w.heap.size (.slice A2 b.chs.length c2) b.chs)) : Cut1 ((afc1 b aV aW aX aY aR L w A1 c1 A2 c2 Au cu hv0 hh2).Q) := by
  apply Cut1.mk
  case go =>
    intro hP
    intro W0 HB0 Q'_h2 Y1 Y2 HB2 F HSb Y3 HB3 Al cl HBe HD2 len HBk3 HCh HCs HLen nl HF HNl hlen64 hnl1 HNe K_h2 a_h2 wr u4 u9 u10 u11 u46 u47 u48 u49 u50 u51 u52 u53 u54 u55 u56 u57 u58 u59 u60 u61 u62 u63 u64 u65 u66 u67 u68 u69 u70 u71 u72 u73 u74 u75 u76 u77 u78 u79 u80 u81 u82 u83 u84 u85 u86 u87 u88 u89 u90 u91 u92 u93 u94 u95 u96 u97 u98 u99 u100 u101 u102 u103 u104 u105 u106 u107 u108 u109 u110 u111 u112 u113 u114 u115 u116 u117 u118 u119 u120 u121 u122 u123 u124 u125 u126 u127 u128 u129 u130 u131 u132 u133 u134 u135 u136 u137 HBr k0 k1 q0 q1 q2 q3 q4 q5 hil hlt
    go_wp2_with fail
    go_loopw [12] (fun iv wq => ∃ v : Nat, iv = .int .i64 (v : Int) ∧ v ≤ len + 1 ∧ Below Y3.heap.size Y3 wq) (fun iv _ => len + 1 - (intOf iv).toNat)
    case atStart => exact ⟨0, rfl, by omega, HBr.out.1⟩
    case round =>
      obtain ⟨v, rfl, hvl, hbq⟩ := hrel
      have HBq := Lib.hid (And.intro hbq (HB3.out.trans (hbq.mono HB3.out.size)))
      clear k0 k1 q0 q1 q2 q3 q4 q5 hbq
      obtain ⟨⟨k0, k1⟩, q0, q1, q2, q3, q4, q5⟩ := HCs.out wr HBq.out.2
      by_cases hvt : v < len + 1
      · have hvle : (v : Int) ≤ (len : Int) := by omega
        obtain ⟨A, hA, hnm, hAl, hAf, hAt⟩ := HD2.out.nam v (by have := HLen.out; omega)
        have HNm := Lib.hid (Names_any _ _ b (v : Int) wr (HBk3.out.step HBq.out.1) HSb.out)
        rw [hnm] at HNm
        have HA := Lib.hid (And.intro hAl (And.intro hAf hAt))
        clear hA hnm hAl hAf hAt
        go_wp2_with fail
        (with_reducible refine HNm.out.mono ?_)
        rintro e Y4 ⟨⟨un, rfl, hn⟩, hb⟩
        have HB4 := Lib.hid (show Below Y3.heap.size Y3 Y4 from HBq.out.1.trans (hb.mono HBq.out.1.size))
        have HAn := Lib.hid (show InSl Y4 Y4.heap.size un A from hn)
        obtain ⟨An, cn, rfl, _⟩ := hn.form
        clear k0 k1 q0 q1 q2 q3 q4 q5 hb HNm hn
        have HAi := Lib.hid (show InA Y4 Y4.heap.size An A from by obtain ⟨_, _, e, _, _, h⟩ := HAn.out; cases e; exact h)
        obtain ⟨⟨k0, k1⟩, q0, q1, q2, q3, q4, q5⟩ := HCs.out Y4 (HB3.out.trans (HB4.out.mono HB3.out.size))
        obtain ⟨na, hna⟩ : ∃ na, A.length = na := ⟨_, rfl⟩
        have HNa := Lib.hid hna
        rw [hna] at HAn ⊢
        have hna4 : na ≤ 400 := by have := HA.out.1; omega
        clear hna
        go_wp2_with fail
        go_loopw [15] (fun iv wq => ∃ k : Nat, iv = .int .i64 (k : Int) ∧ k ≤ na ∧ Below Y4.heap.size Y4 wq) (fun iv _ => na - (intOf iv).toNat)
        case atStart => exact ⟨0, rfl, by omega, Below.refl _ _⟩
        case round =>
          obtain ⟨k, rfl, hkl, hbk⟩ := hrel
          have HBk := Lib.hid (And.intro hbk (And.intro (HB4.out.trans (hbk.mono HB4.out.size)) (HB3.out.trans ((HB4.out.trans (hbk.mono HB4.out.size)).mono HB3.out.size))))
          clear k0 k1 q0 q1 q2 q3 q4 q5 hbk
          obtain ⟨⟨k0, k1⟩, q0, q1, q2, q3, q4, q5⟩ := HCs.out wr HBk.out.2.2
          by_cases hkt : k < na
          · obtain ⟨x, adx, hx, rfl, _, hcx⟩ := ((HAi.out.below HBk.out.1).mono HBk.out.1.size).at_ HNa.out hkt
            obtain ⟨hth, htn⟩ := HA.out.2.2 x (List.mem_of_getElem? hx)
            have HTh := Lib.hid (Through_any _ _ b (v : Int) x wr.drew ((HBk3.out.step HBk.out.2.1).step (Below.refl _ _).drew) HSb.out fates_few)
            rw [hth] at HTh
            obtain ⟨T, hT⟩ : ∃ T, thr v x F = T := ⟨_, rfl⟩
            have HTin := Lib.hid (show ∀ q ∈ T, ∃ (j : Nat) (f : List Int), q = (j : Int) ∧ F[j]? = some f ∧ f[v]? = some x from fun q hq => by
              rw [← hT] at hq
              obtain ⟨j, e, f, hf, hfx⟩ := mem_thr.1 hq
              exact ⟨j, f, e, hf, hfx⟩)
            have hTl : T.length ≤ 100000 := by rw [← hT]; exact Nat.le_trans (thr_len _ _ _) HD2.out.few
            rw [hT] at HTh htn
            have HXc := Lib.hid (fun Y (h : Below wr.heap.size wr Y) => show Y.cell? (adx.add k) = some (.int .i64 x) from (h.cell (World.block_lt_of_cell? _ _ hcx)).trans hcx)
            clear hth hT hx
            go_wp2_with fail
            refine wp_abs ?_
            intro t0 ht0
            have hsz0 : t0.size = 360 := by rw [ht0]; rfl
            have s2 : t0.getD 2 undef = .pointer (some ⟨w.heap.size, 0, none⟩) := by rw [ht0]; rfl
            have s12 : t0.getD 12 undef = .int .i64 (v : Int) := by rw [ht0]; rfl
            have s13 : t0.getD 13 undef = .slice (some adx) na cn := by rw [ht0]; rfl
            have s15 : t0.getD 15 undef = .int .i64 (k : Int) := by rw [ht0]; rfl
            have HT0 := Lib.hid ht0
            clear ht0
            refine wp_mono (Q := fun e a' Y => e = .normal ∧ ∃ u, InSl Y Y.heap.size u T ∧ Below wr.drew.heap.size wr.drew Y ∧ a' = { tmps := ((((((((((((t0.setIfInBounds 160 (.agg #[.slice A1 b.first.length c1, .slice A2 len c2])).setIfInBounds 161 (.int .i64 (v : Int))).setIfInBounds 162 (.slice (some adx) na cn)).setIfInBounds 163 (.int .i64 (k : Int))).setIfInBounds 164 (.pointer (some (adx.add k)))).setIfInBounds 165 (.int .i64 x)).setIfInBounds 166 (Value.tuple #[u, Value.int IntKind.i64 0])).setIfInBounds 159 (Value.tuple #[u, Value.int IntKind.i64 0])).setIfInBounds 167 u).setIfInBounds 168 (Value.int IntKind.i64 0)).setIfInBounds 16 u).setIfInBounds 17 (Value.int IntKind.i64 0)), defers := [] }) ?_ ?_
            · refine wp_region_done (TrG t0 wr.drew T (.agg #[.slice A1 b.first.length c1, .slice A2 len c2]) (.int .i64 (v : Int)) (.slice (some adx) na cn) (.int .i64 (k : Int)) (.pointer (some (adx.add k))) (.int .i64 x)) (by kernel_rfl) (by kernel_rfl) ?_ ?_ ?_
              · exact ⟨rfl, fun _ _ => rfl, rfl, fun _ => rfl, (fun h => nomatch h), (fun h => nomatch h), (fun h => nomatch h), (fun h => nomatch h), (fun h => nomatch h), (fun h => nomatch h), (fun h => nomatch h), (fun h => nomatch h), (fun h => nomatch h), (fun h => nomatch h), (fun h => nomatch h), (fun h => nomatch h), (fun h => nomatch h), (fun h => nomatch h), (fun h => nomatch h)⟩
              · intro dn j o hi hd hD a Y hG
                have hj : j < 12 := by
                  have := (Array.getElem?_eq_some_iff.1 hi).1
                  simpa using this
                rcases (show j = 0 ∨ j = 1 ∨ j = 2 ∨ j = 3 ∨ j = 4 ∨ j = 5 ∨ j = 6 ∨ j = 7 ∨ j = 8 ∨ j = 9 ∨ j = 10 ∨ j = 11 by omega) with rfl | rfl | rfl | rfl | rfl | rfl | rfl | rfl | rfl | rfl | rfl | rfl
                · obtain rfl := Option.some.inj hi
                  refine wpOp_bare hi rfl ?_
                  have n6 : dn 6 = false := by
                    cases h : dn 6
                    · rfl
                    · obtain ⟨h0, h1, h5⟩ := hG.o6 h
                      have h4 := hG.o5 h5
                      obtain ⟨h2, h3⟩ := hG.o4 h4
                      simp_all
                  exact op_load2 2 w.heap.size _ _ rfl ((hG.kp 2 rfl).trans s2) (by rw [hG.pre n6]; exact k0) (by rw [hG.pre n6]; exact k1) (hG.s0 hsz0 n6)
                · obtain rfl := Option.some.inj hi
                  refine wpOp_bare hi rfl ?_
                  have n6 : dn 6 = false := by
                    cases h : dn 6
                    · rfl
                    · obtain ⟨h0, h1, h5⟩ := hG.o6 h
                      have h4 := hG.o5 h5
                      obtain ⟨h2, h3⟩ := hG.o4 h4
                      simp_all
                  exact op_move 12 _ rfl ((hG.kp 12 rfl).trans s12) (hG.s1 hsz0 n6)
                · obtain rfl := Option.some.inj hi
                  refine wpOp_bare hi rfl ?_
                  have n6 : dn 6 = false := by
                    cases h : dn 6
                    · rfl
                    · obtain ⟨h0, h1, h5⟩ := hG.o6 h
                      have h4 := hG.o5 h5
                      obtain ⟨h2, h3⟩ := hG.o4 h4
                      simp_all
                  exact op_move 13 _ rfl ((hG.kp 13 rfl).trans s13) (hG.s2 hsz0 n6)
                · obtain rfl := Option.some.inj hi
                  refine wpOp_bare hi rfl ?_
                  have n6 : dn 6 = false := by
                    cases h : dn 6
                    · rfl
                    · obtain ⟨h0, h1, h5⟩ := hG.o6 h
                      have h4 := hG.o5 h5
                      obtain ⟨h2, h3⟩ := hG.o4 h4
                      simp_all
                  exact op_move 15 _ rfl ((hG.kp 15 rfl).trans s15) (hG.s3 hsz0 n6)
                · obtain rfl := Option.some.inj hi
                  refine wpOp_bare hi rfl ?_
                  have n6 : dn 6 = false := by
                    cases h : dn 6
                    · rfl
                    · obtain ⟨h0, h1, h5⟩ := hG.o6 h
                      have h4 := hG.o5 h5
                      obtain ⟨h2, h3⟩ := hG.o4 h4
                      simp_all
                  have y2 := hD ⟨2, .data⟩ (by simp) rfl
                  have y3 := hD ⟨3, .data⟩ (by simp) rfl
                  exact op_index 162 163 na cn k adx rfl (hG.e2 y2) (hG.e3 y3) hkt (hG.s4 hsz0 n6 y2 y3)
                · obtain rfl := Option.some.inj hi
                  refine wpOp_bare hi rfl ?_
                  have n6 : dn 6 = false := by
                    cases h : dn 6
                    · rfl
                    · obtain ⟨h0, h1, h5⟩ := hG.o6 h
                      have h4 := hG.o5 h5
                      obtain ⟨h2, h3⟩ := hG.o4 h4
                      simp_all
                  have y4 := hD ⟨4, .data⟩ (by simp) rfl
                  exact op_load1 164 (adx.add k) _ rfl (hG.e4 y4) (by rw [hG.pre n6]; exact hcx) (hG.s5 hsz0 n6 y4)
                · obtain rfl := Option.some.inj hi
                  refine wpOp_bare hi rfl ?_
                  have y0 := hD ⟨0, .data⟩ (by simp) rfl
                  have y1 := hD ⟨1, .data⟩ (by simp) rfl
                  have y5 := hD ⟨5, .data⟩ (by simp) rfl
                  refine op_call3 _ 160 161 165 _ _ _ _ _ _ _ rfl rfl (hG.e0 y0) (hG.e1 y1) (hG.e5 y5) (by rw [hG.pre hd]; exact HTh.out) ?_
                  rintro e Y' ⟨⟨u, rfl, hu⟩, hb⟩
                  exact ⟨_, rfl, hG.s6 hsz0 hd y0 y1 y5 hu hb⟩
                · obtain rfl := Option.some.inj hi
                  refine wpOp_bare hi rfl ?_
                  have y6 := hD ⟨6, .data⟩ (by simp) rfl
                  obtain ⟨u, b0, hi', hb', b7, b8, b9, b10, b11⟩ := hG.post y6
                  exact op_move 166 _ rfl b0 (hG.s7 hsz0 y6 b0 hi' hb' b7 b8 b9 b10 b11)
                · obtain rfl := Option.some.inj hi
                  refine wpOp_bare hi rfl ?_
                  have y7 := hD ⟨7, .data⟩ (by simp) rfl
                  obtain ⟨u, b0, hi', hb', b7, b8, b9, b10, b11⟩ := hG.post (hG.o7 y7)
                  exact op_extract0 159 _ _ rfl (b7 y7) (hG.s8 hsz0 (hG.o7 y7) y7 b0 hi' hb' b7 b8 b9 b10 b11)
                · obtain rfl := Option.some.inj hi
                  refine wpOp_bare hi rfl ?_
                  have y7 := hD ⟨7, .data⟩ (by simp) rfl
                  obtain ⟨u, b0, hi', hb', b7, b8, b9, b10, b11⟩ := hG.post (hG.o7 y7)
                  exact op_extract1 159 _ _ rfl (b7 y7) (hG.s9 hsz0 (hG.o7 y7) y7 b0 hi' hb' b7 b8 b9 b10 b11)
                · obtain rfl := Option.some.inj hi
                  refine wpOp_bare hi rfl ?_
                  have y8 := hD ⟨8, .data⟩ (by simp) rfl
                  obtain ⟨u, b0, hi', hb', b7, b8, b9, b10, b11⟩ := hG.post (hG.o7 (hG.o8 y8))
                  exact op_assign 167 _ rfl (b8 y8) (hG.s10 hsz0 (hG.o7 (hG.o8 y8)) y8 b0 hi' hb' b7 b8 b9 b10 b11)
                · obtain rfl := Option.some.inj hi
                  refine wpOp_bare hi rfl ?_
                  have y9 := hD ⟨9, .data⟩ (by simp) rfl
                  obtain ⟨u, b0, hi', hb', b7, b8, b9, b10, b11⟩ := hG.post (hG.o7 (hG.o9 y9))
                  exact op_assign 168 _ rfl (b9 y9) (hG.s11 hsz0 (hG.o7 (hG.o9 y9)) y9 b0 hi' hb' b7 b8 b9 b10 b11)
              · intro dn a Y hdn hG
                exact ⟨rfl, hG.fin hsz0 fun j hj => hdn j (by simpa using hj)⟩
            rintro e a' Y5 ⟨rfl, ut, ht, hb, rfl⟩
            rw [HT0.out]
            clear HT0 s2 s12 s13 s15 hsz0
            simp only [Exit.then]
            have HB5 := Lib.hid (show Below wr.heap.size wr Y5 from (Below.refl _ _).drew.trans hb)
            have HT5 := Lib.hid ht
            obtain ⟨At, ct, rfl, _⟩ := ht.form
            clear k0 k1 q0 q1 q2 q3 q4 q5 hb HTh ht hcx
            have HTi := Lib.hid (show InA Y5 Y5.heap.size At T from by obtain ⟨_, _, e, _, _, h⟩ := HT5.out; cases e; exact h)
            have HB6 := Lib.hid (And.intro (HBk.out.1.trans (HB5.out.mono HBk.out.1.size)) (And.intro (HBk.out.2.1.trans (HB5.out.mono HBk.out.2.1.size)) (HBk.out.2.2.trans (HB5.out.mono HBk.out.2.2.size))))
            obtain ⟨⟨k0, k1⟩, q0, q1, q2, q3, q4, q5⟩ := HCs.out Y5 HB6.out.2.2
            have hcx := HXc.out Y5 HB5.out
            obtain ⟨nt, hnt⟩ : ∃ nt, T.length = nt := ⟨_, rfl⟩
            have HNt := Lib.hid hnt
            rw [hnt] at HT5 hTl ⊢
            have hnt0 : ((nt : Int) == 0) = false := by
              have : nt ≠ 0 := fun h => htn (List.length_eq_zero_iff.1 (hnt.trans h))
              simpa using this
            clear hnt htn
            go_wp2_with fail
            go_loopw [18] (fun iv wq => ∃ m : Nat, iv = .int .i64 (m : Int) ∧ m ≤ nt ∧ Below Y5.heap.size Y5 wq) (fun iv _ => nt - (intOf iv).toNat)
            case atStart => exact ⟨0, rfl, by omega, Below.refl _ _⟩
            case round =>
              obtain ⟨m, rfl, hml, hbm⟩ := hrel
              have HBm := Lib.hid hbm
              clear k0 k1 q0 q1 q2 q3 q4 q5 hbm hcx
              obtain ⟨⟨k0, k1⟩, q0, q1, q2, q3, q4, q5⟩ := HCs.out wr (HB6.out.2.2.trans (HBm.out.mono HB6.out.2.2.size))
              by_cases hmt : m < nt
              · obtain ⟨y, adt, hy, rfl, _, hcy⟩ := ((HTi.out.below HBm.out).mono HBm.out.size).at_ HNt.out hmt
                obtain ⟨j, f, rfl, hfj, hfx⟩ := HTin.out y (List.mem_of_getElem? hy)
                have hjl : j < nl := by have := (List.getElem?_eq_some_iff.1 hfj).1; have := HNl.out; omega
                obtain ⟨f', ad, adf, cf, hf', rfl, hrd⟩ := fl_reads HF.out HNe.out hjl
                obtain rfl : f = f' := by rw [hfj] at hf'; injection hf'
                obtain ⟨c0, c1', _⟩ := hrd wr (HB6.out.2.1.trans (HBm.out.mono HB6.out.2.1.size))
                have hfl : f.length = len + 1 := by rw [HD2.out.len f (List.mem_of_getElem? hfj), HLen.out]
                rw [hfl] at c0
                have cz := c1' v x hfx
                have hcx := HXc.out wr (HB5.out.trans (HBm.out.mono HB5.out.size))
                have hj0 : ¬ (j : Int) < 0 := by omega
                have hj1 : ¬ (nl : Int) ≤ (j : Int) := by omega
                have hj2 : (j : Int) < (nl : Int) := by omega
                have hv1 : (v : Int) < (len : Int) + 1 := by omega
                clear hrd c1' hfl hfj hfx hf' hy
                go_wp2_with fail
                refine wp_region_still_lit (by kernel_rfl) (by kernel_rfl) ?_
                iterate 31 ((with_reducible refine wpStill_step ?_); intro K hK; go_simp; (try (refine ite_neg_of (by simp [undef] <;> assumption) ?_)); (with_reducible refine hK _ ?_); clear hK K)
                (with_reducible refine wpStill_nil ?_)
                go_wp2_with fail
                go_roundw
                case rel => exact ⟨m + 1, by go_num, by omega, HBm.out.drew⟩
                case measure => simp [intOf]; omega
              · have hm : m = nt := by omega
                subst hm
                go_wp2_with fail
                go_roundw
                case rel => exact ⟨k + 1, by go_num, by omega, HB6.out.1.trans (HBm.out.mono HB6.out.1.size)⟩
                case measure => simp [intOf]; omega
          · have hk : k = na := by omega
            subst hk
            go_wp2_with fail
            go_loopw [19] (fun iv wq => ∃ p : Nat, iv = .int .i64 (p : Int) ∧ p ≤ nl ∧ Below Y4.heap.size Y4 wq) (fun iv _ => nl - (intOf iv).toNat)
            case atStart => exact ⟨0, rfl, by omega, HBk.out.1⟩
            case round =>
              obtain ⟨p, rfl, hpl, hbp⟩ := hrel
              have HBp := Lib.hid (And.intro hbp (And.intro (HB4.out.trans (hbp.mono HB4.out.size)) (HB3.out.trans ((HB4.out.trans (hbp.mono HB4.out.size)).mono HB3.out.size))))
              clear k0 k1 q0 q1 q2 q3 q4 q5 hbp
              obtain ⟨⟨k0, k1⟩, q0, q1, q2, q3, q4, q5⟩ := HCs.out wr HBp.out.2.2
              by_cases hpt : p < nl
              · obtain ⟨f, ad, adf, cf, hf, rfl, hrd⟩ := fl_reads HF.out HNe.out hpt
                obtain ⟨c0, c1', _⟩ := hrd wr HBp.out.2.1
                have hfl : f.length = len + 1 := by rw [HD2.out.len f (List.mem_of_getElem? hf), HLen.out]
                rw [hfl] at c0
                obtain ⟨z, hz⟩ : ∃ z, f[v]? = some z := ⟨_, List.getElem?_eq_getElem (by omega)⟩
                have cz := c1' v z hz
                have hzA := HA.out.2.1 f (List.mem_of_getElem? hf) z hz
                have hv1 : (v : Int) < (len : Int) + 1 := by omega
                have HHo := Lib.hid (holds_any _ A z wr (by have h := HAn.out.step HBp.out.1; rw [← HNa.out] at h; exact h) (by have := HNa.out; omega))
                rw [decide_eq_true hzA, HNa.out] at HHo
                clear hrd c1' hfl hf hz hzA
                go_wp2_with fail
                (with_reducible refine HHo.out.mono ?_)
                rintro e YZ ⟨rfl, hb⟩
                have HBz := Lib.hid (HBp.out.1.trans (hb.mono HBp.out.1.size))
                clear hb HHo
                go_wp2_with fail
                go_roundw
                case rel => exact ⟨p + 1, by go_num, by omega, HBz.out⟩
                case measure => simp [intOf]; omega
              · have hp : p = nl := by omega
                subst hp
                go_wp2_with fail
                go_roundw
                case rel => exact ⟨v + 1, by go_num, by omega, HBp.out.2.1⟩
                case measure => simp [intOf]; omega
      · have hv : v = len + 1 := by omega
        have hvle : ¬ (v : Int) ≤ (len : Int) := by omega
        have hvlt : (len : Int) < (v : Int) := by omega
        clear hvt hv
        rename_i wr_h3 u4_h3 Q'_h3 K1_h3 a1_h3 K_h3 a_h3
        revert W0 HB0 Q'_h2 Y1 Y2 HB2 F HSb Y3 HB3 Al cl HBe HD2 len HBk3 HCh HCs HLen nl HF HNl hlen64 hnl1 HNe K_h2 wr_h3 u4_h3 u9 u10 u11 u46 u47 u48 u49 u50 u51 u52 u53 u54 u55 u56 u57 u58 u59 u60 u61 u62 u63 u64 u65 u66 u67 u68 u69 u70 u71 u72 u73 u74 u75 u76 u77 u78 u79 u80 u81 u82 u83 u84 u85 u86 u87 u88 u89 u90 u91 u92 u93 u94 u95 u96 u97 u98 u99 u100 u101 u102 u103 u104 u105 u106 u107 u108 u109 u110 u111 u112 u113 u114 u115 u116 u117 u118 u119 u120 u121 u122 u123 u124 u125 u126 u127 u128 u129 u130 u131 u132 u133 u134 u135 u136 u137 HBr hil hlt Q'_h3 K1_h3 a1_h3 K_h3 a_h3 wr u4 u13 u14 u15 u16 u17 u18 u19 u138 u139 u140 u141 u142 u143 u144 u145 u146 u147 u148 u149 u150 u151 u152 u153 u154 u155 u156 u157 u158 u159 u160 u161 u162 u163 u164 u165 u166 u167 u168 u169 u170 u171 u172 u173 u174 u175 u176 u177 u178 u179 u180 u181 u182 u183 u184 u185 u186 u187 u188 u189 u190 u191 u192 u193 u194 u195 u196 u197 u198 u199 u200 u201 u202 u203 u204 u205 u206 u207 u208 u209 u210 u211 u212 u213 u214 u215 u216 u217 u218 u219 u220 u221 u222 u223 u224 u225 u226 u227 u228 v hvl HBq k0 k1 q0 q1 q2 q3 q4 q5 hvle hvlt
        exact hP.out
end Go.Proofs.Ytplpogonkfnafaa
