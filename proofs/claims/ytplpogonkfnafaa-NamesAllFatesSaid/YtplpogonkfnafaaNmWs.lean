/- NamesAllFates: its first loop. -/
import Derived.Test.YtplpogonkfnafaaNmWp
namespace Go.Proofs.Ytplpogonkfnafaa
open Go.RowKit Go.Nm

set_option maxRecDepth 100000 in
set_option maxHeartbeats 400000000 in
theorem afs1 (b : Bk) (aV aW aX aY aR : Int) (L : List Int) (w : World) (A1 : Option Addr) (c1 : Nat) (A2 : Option Addr) (c2 : Nat) (Au : Option Addr) (cu : Nat) (hv0 : Hid (BkV w (.agg #[.slice A1 b.first.length c1, .slice A2 b.chs.length c2]) b (.slice A2 b.chs.length c2))) (hh2 : Hid (ChSl w w.heap.size (.slice A2 b.chs.length c2) b.chs)) : (afc1 b aV aW aX aY aR L w A1 c1 A2 c2 Au cu hv0 hh2).P := by
  intro W0 HB0 Q'_h1 Y1 Y2 HB2 F HSb Y3 HB3 Al cl HBe HD2 len HBk3 HCh HCs HLen nl HF HNl hlen64 hnl1 HNe K_h1 a_h1 wr u4 u9 u10 u11 u46 u47 u48 u49 u50 u51 u52 u53 u54 u55 u56 u57 u58 u59 u60 u61 u62 u63 u64 u65 u66 u67 u68 u69 u70 u71 u72 u73 u74 u75 u76 u77 u78 u79 u80 u81 u82 u83 u84 u85 u86 u87 u88 u89 u90 u91 u92 u93 u94 u95 u96 u97 u98 u99 u100 u101 u102 u103 u104 u105 u106 u107 u108 u109 u110 u111 u112 u113 u114 u115 u116 u117 u118 u119 u120 u121 u122 u123 u124 u125 u126 u127 u128 u129 u130 u131 u132 u133 u134 u135 u136 u137 i hil HBr k0 k1 q0 q1 q2 q3 q4 q5 hlt
  obtain ⟨f, ad, adf, cf, hf, rfl, hrd⟩ := fl_reads HF.out HNe.out hlt
  have HRd := Lib.hid hrd
  obtain ⟨c0, c1', c2'⟩ := hrd wr HBr.out.1
  have hfl : f.length = len + 1 := by rw [HD2.out.len f (List.mem_of_getElem? hf), HLen.out]
  rw [hfl] at c0
  have HFi := Lib.hid hf
  have HFl := Lib.hid hfl
  clear hrd c1' c2' hf hfl
  have hwl : IntKind.i64.wrap ((len : Int) + 1) = (len : Int) + 1 := by rw [IntKind.wrap_i64]; omega
  rcases (show i = 0 ∨ ∃ p, i = p + 1 from by cases i with | zero => exact .inl rfl | succ p => exact .inr ⟨p, rfl⟩) with hi0 | ⟨p, hip⟩
  · have h0n : ¬ 0 < i := by omega
    have h0i : ¬ (0 : Int) < (i : Int) := by omega
    clear hi0
    go_wp2_with fail
    refine wp_region_still_lit (by kernel_rfl) (by kernel_rfl) ?_
    iterate 27 ((with_reducible refine wpStill_step ?_); intro K hK; go_simp; (try (refine ite_neg_of (by simp [undef] <;> assumption) ?_)); (with_reducible refine hK _ ?_); clear hK K)
    (with_reducible refine wpStill_nil ?_)
    have HBx := Lib.hid HBr.out.1.drew
    go_wp2_with fail
    go_loopw [9] (fun iv wq => ∃ v : Nat, iv = .int .i64 (v : Int) ∧ v ≤ len ∧ Below Y3.heap.size Y3 wq) (fun iv _ => len - (intOf iv).toNat)
    case atStart => exact ⟨0, rfl, by omega, HBx.out⟩
    case round =>
      obtain ⟨v, rfl, hvl, hbq⟩ := hrel
      have HBq := Lib.hid (And.intro hbq (HB3.out.trans (hbq.mono HB3.out.size)))
      clear k0 k1 q0 q1 q2 q3 q4 q5 hbq
      obtain ⟨⟨k0, k1⟩, q0, q1, q2, q3, q4, q5⟩ := HCs.out wr HBq.out.2
      by_cases hvt : v < len
      · obtain ⟨ch, adc, Af, At, cf2, ct2, hch, rfl, hcd⟩ := ch_three HCh.out hvt
        have hz : ∃ z, f[v]? = some z := ⟨_, List.getElem?_eq_getElem (by have := HFl.out; omega)⟩
        obtain ⟨z, hz⟩ := hz
        have hy : ∃ y, f[v + 1]? = some y := ⟨_, List.getElem?_eq_getElem (by have := HFl.out; omega)⟩
        obtain ⟨y, hy⟩ := hy
        have HSp := Lib.hid (HD2.out.step f (List.mem_of_getElem? HFi.out) v z y ch hch hz hy)
        have HSz := Lib.hid (HSb.out.2.2 ch (List.mem_of_getElem? hch))
        have HCd := Lib.hid hcd
        obtain ⟨⟨d0, d1, d2⟩, _, _⟩ := hcd wr HBq.out.2
        have hwv : IntKind.i64.wrap ((v : Int) + 1) = (v : Int) + 1 := by rw [IntKind.wrap_i64]; omega
        have hv1 : (v : Int) < (len : Int) + 1 := by omega
        have hv2 : (v : Int) + 1 < (len : Int) + 1 := by omega
        have hv3 : (0 : Int) ≤ (v : Int) + 1 := by omega
        have HN8 := Lib.hid (World.alloc_heap_new wr (.cells #[.int .i64 ch.yr, .slice Af ch.fr.length cf2, .slice At ch.to.length ct2] 52))
        have HB8 := Lib.hid (below_new (w := wr) (.cells #[.int .i64 ch.yr, .slice Af ch.fr.length cf2, .slice At ch.to.length ct2] 52))
        clear hcd
        go_wp2_with fail
        obtain ⟨W8, hW8⟩ : ∃ X, wr.alloc (.cells #[.int .i64 ch.yr, .slice Af ch.fr.length cf2, .slice At ch.to.length ct2] 52) = X := ⟨_, rfl⟩
        rw [hW8] at HN8 HB8 ⊢
        clear hW8 k0 k1 q0 q1 q2 q3 q4 q5 d0 d1 d2
        have HB9 := Lib.hid (show Below Y3.heap.size Y3 W8 from HBq.out.1.trans (HB8.out.mono HBq.out.1.size))
        obtain ⟨x0, x1, x2⟩ := cells_three HN8.out
        obtain ⟨c0, c1', _⟩ := HRd.out W8 HB9.out
        rw [HFl.out] at c0
        have cz := c1' v z hz
        have HRy := Lib.hid (show ∀ Y, Below W8.heap.size W8 Y → Y.cell? ⟨adf.block, adf.off + (v + 1), none⟩ = some (.int .i64 y) from fun Y h => by
          have h2 := (HRd.out Y (HB9.out.trans (h.mono HB9.out.size))).2.1 (v + 1) y hy
          simpa [Addr.add] using h2)
        have HRz := Lib.hid (fun Y (h : Below W8.heap.size W8 Y) => (HRd.out Y (HB9.out.trans (h.mono HB9.out.size))).2.1 v z hz)
        have HHo := Lib.hid (holds_any _ ch.fr z W8.drew ((HCd.out W8.drew (HB3.out.trans (HB9.out.drew.mono HB3.out.size))).2.1) (by have := HSz.out.1; omega))
        have HHt := Lib.hid (fun Y (h : Below Y3.heap.size Y3 Y) => holds_any _ ch.to y Y ((HCd.out Y (HB3.out.trans (h.mono HB3.out.size))).2.2) (by have := HSz.out.2; omega))
        clear c1' hz hy hch
        refine wp_region_tail 9 (by kernel_rfl) (by kernel_rfl) ?_
        simp only [List.take_succ_cons, List.take_zero, List.drop_succ_cons, List.drop_zero]
        iterate 9 ((with_reducible refine wpStill_step ?_); intro K hK; go_simp; (try (refine ite_neg_of (by simp [undef] <;> assumption) ?_)); (with_reducible refine hK _ ?_); clear hK K)
        (with_reducible refine wpStill_nil ?_)
        go_wp2_with fail
        (with_reducible refine HHo.out.mono ?_)
        rintro e YH ⟨rfl, hb⟩
        have HBH := Lib.hid (show Below W8.heap.size W8 YH from (Below.refl _ _).drew.trans hb)
        have HB10 := Lib.hid (show Below Y3.heap.size Y3 YH from HB9.out.trans (HBH.out.mono HB9.out.size))
        clear hb HHo x0 x1 x2 c0 cz
        have HNH := Lib.hid ((HBH.out.block _ (Array.getElem?_eq_some_iff.1 HN8.out).1).trans HN8.out)
        obtain ⟨x0, x1, x2⟩ := cells_three HNH.out
        have c0 := (HRd.out YH HB10.out).1
        rw [HFl.out] at c0
        have cz := HRz.out YH HBH.out
        have cy := HRy.out YH HBH.out
        by_cases hzf : z ∈ ch.fr
        · have hyt : decide (y ∈ ch.to) = true := by
            rcases HSp.out with ⟨h, _⟩ | ⟨_, h⟩
            · exact absurd hzf h
            · simpa using h
          rw [decide_eq_true hzf]
          have HHt := Lib.hid (HHt.out)
          rw [hyt] at HHt
          clear hzf hyt
          have P0 := fun p : Wb YH => (⟨Wb.cell x0 p, Wb.cell x1 p, Wb.cell x2 p, Wb.cell c0 p, Wb.cell cz p, Wb.cell cy p⟩ : _ ∧ _ ∧ _ ∧ _ ∧ _ ∧ _)
          have P1 := fun p : Wb YH => (P0 p).2.2.1
          have P2 := fun p : Wb YH => (P0 p).2.2.2.1
          have P3 := fun p : Wb YH => (P0 p).2.2.2.2.1
          have P4 := fun p : Wb YH => (P0 p).2.2.2.2.2
          clear P0 x0 x1 x2 c0 cz cy
          go_wp2_with fail
          refine wp_region_wb (by kernel_rfl) (by kernel_rfl) ?_; (repeat ((with_reducible refine wpQuiet_step ?_); intro K hK; go_simp; (try (refine ite_neg_of (by simp [undef]) ?_)); first | (with_reducible refine hK _ ?_; clear hK K) | (apply Exists.intro; (with_reducible refine ⟨fun _ => ?_, hK _ ?_⟩); ((go_at_call 50; exact Calls.wb (HHt.out _ (HB10.out.trans (Wb.h _ |>.mono HB10.out.size))))); clear hK K))); (with_reducible refine wpQuiet_nil ?_); rintro w1 ⟨⟨_, hb1⟩, rfl⟩; (try dsimp only)
          go_wp2_with fail
          go_roundw
          case rel => exact ⟨v + 1, by go_num, by omega, HB10.out.trans (hb1.mono HB10.out.size)⟩
          case measure => simp [intOf]; omega
        · have hyz : y = z := by
            rcases HSp.out with ⟨_, h⟩ | ⟨h, _⟩
            · exact h
            · exact absurd h hzf
          subst hyz
          rw [decide_eq_false hzf]
          clear hzf HHt
          go_wp2_with fail
          refine wp_region_still_lit (by kernel_rfl) (by kernel_rfl) ?_
          iterate 37 ((with_reducible refine wpStill_step ?_); intro K hK; go_simp; (try (refine ite_neg_of (by simp [undef] <;> assumption) ?_)); (with_reducible refine hK _ ?_); clear hK K)
          (with_reducible refine wpStill_nil ?_)
          go_wp2_with fail
          go_roundw
          case rel => exact ⟨v + 1, by go_num, by omega, HB10.out.drew⟩
          case measure => simp [intOf]; omega
      · have hv : v = len := by omega
        subst hv
        go_wp2_with fail
        go_roundw
        case rel => exact ⟨i + 1, by go_num, by omega, HBq.out.1⟩
        case measure => simp [intOf]; omega
  · have hpl : p < nl := by omega
    have hpi : (i : Int) - 1 = (p : Int) := by omega
    have hwi : IntKind.i64.wrap ((i : Int) - 1) = (p : Int) := by rw [IntKind.wrap_i64]; omega
    have h0i : (0 : Int) < (i : Int) := by omega
    have h0n : 0 < i := by omega
    have hwp : IntKind.i64.wrap (p : Int) = (p : Int) := by rw [IntKind.wrap_i64]; omega
    obtain ⟨f', ad', adf', cf', hf', e, hrd'⟩ := fl_reads HF.out HNe.out hpl
    injection e with e
    subst e
    have c5 := (hrd' wr HBr.out.1).1
    have hBf := HD2.out.bfr p f' f hf' (by rw [← hip]; exact HFi.out)
    have HBf := Lib.hid (before_any _ _ f' f wr.drew (hrd' wr.drew HBr.out.1.drew).2.2 (HRd.out wr.drew HBr.out.1.drew).2.2 (by rw [hBf.1]; have := HFl.out; omega) hBf)
    have hfl' : f'.length = len + 1 := by rw [hBf.1, HFl.out]
    rw [hfl'] at c5
    rw [hfl', HFl.out] at HBf
    clear hrd' hBf hf' hfl' hip
    go_wp2_with fail
    refine wp_region_tail 23 (by kernel_rfl) (by kernel_rfl) ?_
    simp only [List.take_succ_cons, List.take_zero, List.drop_succ_cons, List.drop_zero]
    iterate 23 ((with_reducible refine wpStill_step ?_); intro K hK; go_simp; (try (refine ite_neg_of (by simp [undef] <;> assumption) ?_)); (with_reducible refine hK _ ?_); clear hK K)
    (with_reducible refine wpStill_nil ?_)
    go_wp2_with fail
    (with_reducible refine HBf.out.mono ?_)
    rintro e YX ⟨rfl, hb⟩
    have HBx := Lib.hid (HBr.out.1.drew.trans (hb.mono HBr.out.1.drew.size))
    clear hb HBf
    go_wp2_with fail
    go_loopw [9] (fun iv wq => ∃ v : Nat, iv = .int .i64 (v : Int) ∧ v ≤ len ∧ Below Y3.heap.size Y3 wq) (fun iv _ => len - (intOf iv).toNat)
    case atStart => exact ⟨0, rfl, by omega, HBx.out⟩
    case round =>
      obtain ⟨v, rfl, hvl, hbq⟩ := hrel
      have HBq := Lib.hid (And.intro hbq (HB3.out.trans (hbq.mono HB3.out.size)))
      clear k0 k1 q0 q1 q2 q3 q4 q5 hbq
      obtain ⟨⟨k0, k1⟩, q0, q1, q2, q3, q4, q5⟩ := HCs.out wr HBq.out.2
      by_cases hvt : v < len
      · obtain ⟨ch, adc, Af, At, cf2, ct2, hch, rfl, hcd⟩ := ch_three HCh.out hvt
        have hz : ∃ z, f[v]? = some z := ⟨_, List.getElem?_eq_getElem (by have := HFl.out; omega)⟩
        obtain ⟨z, hz⟩ := hz
        have hy : ∃ y, f[v + 1]? = some y := ⟨_, List.getElem?_eq_getElem (by have := HFl.out; omega)⟩
        obtain ⟨y, hy⟩ := hy
        have HSp := Lib.hid (HD2.out.step f (List.mem_of_getElem? HFi.out) v z y ch hch hz hy)
        have HSz := Lib.hid (HSb.out.2.2 ch (List.mem_of_getElem? hch))
        have HCd := Lib.hid hcd
        obtain ⟨⟨d0, d1, d2⟩, _, _⟩ := hcd wr HBq.out.2
        have hwv : IntKind.i64.wrap ((v : Int) + 1) = (v : Int) + 1 := by rw [IntKind.wrap_i64]; omega
        have hv1 : (v : Int) < (len : Int) + 1 := by omega
        have hv2 : (v : Int) + 1 < (len : Int) + 1 := by omega
        have hv3 : (0 : Int) ≤ (v : Int) + 1 := by omega
        have HN8 := Lib.hid (World.alloc_heap_new wr (.cells #[.int .i64 ch.yr, .slice Af ch.fr.length cf2, .slice At ch.to.length ct2] 52))
        have HB8 := Lib.hid (below_new (w := wr) (.cells #[.int .i64 ch.yr, .slice Af ch.fr.length cf2, .slice At ch.to.length ct2] 52))
        clear hcd
        go_wp2_with fail
        obtain ⟨W8, hW8⟩ : ∃ X, wr.alloc (.cells #[.int .i64 ch.yr, .slice Af ch.fr.length cf2, .slice At ch.to.length ct2] 52) = X := ⟨_, rfl⟩
        rw [hW8] at HN8 HB8 ⊢
        clear hW8 k0 k1 q0 q1 q2 q3 q4 q5 d0 d1 d2
        have HB9 := Lib.hid (show Below Y3.heap.size Y3 W8 from HBq.out.1.trans (HB8.out.mono HBq.out.1.size))
        obtain ⟨x0, x1, x2⟩ := cells_three HN8.out
        obtain ⟨c0, c1', _⟩ := HRd.out W8 HB9.out
        rw [HFl.out] at c0
        have cz := c1' v z hz
        have HRy := Lib.hid (show ∀ Y, Below W8.heap.size W8 Y → Y.cell? ⟨adf.block, adf.off + (v + 1), none⟩ = some (.int .i64 y) from fun Y h => by
          have h2 := (HRd.out Y (HB9.out.trans (h.mono HB9.out.size))).2.1 (v + 1) y hy
          simpa [Addr.add] using h2)
        have HRz := Lib.hid (fun Y (h : Below W8.heap.size W8 Y) => (HRd.out Y (HB9.out.trans (h.mono HB9.out.size))).2.1 v z hz)
        have HHo := Lib.hid (holds_any _ ch.fr z W8.drew ((HCd.out W8.drew (HB3.out.trans (HB9.out.drew.mono HB3.out.size))).2.1) (by have := HSz.out.1; omega))
        have HHt := Lib.hid (fun Y (h : Below Y3.heap.size Y3 Y) => holds_any _ ch.to y Y ((HCd.out Y (HB3.out.trans (h.mono HB3.out.size))).2.2) (by have := HSz.out.2; omega))
        clear c1' hz hy hch
        refine wp_region_tail 9 (by kernel_rfl) (by kernel_rfl) ?_
        simp only [List.take_succ_cons, List.take_zero, List.drop_succ_cons, List.drop_zero]
        iterate 9 ((with_reducible refine wpStill_step ?_); intro K hK; go_simp; (try (refine ite_neg_of (by simp [undef] <;> assumption) ?_)); (with_reducible refine hK _ ?_); clear hK K)
        (with_reducible refine wpStill_nil ?_)
        go_wp2_with fail
        (with_reducible refine HHo.out.mono ?_)
        rintro e YH ⟨rfl, hb⟩
        have HBH := Lib.hid (show Below W8.heap.size W8 YH from (Below.refl _ _).drew.trans hb)
        have HB10 := Lib.hid (show Below Y3.heap.size Y3 YH from HB9.out.trans (HBH.out.mono HB9.out.size))
        clear hb HHo x0 x1 x2 c0 cz
        have HNH := Lib.hid ((HBH.out.block _ (Array.getElem?_eq_some_iff.1 HN8.out).1).trans HN8.out)
        obtain ⟨x0, x1, x2⟩ := cells_three HNH.out
        have c0 := (HRd.out YH HB10.out).1
        rw [HFl.out] at c0
        have cz := HRz.out YH HBH.out
        have cy := HRy.out YH HBH.out
        by_cases hzf : z ∈ ch.fr
        · have hyt : decide (y ∈ ch.to) = true := by
            rcases HSp.out with ⟨h, _⟩ | ⟨_, h⟩
            · exact absurd hzf h
            · simpa using h
          rw [decide_eq_true hzf]
          have HHt := Lib.hid (HHt.out)
          rw [hyt] at HHt
          clear hzf hyt
          have P0 := fun p : Wb YH => (⟨Wb.cell x0 p, Wb.cell x1 p, Wb.cell x2 p, Wb.cell c0 p, Wb.cell cz p, Wb.cell cy p⟩ : _ ∧ _ ∧ _ ∧ _ ∧ _ ∧ _)
          have P1 := fun p : Wb YH => (P0 p).2.2.1
          have P2 := fun p : Wb YH => (P0 p).2.2.2.1
          have P3 := fun p : Wb YH => (P0 p).2.2.2.2.1
          have P4 := fun p : Wb YH => (P0 p).2.2.2.2.2
          clear P0 x0 x1 x2 c0 cz cy
          go_wp2_with fail
          refine wp_region_wb (by kernel_rfl) (by kernel_rfl) ?_; (repeat ((with_reducible refine wpQuiet_step ?_); intro K hK; go_simp; (try (refine ite_neg_of (by simp [undef]) ?_)); first | (with_reducible refine hK _ ?_; clear hK K) | (apply Exists.intro; (with_reducible refine ⟨fun _ => ?_, hK _ ?_⟩); ((go_at_call 50; exact Calls.wb (HHt.out _ (HB10.out.trans (Wb.h _ |>.mono HB10.out.size))))); clear hK K))); (with_reducible refine wpQuiet_nil ?_); rintro w1 ⟨⟨_, hb1⟩, rfl⟩; (try dsimp only)
          go_wp2_with fail
          go_roundw
          case rel => exact ⟨v + 1, by go_num, by omega, HB10.out.trans (hb1.mono HB10.out.size)⟩
          case measure => simp [intOf]; omega
        · have hyz : y = z := by
            rcases HSp.out with ⟨_, h⟩ | ⟨h, _⟩
            · exact h
            · exact absurd h hzf
          subst hyz
          rw [decide_eq_false hzf]
          clear hzf HHt
          go_wp2_with fail
          refine wp_region_still_lit (by kernel_rfl) (by kernel_rfl) ?_
          iterate 37 ((with_reducible refine wpStill_step ?_); intro K hK; go_simp; (try (refine ite_neg_of (by simp [undef] <;> assumption) ?_)); (with_reducible refine hK _ ?_); clear hK K)
          (with_reducible refine wpStill_nil ?_)
          go_wp2_with fail
          go_roundw
          case rel => exact ⟨v + 1, by go_num, by omega, HB10.out.drew⟩
          case measure => simp [intOf]; omega
      · have hv : v = len := by omega
        subst hv
        go_wp2_with fail
        go_roundw
        case rel => exact ⟨i + 1, by go_num, by omega, HBq.out.1⟩
        case measure => simp [intOf]; omega
end Go.Proofs.Ytplpogonkfnafaa
