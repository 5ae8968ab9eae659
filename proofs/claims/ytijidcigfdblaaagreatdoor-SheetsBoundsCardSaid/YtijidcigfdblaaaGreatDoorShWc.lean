/- The law of bounds. -/
import Derived.Test.YtijidcigfdblaaaGreatDoorShWb
namespace Go.Proofs.YtijidcigfdblaaaGreatDoor
open Go.RowKit Go.Nm Go.Sh Go.Plc

theorem tgP_sm {p : Pg} (h : PgSm p) : PgSm (tgP p) := by
  unfold tgP
  split
  · refine ⟨by unfold Go.Sh.tight; simpa using h.1, fun x hx => ?_⟩
    unfold Go.Sh.tight at hx
    simp only [List.mem_map] at hx
    obtain ⟨y, hy, rfl⟩ := hx
    exact h.2 y hy
  · exact ⟨by decide, fun x hx => by simp [zeroP] at hx⟩
set_option maxRecDepth 100000 in
set_option maxHeartbeats 16000000 in
theorem SheetsBounds_any (v : Value) (p : Pg) (w : World) (hv : PgV w v p) (hG : GlO w) : Calls Tryz.prog 5 #[v] w fun e w' => e = .returned (.bool true) ∧ Below w.heap.size w w' := by
  obtain ⟨A, c, W0, rfl, hW0, hb0, hz0, hV0, hL0, hC0⟩ := pg_box hv
  have HC := Lib.hid hC0
  have HV := Lib.hid hV0
  have HB := Lib.hid hb0
  have HAw := Lib.hid (awake_any W0 (hG.of hb0))
  obtain ⟨n, hn⟩ : ∃ n, p.ls.length = n := ⟨_, rfl⟩
  rw [hn] at hW0 HC HV ⊢
  unfold pgV
  unfold pgC at hW0
  clear hv hG hb0 hz0 hV0 hL0 hC0 hn
  go_enter Tryz.func5, Tryz.ntmps5
  go_wp2_with fail
  refine HAw.out.mono ?_
  rintro e w1 ⟨rfl, hb1⟩
  have HB1 := Lib.hid hb1
  have HSm := Lib.hid (small_any _ p w1 (HV.out w1 hb1))
  unfold pgV at HSm
  obtain ⟨g0, g1, g2, g3, g4, g5, g6, g7, g8, g9⟩ := HC.out w1 hb1
  clear hb1 hW0
  by_cases hs : smB p = true
  · rw [hs] at HSm
    have HP := Lib.hid (sm_sm hs)
    clear hs
    go_wp2_with fail
    refine HSm.out.mono ?_
    rintro e w2 ⟨rfl, hb2⟩
    have HBw2 := Lib.hid (bl_on HB1.out hb2)
    obtain ⟨g0, g1, g2, g3, g4, g5, g6, g7, g8, g9⟩ := HC.out w2 HBw2.out
    clear hb2
    have HQ3 := Lib.hid (Sum_any _ p w2 (HV.out w2 HBw2.out) HP.out)
    unfold pgV at HQ3
    go_wp2_with fail
    refine HQ3.out.mono ?_
    rintro e w3 ⟨rfl, hb3⟩
    have hbx := below_new (w := w3) (.cells #[.int .i64 (sumA p), .int .i64 (sumZ p)] 25)
    have hnx := World.alloc_heap_new w3 (.cells #[.int .i64 (sumA p), .int .i64 (sumZ p)] 25)
    obtain ⟨V3, hV3⟩ : ∃ V, w3.alloc (.cells #[.int .i64 (sumA p), .int .i64 (sumZ p)] 25) = V := ⟨_, rfl⟩
    rw [hV3] at hbx hnx
    have HBV3 := Lib.hid (bl_on (bl_on HBw2.out hb3) hbx)
    have HN3 := Lib.hid hnx
    have HX3 := Lib.hid (Below.refl V3.heap.size V3)
    clear hb3 hbx hnx HQ3
    obtain ⟨g0, g1, g2, g3, g4, g5, g6, g7, g8, g9⟩ := HC.out V3 HBV3.out
    have HQ4 := Lib.hid (rSum_any _ p V3 (HV.out V3 HBV3.out) HP.out)
    unfold pgV at HQ4
    go_wp2_with fail
    refine HQ4.out.mono ?_
    rintro e w4 ⟨rfl, hb4⟩
    have hbx := below_new (w := w4) (.cells #[.int .i64 (sumA p), .int .i64 (sumZ p)] 25)
    have hnx := World.alloc_heap_new w4 (.cells #[.int .i64 (sumA p), .int .i64 (sumZ p)] 25)
    obtain ⟨V4, hV4⟩ : ∃ V, w4.alloc (.cells #[.int .i64 (sumA p), .int .i64 (sumZ p)] 25) = V := ⟨_, rfl⟩
    rw [hV4] at hbx hnx
    have HBV4 := Lib.hid (bl_on (bl_on HBV3.out hb4) hbx)
    have HN4 := Lib.hid hnx
    have HX3 := Lib.hid (bl_on (bl_on HX3.out hb4) hbx)
    have HX4 := Lib.hid (Below.refl V4.heap.size V4)
    clear hb4 hbx hnx HQ4
    obtain ⟨g0, g1, g2, g3, g4, g5, g6, g7, g8, g9⟩ := HC.out V4 HBV4.out
    have HQ5 := Lib.hid (Rest_any _ p V4 (HV.out V4 HBV4.out) HP.out)
    unfold pgV at HQ5
    go_wp2_with fail
    refine HQ5.out.mono ?_
    rintro e w5 ⟨rfl, hb5⟩
    have hbx := below_new (w := w5) (.cells #[.int .i64 (rsA p), .int .i64 (rsZ p)] 25)
    have hnx := World.alloc_heap_new w5 (.cells #[.int .i64 (rsA p), .int .i64 (rsZ p)] 25)
    obtain ⟨V5, hV5⟩ : ∃ V, w5.alloc (.cells #[.int .i64 (rsA p), .int .i64 (rsZ p)] 25) = V := ⟨_, rfl⟩
    rw [hV5] at hbx hnx
    have HBV5 := Lib.hid (bl_on (bl_on HBV4.out hb5) hbx)
    have HN5 := Lib.hid hnx
    have HX3 := Lib.hid (bl_on (bl_on HX3.out hb5) hbx)
    have HX4 := Lib.hid (bl_on (bl_on HX4.out hb5) hbx)
    have HX5 := Lib.hid (Below.refl V5.heap.size V5)
    clear hb5 hbx hnx HQ5
    obtain ⟨g0, g1, g2, g3, g4, g5, g6, g7, g8, g9⟩ := HC.out V5 HBV5.out
    have HQ6 := Lib.hid (rRest_any _ p V5 (HV.out V5 HBV5.out) HP.out)
    unfold pgV at HQ6
    go_wp2_with fail
    refine HQ6.out.mono ?_
    rintro e w6 ⟨rfl, hb6⟩
    have hbx := below_new (w := w6) (.cells #[.int .i64 (rsA p), .int .i64 (rsZ p)] 25)
    have hnx := World.alloc_heap_new w6 (.cells #[.int .i64 (rsA p), .int .i64 (rsZ p)] 25)
    obtain ⟨V6, hV6⟩ : ∃ V, w6.alloc (.cells #[.int .i64 (rsA p), .int .i64 (rsZ p)] 25) = V := ⟨_, rfl⟩
    rw [hV6] at hbx hnx
    have HBV6 := Lib.hid (bl_on (bl_on HBV5.out hb6) hbx)
    have HN6 := Lib.hid hnx
    have HX3 := Lib.hid (bl_on (bl_on HX3.out hb6) hbx)
    have HX4 := Lib.hid (bl_on (bl_on HX4.out hb6) hbx)
    have HX5 := Lib.hid (bl_on (bl_on HX5.out hb6) hbx)
    have HX6 := Lib.hid (Below.refl V6.heap.size V6)
    clear hb6 hbx hnx HQ6
    obtain ⟨g0, g1, g2, g3, g4, g5, g6, g7, g8, g9⟩ := HC.out V6 HBV6.out
    have HQ7 := Lib.hid (Agrees_any _ p V6 (HV.out V6 HBV6.out) HP.out)
    unfold pgV at HQ7
    go_wp2_with fail
    refine HQ7.out.mono ?_
    rintro e w7 ⟨rfl, hb7⟩
    have HBw7 := Lib.hid (bl_on HBV6.out hb7)
    have HX3 := Lib.hid (bl_on HX3.out hb7)
    have HX4 := Lib.hid (bl_on HX4.out hb7)
    have HX5 := Lib.hid (bl_on HX5.out hb7)
    have HX6 := Lib.hid (bl_on HX6.out hb7)
    clear hb7 HQ7
    obtain ⟨g0, g1, g2, g3, g4, g5, g6, g7, g8, g9⟩ := HC.out w7 HBw7.out
    have HQ8 := Lib.hid (rAgrees_any _ p w7 (HV.out w7 HBw7.out) HP.out)
    unfold pgV at HQ8
    go_wp2_with fail
    refine HQ8.out.mono ?_
    rintro e w8 ⟨rfl, hb8⟩
    have HBw8 := Lib.hid (bl_on HBw7.out hb8)
    have HX3 := Lib.hid (bl_on HX3.out hb8)
    have HX4 := Lib.hid (bl_on HX4.out hb8)
    have HX5 := Lib.hid (bl_on HX5.out hb8)
    have HX6 := Lib.hid (bl_on HX6.out hb8)
    clear hb8 HQ8
    obtain ⟨g0, g1, g2, g3, g4, g5, g6, g7, g8, g9⟩ := HC.out w8 HBw8.out
    have HQ9 := Lib.hid (Tight_any _ p w8 (HV.out w8 HBw8.out) HP.out)
    unfold pgV at HQ9
    go_wp2_with fail
    refine HQ9.out.mono ?_
    rintro e w9 ⟨⟨u9, rfl, hu9⟩, hb9⟩
    obtain ⟨A9, c9, V9, rfl, hV9, hbx, hzx, hVx, _, hCx⟩ := pg_box hu9
    have HBV9 := Lib.hid (bl_on (bl_on HBw8.out hb9) hbx)
    have HV9 := Lib.hid hVx
    have HC9 := Lib.hid hCx
    obtain ⟨q, hq⟩ : ∃ q, tgP p = q := ⟨_, rfl⟩
    have HQs := Lib.hid (tgP_sm HP.out)
    obtain ⟨m, hm⟩ : ∃ m, q.ls.length = m := ⟨_, rfl⟩
    have HTQ := Lib.hid hq
    rw [hq] at HQs
    rw [hq, hm] at hV9 HV9 HC9 ⊢
    have HM := Lib.hid hm
    have HX3 := Lib.hid (bl_on (bl_on HX3.out hb9) hbx)
    have HX4 := Lib.hid (bl_on (bl_on HX4.out hb9) hbx)
    have HX5 := Lib.hid (bl_on (bl_on HX5.out hb9) hbx)
    have HX6 := Lib.hid (bl_on (bl_on HX6.out hb9) hbx)
    have HX9 := Lib.hid (Below.refl V9.heap.size V9)
    unfold pgC at hV9
    unfold pgV
    clear hu9 hb9 hbx hzx hVx hCx hq hm HQ9
    obtain ⟨g0, g1, g2, g3, g4, g5, g6, g7, g8, g9⟩ := HC.out V9 HBV9.out
    have HQ10 := Lib.hid (rTight_any _ p V9 (HV.out V9 HBV9.out) HP.out)
    unfold pgV at HQ10
    go_wp2_with fail
    refine HQ10.out.mono ?_
    rintro e w10 ⟨⟨u10, rfl, hu10⟩, hb10⟩
    obtain ⟨A10, c10, V10, rfl, hV10, hbx, hzx, hVx, _, hCx⟩ := pg_box hu10
    have HBV10 := Lib.hid (bl_on (bl_on HBV9.out hb10) hbx)
    have HV10 := Lib.hid hVx
    have HC10 := Lib.hid hCx
    have hq := HTQ.out
    have hm := HM.out
    rw [hq, hm] at hV10 HV10 HC10 ⊢
    have HX3 := Lib.hid (bl_on (bl_on HX3.out hb10) hbx)
    have HX4 := Lib.hid (bl_on (bl_on HX4.out hb10) hbx)
    have HX5 := Lib.hid (bl_on (bl_on HX5.out hb10) hbx)
    have HX6 := Lib.hid (bl_on (bl_on HX6.out hb10) hbx)
    have HX9 := Lib.hid (bl_on (bl_on HX9.out hb10) hbx)
    have HX10 := Lib.hid (Below.refl V10.heap.size V10)
    unfold pgC at hV10
    unfold pgV
    clear hu10 hb10 hbx hzx hVx hCx hq hm HQ10
    obtain ⟨a3, b3⟩ := cells_two ((HX3.out.block _ (Array.getElem?_eq_some_iff.1 HN3.out).1).trans HN3.out)
    obtain ⟨a4, b4⟩ := cells_two ((HX4.out.block _ (Array.getElem?_eq_some_iff.1 HN4.out).1).trans HN4.out)
    obtain ⟨a5, b5⟩ := cells_two ((HX5.out.block _ (Array.getElem?_eq_some_iff.1 HN5.out).1).trans HN5.out)
    obtain ⟨a6, b6⟩ := cells_two ((HX6.out.block _ (Array.getElem?_eq_some_iff.1 HN6.out).1).trans HN6.out)
    obtain ⟨s0, s1, s2, s3, s4, s5, s6, s7, s8, s9⟩ := HC9.out V10 HX9.out
    obtain ⟨t0, t1, t2, t3, t4, t5, t6, t7, t8, t9⟩ := HC10.out V10 (Below.refl _ _)
    have HSS := Lib.hid (SameSheet_same _ _ q V10 HQs.out (HV9.out V10 HX9.out) (HV10.out V10 (Below.refl _ _)))
    unfold pgV at HSS
    clear g0 g1 g2 g3 g4 g5 g6 g7 g8 g9
    go_wp2_with fail
    refine HSS.out.mono ?_
    rintro e w11 ⟨rfl, hb11⟩
    have HB11 := Lib.hid (bl_on HBV10.out hb11)
    clear hb11 s0 s1 s2 s3 s4 s5 s6 s7 s8 s9 t0 t1 t2 t3 t4 t5 t6 t7 t8 t9 hV9 hV10
    go_wp2_with fail
    go_ret
    exact ⟨rfl, HB.out.trans (HB11.out.mono HB.out.size)⟩
  · have hs : smB p = false := by simpa using hs
    rw [hs] at HSm
    clear hs
    go_wp2_with fail
    refine HSm.out.mono ?_
    rintro e w2 ⟨rfl, hb2⟩
    have HB2 := Lib.hid (bl_on HB1.out hb2)
    clear hb2 g0 g1 g2 g3 g4 g5 g6 g7 g8 g9
    go_wp2_with fail
    go_ret
    exact ⟨rfl, HB.out.trans (HB2.out.mono HB.out.size)⟩
end Go.Proofs.YtijidcigfdblaaaGreatDoor
