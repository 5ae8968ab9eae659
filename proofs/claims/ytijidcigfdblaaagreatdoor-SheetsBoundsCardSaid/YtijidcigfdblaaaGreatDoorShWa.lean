/- The examples of the document hold: awake. -/
import Derived.Test.YtijidcigfdblaaaGreatDoorShWt
namespace Go.Sh
open Go.Plc Go.Nm Go.Proofs.YtijidcigfdblaaaGreatDoor
theorem awk_tgt : (tgP (awkP 0 9)).lo = 8 ∧ (tgP (awkP 0 9)).hi = 9 ∧ (tgP (awkP 0 9)).ls.length = 2 ∧ ((tgP (awkP 0 9)).ls[0]?.map fun x => (x.lo, x.hi)) = some (3, 4) := by decide +kernel
theorem awk_rs : rsA (awkP 0 9) = 0 ∧ rsZ (awkP 0 9) = 1 ∧ agE (awkP 0 9) = 0 ∧ agE (awkP 0 7) = 3 ∧ rsA (awkP 0 7) = 0 ∧ rsZ (awkP 0 7) = 0 := by decide +kernel
theorem awk_prs : prsP (awkL ++ [32]) = pg0 := by
  unfold prsP
  rw [if_neg (by rw [awk_parse.1]; decide)]
theorem awk_sm (lo hi : Int) : PgSm (awkP lo hi) := ⟨by simp [awkP], fun x hx => by
  simp only [awkP, List.mem_cons, List.not_mem_nil, or_false] at hx
  rcases hx with rfl | rfl <;> simp⟩
end Go.Sh
namespace Go.Proofs.YtijidcigfdblaaaGreatDoor
open Go.RowKit Go.Nm Go.Sh Go.Plc

theorem GlO.of {w w' : World} (h : GlO w) (hb : Below w.heap.size w w') : GlO w' := h.below hb
theorem bl_on {w a b : World} (h : Below w.heap.size w a) (k : Below a.heap.size a b) : Below w.heap.size w b := h.trans (k.mono h.size)
set_option maxRecDepth 100000 in
set_option maxHeartbeats 16000000 in
theorem awake_any (w : World) (hG : GlO w) : Calls Tryz.prog 16 #[] w fun e w' => e = .returned (.bool true) ∧ Below w.heap.size w w' := by
  have HG := Lib.hid hG
  have HS1 := Lib.hid (sample_any 10 20 w)
  have HS2 := Lib.hid (fun Y => sample_any 0 9 Y)
  have HS3 := Lib.hid (fun Y => sample_any 0 7 Y)
  clear hG
  go_enter Tryz.func16, Tryz.ntmps16
  go_wp2_with fail
  refine HS1.out.mono ?_
  rintro e w1 ⟨⟨v1, rfl, hv1⟩, hb1⟩
  obtain ⟨p, hp⟩ : ∃ p, awkP 10 20 = p := ⟨_, rfl⟩
  have HP := Lib.hid hp
  rw [hp] at hv1
  obtain ⟨A1, c1, W2, rfl, hW2, hbW2, hz2, hV2, _, hC2⟩ := pg_box hv1
  have hn : p.ls.length = 2 := by rw [← hp]; rfl
  rw [hn] at hW2 hV2 hC2 ⊢
  have HB2 := Lib.hid (hb1.trans (hbW2.mono hb1.size))
  have HV2 := Lib.hid hV2
  have HC2 := Lib.hid hC2
  have HPr := Lib.hid (Print_any _ p W2 (hV2 W2 (Below.refl _ _)) (by rw [← hp]; exact awk_sm 10 20) (HG.out.of HB2.out))
  have hpe : prtE p = 0 := by rw [← hp]; exact awk_print.1
  have hpt : prtT p = awkL := by rw [← hp]; exact awk_print.2
  rw [hpe, hpt] at HPr
  unfold pgC at hW2
  unfold pgV
  unfold pgV at HPr
  obtain ⟨g0, g1, g2, g3, g4, g5, g6, g7, g8, g9⟩ := HC2.out W2 (Below.refl _ _)
  clear hb1 hv1 hbW2 hV2 hC2 hpe hpt hn hp hz2
  go_wp2_with fail
  refine HPr.out.mono ?_
  rintro e w3 ⟨rfl, hb3⟩
  have HB3 := Lib.hid (bl_on HB2.out hb3)
  have HD3 := Lib.hid hb3
  clear hb3 hW2 g0 g1 g2 g3 g4 g5 g6 g7 g8 g9
  have hcat : (⟨#[115, 104, 101, 101, 116, 32, 55, 32, 51, 32, 53, 32, 54, 32, 49, 48, 48, 32, 50, 32, 49, 48, 32, 50, 48, 10, 108, 105, 110, 101, 32, 52, 32, 51, 32, 57, 10, 108, 105, 110, 101, 32, 56, 32, 53, 32, 53, 32, 51, 32, 49, 10, 101, 110, 100, 10]⟩ : ByteArray) ++ ⟨#[32]⟩ = ⟨(awkL ++ [32]).toArray⟩ := by apply ByteArray.ext; simp [awkL]
  have HPa := Lib.hid (Parse_any (awkL ++ [32]) w3 (by decide) (HG.out.of HB3.out))
  rw [awk_parse.1, awk_parse.2, awk_prs] at HPa
  unfold pgV at HPa
  go_wp2_with fail
  refine HPa.out.mono ?_
  rintro e w4 ⟨⟨vs, rfl, hls⟩, hb4⟩
  obtain ⟨A5, c5, rfl⟩ := hls.form
  have HB4 := Lib.hid (bl_on HB3.out hb4)
  have HD4 := Lib.hid (bl_on HD3.out hb4)
  have hb5 := below_new (w := w4) (.cells (pgC pg0 (.slice A5 pg0.ls.length c5)) 28)
  obtain ⟨W5, hW5⟩ : ∃ W, w4.alloc (.cells (pgC pg0 (.slice A5 pg0.ls.length c5)) 28) = W := ⟨_, rfl⟩
  rw [hW5] at hb5
  have HB5 := Lib.hid (bl_on HB4.out hb5)
  have HD5 := Lib.hid (bl_on HD4.out hb5)
  have HS5 := Lib.hid (HS2.out W5)
  unfold pgC at hW5
  clear hb4 hls hb5 hcat HPa HPr
  go_wp2_with fail
  refine HS5.out.mono ?_
  rintro e w6 ⟨⟨v6, rfl, hv6⟩, hb6⟩
  have HB6 := Lib.hid (bl_on HB5.out hb6)
  have HD6 := Lib.hid (bl_on HD5.out hb6)
  have HR6 := Lib.hid (Rest_any v6 (awkP 0 9) w6 hv6 (awk_sm 0 9))
  rw [awk_rs.1, awk_rs.2.1, awk_rs.2.2.1] at HR6
  clear hv6 hb6 hW5 HS5
  go_wp2_with fail
  refine HR6.out.mono ?_
  rintro e w7 ⟨rfl, hb7⟩
  have HB7 := Lib.hid (bl_on HB6.out hb7)
  have HD7 := Lib.hid (bl_on HD6.out hb7)
  have hb8 := below_new (w := w7) (.cells #[.int .i64 0, .int .i64 1] 25)
  have hn8 := World.alloc_heap_new w7 (.cells #[.int .i64 0, .int .i64 1] 25)
  obtain ⟨W8, hW8⟩ : ∃ W, w7.alloc (.cells #[.int .i64 0, .int .i64 1] 25) = W := ⟨_, rfl⟩
  rw [hW8] at hb8 hn8
  have HB8 := Lib.hid (bl_on HB7.out hb8)
  have HD8 := Lib.hid (bl_on HD7.out hb8)
  have HN8 := Lib.hid hn8
  have HS8 := Lib.hid (HS2.out W8)
  clear hb7 hb8 hn8 HR6
  go_wp2_with fail
  refine HS8.out.mono ?_
  rintro e w9 ⟨⟨v9, rfl, hv9⟩, hb9⟩
  have HB9 := Lib.hid (bl_on HB8.out hb9)
  have HD9 := Lib.hid (bl_on HD8.out hb9)
  have HE9 := Lib.hid hb9
  have HT9 := Lib.hid (Tight_any v9 (awkP 0 9) w9 hv9 (awk_sm 0 9))
  rw [awk_rs.2.2.1] at HT9
  clear hv9 hb9 hW8 HS8
  go_wp2_with fail
  refine HT9.out.mono ?_
  rintro e w10 ⟨⟨u10, rfl, hu10⟩, hb10⟩
  obtain ⟨q, hq⟩ : ∃ q, tgP (awkP 0 9) = q := ⟨_, rfl⟩
  have HQ := Lib.hid awk_tgt
  rw [hq] at hu10 HQ
  obtain ⟨A11, c11, W11, rfl, hW11, hb11, hz11, hV11, hL11, hC11⟩ := pg_box hu10
  rw [HQ.out.2.2.1] at hW11 hV11 hL11 hC11 ⊢
  have HB11 := Lib.hid (bl_on (bl_on HB9.out hb10) hb11)
  have HD11 := Lib.hid (bl_on (bl_on HD9.out hb10) hb11)
  have HE11 := Lib.hid (bl_on (bl_on HE9.out hb10) hb11)
  have HC11 := Lib.hid hC11
  have HL11 := Lib.hid (hL11 W11 (Below.refl _ _))
  have HS11 := Lib.hid (HS3.out W11)
  unfold pgC at hW11
  unfold pgV
  clear hu10 hb10 hb11 hz11 hV11 hL11 hC11 hq HT9
  go_wp2_with fail
  refine HS11.out.mono ?_
  rintro e w12 ⟨⟨v12, rfl, hv12⟩, hb12⟩
  have HB12 := Lib.hid (bl_on HB11.out hb12)
  have HD12 := Lib.hid (bl_on HD11.out hb12)
  have HE12 := Lib.hid (bl_on HE11.out hb12)
  have HF12 := Lib.hid hb12
  have HR12 := Lib.hid (Rest_any v12 (awkP 0 7) w12 hv12 (awk_sm 0 7))
  rw [awk_rs.2.2.2.1] at HR12
  obtain ⟨a7, ha7⟩ : ∃ a, rsA (awkP 0 7) = a := ⟨_, rfl⟩
  obtain ⟨b7, hb7⟩ : ∃ a, rsZ (awkP 0 7) = a := ⟨_, rfl⟩
  rw [ha7, hb7] at HR12
  clear hv12 hb12 hW11 HS11 ha7 hb7
  go_wp2_with fail
  refine HR12.out.mono ?_
  rintro e w13 ⟨rfl, hb13⟩
  have hb14 := below_new (w := w13) (.cells #[.int .i64 a7, .int .i64 b7] 25)
  obtain ⟨W14, hW14⟩ : ∃ W, w13.alloc (.cells #[.int .i64 a7, .int .i64 b7] 25) = W := ⟨_, rfl⟩
  rw [hW14] at hb14
  have hb15 := below_new (w := W14) (.cells #[.int .i64 10, .int .i64 0, .int .i64 0] 23)
  have hn15 := World.alloc_heap_new W14 (.cells #[.int .i64 10, .int .i64 0, .int .i64 0] 23)
  obtain ⟨W15, hW15⟩ : ∃ W, W14.alloc (.cells #[.int .i64 10, .int .i64 0, .int .i64 0] 23) = W := ⟨_, rfl⟩
  have hz15 : W15.heap.size = W14.heap.size + 1 := by rw [← hW15]; simp
  rw [hW15] at hb15 hn15
  have hb16 := below_new (w := W15) (.cells #[.int .i64 4, .slice (some ⟨W14.heap.size, 0, none⟩) 1 1, .int .i64 101, .int .i64 1231, .int .i64 2] 92)
  have hn16 := World.alloc_heap_new W15 (.cells #[.int .i64 4, .slice (some ⟨W14.heap.size, 0, none⟩) 1 1, .int .i64 101, .int .i64 1231, .int .i64 2] 92)
  obtain ⟨W16, hW16⟩ : ∃ W, W15.alloc (.cells #[.int .i64 4, .slice (some ⟨W14.heap.size, 0, none⟩) 1 1, .int .i64 101, .int .i64 1231, .int .i64 2] 92) = W := ⟨_, rfl⟩
  have hz16 : W16.heap.size = W15.heap.size + 1 := by rw [← hW16]; simp
  rw [hW16] at hb16 hn16
  have hn15 := (hb16.block _ (by omega)).trans hn15
  have hb14 := bl_on (bl_on (bl_on hb13 hb14) hb15) hb16
  have HB16 := Lib.hid (bl_on HB12.out hb14)
  have HD16 := Lib.hid (bl_on HD12.out hb14)
  have HE16 := Lib.hid (bl_on HE12.out hb14)
  have HF16 := Lib.hid (bl_on HF12.out hb14)
  have hrl : RlSl W16 W16.heap.size (.slice (some ⟨W15.heap.size, 0, none⟩) 1 1) awkR := by
    obtain ⟨r0, r1, r2, r3, r4⟩ := cells_five hn16
    refine ⟨_, _, rfl, fun i r hr => ?_⟩
    have hi : i = 0 := by have := (List.getElem?_eq_some_iff.1 hr).1; simp [awkR] at this; omega
    subst hi
    have er : (⟨4, [⟨10, 0, 0⟩], 101, 1231, 2⟩ : Rl) = r := by injection hr
    subst er
    refine ⟨_, some ⟨W14.heap.size, 0, none⟩, 1, rfl, by show W15.heap.size < _; omega, ?_, ?_, ?_, ?_, ?_, ⟨_, _, rfl, fun j s hs => ?_⟩⟩
    · rw [add_zeroB]; exact r0
    · rw [add_zeroB]; exact r1
    · rw [add_zeroB]; exact r2
    · rw [add_zeroB]; exact r3
    · rw [add_zeroB]; exact r4
    · have hj : j = 0 := by have := (List.getElem?_eq_some_iff.1 hs).1; simp at this; omega
      subst hj
      have es : (⟨10, 0, 0⟩ : Sq) = s := by injection hs
      subst es
      refine ⟨_, rfl, by show W14.heap.size < _; omega, ?_, ?_, ?_⟩ <;> rw [add_zeroB] <;> simp [World.cell?, hn15]
  have HDo := Lib.hid (Doubts_any _ awkR (pgV p (.slice A1 2 c1)) p W16 (HV2.out W16 HD16.out) (by rw [← HP.out]; exact awk_sm 10 20) hrl (by decide) (by intro r hr; simp only [awkR, List.mem_cons, List.not_mem_nil, or_false] at hr; subst hr; exact ⟨by decide, ⟨by decide, by decide⟩, ⟨by decide, by decide⟩⟩) (HG.out.of HB16.out))
  rw [← HP.out, awk_doubts.1, awk_doubts.2, HP.out] at HDo
  unfold pgV at HDo
  obtain ⟨g0, g1, g2, g3, g4, g5, g6, g7, g8, g9⟩ := HC2.out W16 HD16.out
  clear hb13 hb14 hb15 hb16 hn15 hn16 hrl hz16 hz15 HR12
  go_wp2_with fail
  refine HDo.out.mono ?_
  rintro e w17 ⟨u, rfl, hd⟩
  have hb17 := hd.bel
  have HB17 := Lib.hid (bl_on HB16.out hb17)
  have HDs := Lib.hid hd.ds
  have hbE := bl_on HE16.out hb17
  have hbF := bl_on HF16.out hb17
  obtain ⟨s0, s1⟩ := cells_two ((hbE.block _ (Array.getElem?_eq_some_iff.1 HN8.out).1).trans HN8.out)
  obtain ⟨t0, t1, t2, t3, t4, t5, t6, t7, t8, t9⟩ := HC11.out w17 hbF
  rw [HQ.out.1] at t7
  rw [HQ.out.2.1] at t8
  obtain ⟨x, ad, As, cs, hx, hA, hY⟩ := HL11.out.at_ (i := 0) (by omega)
  obtain ⟨⟨l0, l1, l2, l3⟩, _⟩ := hY w17 hbF
  have hxx : x.lo = 3 ∧ x.hi = 4 := by
    have h := HQ.out.2.2.2
    rw [hx] at h
    simp only [Option.map_some, Option.some.injEq, Prod.mk.injEq] at h
    exact h
  rw [hxx.1] at l1
  rw [hxx.2] at l2
  have e0 : (ad.add (0 * 4)).off = ad.off := by cases ad; simp [Addr.add]
  rw [add_block, e0] at l1 l2
  have b18 := below_new (w := w17) (.cells #[.int .i64 0, .int .i64 0, .int .i64 3] 87)
  have n18 := World.alloc_heap_new w17 (.cells #[.int .i64 0, .int .i64 0, .int .i64 3] 87)
  obtain ⟨W18, hW18⟩ : ∃ W, w17.alloc (.cells #[.int .i64 0, .int .i64 0, .int .i64 3] 87) = W := ⟨_, rfl⟩
  rw [hW18] at b18 n18
  have HSd := Lib.hid (SameDoubts_any u _ [(0, 0, 3)] W18 (HDs.out.step b18) (ds_one n18) (by decide))
  have HB18 := Lib.hid (bl_on HB17.out b18)
  subst hA
  clear hd hb17 hbE hbF hx hxx hY b18 n18 g0 g1 g2 g3 g4 g5 g6 g7 g8 g9 hW16 hW15 hW14
  go_wp2_with fail
  refine HSd.out.mono ?_
  rintro e w19 ⟨rfl, hb19⟩
  have HB19 := Lib.hid (bl_on HB18.out hb19)
  clear hb19 hW18 s0 s1 t0 t1 t2 t3 t4 t5 t6 t7 t8 t9 l0 l1 l2 l3
  go_wp2_with fail
  go_ret
  exact ⟨rfl, HB19.out⟩
end Go.Proofs.YtijidcigfdblaaaGreatDoor
