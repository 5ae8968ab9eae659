/- Sum, Rest, Agrees: the reference. -/
import Derived.Test.YtijidcigfdblaaaGreatDoorShG
namespace Go.Proofs.YtijidcigfdblaaaGreatDoor
open Go.RowKit Go.Nm Go.Sh Go.Plc

set_option maxRecDepth 100000 in
set_option maxHeartbeats 8000000 in
theorem rsum_any (v : Value) (p : Pg) (w : World) (hv : PgV w v p) (hp : PgSm p) (hok : PgOk p) : Calls Tryz.prog 95 #[v] w fun e w' => e = .returned (.agg #[.int .i64 (sLo p.ls), .int .i64 (sHi p.ls)]) ∧ Below w.heap.size w w' := by
  obtain ⟨A, c, W0, W1, rfl, hW0, hW1, hb1, hz0, hz1, hn1, hV, hL, hC⟩ := pg_box2 hv #[.int .i64 0, .int .i64 0] 25
  have hb2 := below_new (w := W1) (.cells #[.int .i64 0, .int .i64 0] 25)
  have hn2 := World.alloc_heap_new W1 (.cells #[.int .i64 0, .int .i64 0] 25)
  obtain ⟨W2, hW2⟩ : ∃ W, W1.alloc (.cells #[.int .i64 0, .int .i64 0] 25) = W := ⟨_, rfl⟩
  have hz2 : W2.heap.size = w.heap.size + 1 + 1 + 1 := by rw [← hW2]; simp [hz1]
  rw [hW2] at hb2 hn2
  rw [hz1] at hn2
  have hn1 := (hb2.block _ (by omega)).trans hn1
  have HB1 := Lib.hid hb1
  have HN0 := Lib.hid (And.intro hn1 hn2)
  have HL := Lib.hid (hL W1 (Below.refl _ _))
  have HC := Lib.hid hC
  have HB2 := Lib.hid (hb2.mono (show w.heap.size + 1 ≤ W1.heap.size by omega))
  have HBd := Lib.hid (fun i (h : i ≤ p.ls.length) => sum_bd hok.ln i h)
  have HOk := Lib.hid hok.ln
  have HSt := Lib.hid (fun (i : Nat) (x : Ln) (h : p.ls[i]? = some x) => show sLo (p.ls.take (i + 1)) = sLo (p.ls.take i) + x.lo ∧ sHi (p.ls.take (i + 1)) = sHi (p.ls.take i) + x.hi from ⟨s_next1 h, s_next2 h⟩)
  have hn := hp.1
  have HLr := Lib.hid (fun Y (h : Below (w.heap.size + 1) W1 Y) => hC Y h)
  have HLa := Lib.hid (fun Y (h : Below (w.heap.size + 1) W1 Y) (hz : W1.heap.size ≤ Y.heap.size) => show True from trivial)
  obtain ⟨g0, g1, g2, g3, g4, g5, g6, g7, g8, g9⟩ := hC W1 (Below.refl _ _)
  obtain ⟨n, hn'⟩ : ∃ n, p.ls.length = n := ⟨_, rfl⟩
  have HN := Lib.hid hn'
  have HEn := Lib.hid (show sLo (p.ls.take n) = sLo p.ls ∧ sHi (p.ls.take n) = sHi p.ls from by rw [List.take_of_length_le (by omega)]; exact ⟨rfl, rfl⟩)
  have hl0 : LnSl w w.heap.size (.slice A n c) p.ls := by
    obtain ⟨vl, e, h⟩ := hv
    have e2 : Value.slice A p.ls.length c = vl := by unfold pgV at e; simpa using e
    rw [← hn', e2]; exact h
  have HL0 := Lib.hid hl0
  unfold pgV
  unfold pgC at hW0
  rw [hn'] at HBd hn g9 hW0 ⊢
  have HCn := Lib.hid (fun Y (h : Below (w.heap.size + 1) W1 Y) => show Y.cell? ⟨w.heap.size, 9, none⟩ = some (.slice A n c) from by have h2 := (hC Y h).2.2.2.2.2.2.2.2.2; rw [hn'] at h2; exact h2)
  have HZ := Lib.hid (And.intro hz0 (And.intro hz1 hz2))
  have hs3 : w.heap.size + 3 ≤ W2.heap.size := by omega
  obtain ⟨u0, u1⟩ := cells_two hn2
  have uf0 := frozen_cells hn2 0
  have uf1 := frozen_cells hn2 1
  have hst := put_two hn2 (.int .i64 0) (.int .i64 0)
  have HSt0 := Lib.hid hst
  clear hv hp hok hb1 hb2 hn1 hn2 hz2 hn' hV hL hC HL HLr HLa hl0 hst
  go_enter Tryz.func95, Tryz.ntmps95
  go_wp2_with fail
  clear hW0 hW1 hW2 hz0 hz1 u0 u1 uf0 uf1 g0 g1 g2 g3 g4 g5 g6 g7 g8 g9
  go_loopw [4] (fun iv wr => ∃ i : Nat, iv = .int .i64 (i : Int) ∧ i ≤ n ∧ Below (w.heap.size + 1) W1 wr ∧ w.heap.size + 3 ≤ wr.heap.size ∧ wr.heap[w.heap.size + 1]? = some (.cells #[.int .i64 0, .int .i64 0] 25) ∧ wr.heap[w.heap.size + 1 + 1]? = some (.cells #[.int .i64 (sLo (p.ls.take i)), .int .i64 (sHi (p.ls.take i))] 25)) (fun iv _ => n - (intOf iv).toNat)
  case atStart => exact ⟨0, rfl, by omega, (HB2.out.setCell (by show _ ≤ _ + 1 + 1; omega) _).setCell (by show _ ≤ _ + 1 + 1; omega) _, by simp; exact hs3, by rw [put_other (by omega), put_other (by omega)]; exact HN0.out.1, HSt0.out⟩
  case round =>
    obtain ⟨i, rfl, hin, hb, hsz, hr0, hr1⟩ := hrel
    have HB := Lib.hid hb
    have HR := Lib.hid (And.intro hr0 hr1)
    have g9 := HCn.out wr hb
    obtain ⟨s0, s1⟩ := cells_two hr1
    by_cases hlt : i < n
    · have his : (i : Int) < (n : Int) := by omega
      have hi0 : ¬ (i : Int) < 0 := by omega
      have hbw : Below w.heap.size w wr := HB1.out.trans (hb.mono (by omega))
      obtain ⟨x, ad, As, cs, hx, rfl, hY⟩ := HL0.out.at_ hlt
      obtain ⟨⟨l0, l1, l2, l3⟩, hsn⟩ := hY wr hbw
      have hbn := below_new (w := wr) (.cells #[.int .i64 x.lo, .int .i64 x.hi] 25)
      have hnn := World.alloc_heap_new wr (.cells #[.int .i64 x.lo, .int .i64 x.hi] 25)
      obtain ⟨V, hV⟩ : ∃ V, wr.alloc (.cells #[.int .i64 x.lo, .int .i64 x.hi] 25) = V := ⟨_, rfl⟩
      have hVz : V.heap.size = wr.heap.size + 1 := by rw [← hV]; simp
      rw [hV] at hbn hnn
      have HX := Lib.hid hx
      obtain ⟨m1, m2⟩ := cells_two hnn
      have v1 := (hbn.block _ (by omega)).trans hr1
      have v0 := (hbn.block _ (by omega)).trans hr0
      clear s0 s1
      obtain ⟨s0, s1⟩ := cells_two v1
      have f0 := frozen_cells v1 0
      have f1 := frozen_cells v1 1
      have hc := ln_cnt (HOk.out x (List.mem_of_getElem? hx))
      have hbd := HBd.out i (by omega)
      obtain ⟨e1, e2⟩ := HSt.out i x hx
      obtain ⟨a, ha⟩ : ∃ z, sLo (p.ls.take i) = z := ⟨_, rfl⟩
      obtain ⟨b, hb'⟩ : ∃ z, sHi (p.ls.take i) = z := ⟨_, rfl⟩
      rw [ha, hb'] at hbd
      rw [ha] at e1 s0
      rw [hb'] at e2 s1
      have HE := Lib.hid (And.intro e1 e2)
      have hw1 : IntKind.i64.wrap (a + x.lo) = a + x.lo := by rw [IntKind.wrap_i64]; omega
      have hw2 : IntKind.i64.wrap (b + x.hi) = b + x.hi := by rw [IntKind.wrap_i64]; omega
      have HQ := Lib.hid (And.intro v0 (And.intro v1 (show Below (w.heap.size + 1) W1 V ∧ w.heap.size + 3 ≤ V.heap.size from ⟨hb.trans (hbn.mono (by omega)), by omega⟩)))
      have HQ3 := Lib.hid (show V.heap.size = wr.heap.size + 1 ∧ w.heap.size + 3 ≤ wr.heap.size from ⟨hVz, hsz⟩)
      clear hx hY hsn hbn hnn hr0 hr1 v0 v1 e1 e2 ha hb' hc hbd hb hbw hsz hVz
      go_wp2_with fail
      clear hV
      go_roundw
      case rel =>
        refine ⟨i + 1, by go_num, by omega, (HQ.out.2.2.1.setCell (by show _ ≤ _ + 1 + 1; omega) _).setCell (by show _ ≤ _ + 1 + 1; omega) _, by simp; exact HQ.out.2.2.2, ?_, ?_⟩
        · rw [put_other (by omega), put_other (by omega)]; exact HQ.out.1
        · rw [HE.out.1, HE.out.2]; exact put_two HQ.out.2.1 _ _
      case measure => simp [intOf]; omega
    · obtain rfl : n = i := by omega
      obtain ⟨t0, t1⟩ := cells_two hr0
      have f0 := frozen_cells hr0 0
      have f1 := frozen_cells hr0 1
      have p0 := put_two hr0 (.int .i64 (sLo (p.ls.take n))) (.int .i64 (sHi (p.ls.take n)))
      obtain ⟨p0, p1⟩ := cells_two p0
      have HBw := Lib.hid (HB1.out.trans (hb.mono (by omega)))
      clear hb
      go_wp2_with fail
      refine bodyPost_ret (v := .agg #[.int .i64 (sLo (p.ls.take n)), .int .i64 (sHi (p.ls.take n))]) (by simp [results, Tryz.results95, go_sem, p0, p1]) rfl ⟨by rw [HEn.out.1, HEn.out.2], (HBw.out.setCell (by show _ ≤ _ + 1; omega) _).setCell (by show _ ≤ _ + 1; omega) _⟩
theorem field0 (x y : Value) (w : World) : (Instr.field 25 (.agg #[x, y]) 0).run Tryz.prog w = .ok x w := by kernel_rfl
set_option maxRecDepth 100000 in
set_option maxHeartbeats 8000000 in
theorem ragrees_any (v : Value) (p : Pg) (w : World) (hv : PgV w v p) (hp : PgSm p) (hok : PgOk p) : Calls Tryz.prog 97 #[v] w fun e w' => e = .returned (.bool (decide (sLo p.ls ≤ p.hi))) ∧ Below w.heap.size w w' := by
  obtain ⟨A, c, W0, rfl, hW0, hb0, hz0, hV, hL, hC⟩ := pg_box hv
  have HB0 := Lib.hid hb0
  have HSz := Lib.hid (fun z : Wb W0 => rsum_any _ p z.v (hV z.v z.h) hp hok)
  have ss := fun z : Wb W0 => hC z.v z.h
  obtain ⟨g0, g1, g2, g3, g4, g5, g6, g7, g8, g9⟩ := hC W0 (Below.refl _ _)
  have ss := fun z : Wb W0 => And.intro (And.intro (And.intro (Wb.cell g0 z) (Wb.cell g1 z)) (And.intro (Wb.cell g2 z) (Wb.cell g3 z))) (And.intro (And.intro (Wb.cell g4 z) (And.intro (Wb.cell g5 z) (Wb.cell g6 z))) (And.intro (Wb.cell g7 z) (And.intro (Wb.cell g8 z) (Wb.cell g9 z))))
  unfold pgV at HSz ⊢
  unfold pgC at hW0
  generalize p.ls.length = n at *
  obtain ⟨a, ha⟩ : ∃ z, sLo p.ls = z := ⟨_, rfl⟩
  rw [ha] at HSz ⊢
  have hfl := field0
  clear hv hp hok hb0 hV hL hC ha
  go_enter Tryz.func97, Tryz.ntmps97
  go_wp2_with fail
  clear hW0 hz0 g0 g1 g2 g3 g4 g5 g6 g7 g8 g9
  refine wp_region_wb (by kernel_rfl) (by kernel_rfl) ?_; (repeat ((with_reducible refine wpQuiet_step ?_); intro K hK; go_simp; (try (refine ite_neg_of (by simp [undef]) ?_)); first | (with_reducible refine hK _ ?_; clear hK K) | (apply Exists.intro; (with_reducible refine ⟨fun _ => ?_, hK _ ?_⟩); ((go_at_call 95; exact Calls.wb (HSz.out _))); clear hK K))); (with_reducible refine wpQuiet_nil ?_); rintro w1 ⟨⟨_, hb1⟩, rfl⟩; (try dsimp only)
  have HB := Lib.hid (HB0.out.trans (hb1.mono HB0.out.size))
  clear hb1 ss HSz
  (try go_wp2_with fail)
  go_ret
  exact ⟨by simp, HB.out⟩
theorem val_ok {p : Pg} (h : valE p = 0) : PgOk p := by
  unfold valE at h
  by_cases h1 : okP p = true
  · exact ok_iff.1 h1
  · rw [if_neg h1] at h; omega
theorem val_cases (p : Pg) : valE p = 0 ∨ valE p = 40 := by unfold valE; split <;> simp
theorem val_sum (p : Pg) : (valE p = 0 → sumA p = sLo p.ls ∧ sumZ p = sHi p.ls) ∧ (valE p = 40 → sumA p = 0 ∧ sumZ p = 0) := by
  unfold valE sumA sumZ
  by_cases h1 : okP p = true <;> simp [h1]
theorem val_ag (p : Pg) : (valE p = 0 → agE p = if sLo p.ls ≤ p.hi then 0 else 3) ∧ (valE p = 40 → agE p = 40) := by
  unfold valE agE
  by_cases h1 : okP p = true <;> simp [h1]
set_option maxRecDepth 100000 in
set_option maxHeartbeats 8000000 in
theorem rSum_any (v : Value) (p : Pg) (w : World) (hv : PgV w v p) (hp : PgSm p) : Calls Tryz.prog 35 #[v] w fun e w' => e = .returned (.tuple #[.agg #[.int .i64 (sumA p), .int .i64 (sumZ p)], .int .i64 (valE p)]) ∧ Below w.heap.size w w' := by
  obtain ⟨A, c, W0, W1, rfl, hW0, hW1, hb1, hz0, hz1, hn1, hV, hL, hC⟩ := pg_box2 hv #[.int .i64 0, .int .i64 0] 25
  have HB1 := Lib.hid hb1
  have HN1 := Lib.hid hn1
  have HV := Lib.hid hV
  have HC := Lib.hid hC
  have HZ := Lib.hid (And.intro hz0 hz1)
  have HF := Lib.hid (rvalid_any _ p W1 (hV W1 (Below.refl _ _)) hp)
  have HS := Lib.hid (fun (h : valE p = 0) Y (hY : Below W1.heap.size W1 Y) => rsum_any _ p Y (hV Y hY) hp (val_ok h))
  obtain ⟨ve, hve⟩ : ∃ b, valE p = b := ⟨_, rfl⟩
  obtain ⟨g0, g1, g2, g3, g4, g5, g6, g7, g8, g9⟩ := hC W1 (Below.refl _ _)
  have HCs := Lib.hid (val_cases p)
  rw [hve] at HCs HF HS
  have HR := Lib.hid (val_sum p)
  rw [hve] at HR ⊢
  unfold pgV at HF HS ⊢
  unfold pgC at hW0
  generalize p.ls.length = n at *
  clear hv hp hb1 hz1 hn1 hV hL hC HV hve
  go_enter Tryz.func35, Tryz.ntmps35
  go_wp2_with fail
  (with_reducible refine HF.out.mono ?_)
  rintro e w1 ⟨rfl, hb⟩
  have q1 := (hb.block _ (by have := HZ.out.2; omega)).trans HN1.out
  obtain ⟨t0, t1⟩ := cells_two q1
  have f0 := frozen_cells q1 0
  have f1 := frozen_cells q1 1
  have HB2 := Lib.hid (HB1.out.trans (hb.mono HB1.out.size))
  have HB21 := Lib.hid hb
  clear hW0 hW1 hz0 g0 g1 g2 g3 g4 g5 g6 g7 g8 g9
  obtain ⟨g0, g1, g2, g3, g4, g5, g6, g7, g8, g9⟩ := HC.out w1 (hb.mono (by have := HZ.out.2; omega))
  rcases HCs.out with h0 | h0
  rotate_left
  · subst h0
    clear hb HF
    have r := put_two q1 (.int .i64 (0)) (.int .i64 (0))
    obtain ⟨r0, r1⟩ := cells_two r
    clear r
    go_wp2_with fail
    exact bodyPost_ret (v := .tuple #[.agg #[.int .i64 (0), .int .i64 (0)], .int .i64 40]) (by simp [results, Tryz.results35, go_sem, r0, r1]) rfl ⟨by rw [(HR.out.2 (by first | trivial | rfl)).1, (HR.out.2 (by first | trivial | rfl)).2], (HB2.out.setCell (by show _ ≤ _ + 1; omega) _).setCell (by show _ ≤ _ + 1; omega) _⟩
  · subst h0
    have HS1 := Lib.hid (HS.out (by first | trivial | rfl) w1 HB21.out)
    clear hb q1 t0 t1 f0 f1
    go_wp2_with fail
    (with_reducible refine HS1.out.mono ?_)
    rintro e w2 ⟨rfl, hb⟩
    have HB3 := Lib.hid (HB2.out.trans (hb.mono HB2.out.size))
    replace HB21 := Lib.hid (HB21.out.trans (hb.mono HB21.out.size))
    have q1 := (HB21.out.block _ (by have := HZ.out.2; omega)).trans HN1.out
    obtain ⟨t0, t1⟩ := cells_two q1
    have f0 := frozen_cells q1 0
    have f1 := frozen_cells q1 1
    clear hb g0 g1 g2 g3 g4 g5 g6 g7 g8 g9
    have r := put_two q1 (.int .i64 (sLo p.ls)) (.int .i64 (sHi p.ls))
    obtain ⟨r0, r1⟩ := cells_two r
    clear r
    go_wp2_with fail
    exact bodyPost_ret (v := .tuple #[.agg #[.int .i64 (sLo p.ls), .int .i64 (sHi p.ls)], .int .i64 0]) (by simp [results, Tryz.results35, go_sem, r0, r1]) rfl ⟨by rw [(HR.out.1 (by first | trivial | rfl)).1, (HR.out.1 (by first | trivial | rfl)).2], (HB3.out.setCell (by show _ ≤ _ + 1; omega) _).setCell (by show _ ≤ _ + 1; omega) _⟩
set_option maxRecDepth 100000 in
set_option maxHeartbeats 8000000 in
theorem rRest_any (v : Value) (p : Pg) (w : World) (hv : PgV w v p) (hp : PgSm p) : Calls Tryz.prog 37 #[v] w fun e w' => e = .returned (.tuple #[.agg #[.int .i64 (rsA p), .int .i64 (rsZ p)], .int .i64 (agE p)]) ∧ Below w.heap.size w w' := by
  obtain ⟨A, c, W0, W1, rfl, hW0, hW1, hb1, hz0, hz1, hn1, hV, hL, hC⟩ := pg_box2 hv #[.int .i64 0, .int .i64 0] 25
  have HB1 := Lib.hid hb1
  have HN1 := Lib.hid hn1
  have HV := Lib.hid hV
  have HC := Lib.hid hC
  have HZ := Lib.hid (And.intro hz0 hz1)
  have HF := Lib.hid (rvalid_any _ p W1 (hV W1 (Below.refl _ _)) hp)
  have HS := Lib.hid (fun (h : valE p = 0) Y (hY : Below W1.heap.size W1 Y) => rsum_any _ p Y (hV Y hY) hp (val_ok h))
  have HA := Lib.hid (fun (h : valE p = 0) Y (hY : Below W1.heap.size W1 Y) => ragrees_any _ p Y (hV Y hY) hp (val_ok h))
  have HOk := Lib.hid (fun (h : valE p = 0) => sums_ok (val_ok h))
  have HD := Lib.hid (show rsA p = (if agE p = 0 then max 0 (p.lo - sHi p.ls) else 0) ∧ rsZ p = (if agE p = 0 then p.hi - sLo p.ls else 0) from ⟨rfl, rfl⟩)
  obtain ⟨ve, hve⟩ : ∃ b, valE p = b := ⟨_, rfl⟩
  obtain ⟨g0, g1, g2, g3, g4, g5, g6, g7, g8, g9⟩ := hC W1 (Below.refl _ _)
  have HCs := Lib.hid (val_cases p)
  rw [hve] at HCs HF HS
  have HR := Lib.hid (val_ag p)
  rw [hve] at HR HA HOk
  obtain ⟨ae, hae⟩ : ∃ b, agE p = b := ⟨_, rfl⟩
  rw [hae] at HR HD ⊢
  unfold pgV at HF HS HA ⊢
  unfold pgC at hW0
  generalize p.ls.length = n at *
  clear hv hp hb1 hz1 hn1 hV hL hC HV hve hae
  go_enter Tryz.func37, Tryz.ntmps37
  go_wp2_with fail
  (with_reducible refine HF.out.mono ?_)
  rintro e w1 ⟨rfl, hb⟩
  have q1 := (hb.block _ (by have := HZ.out.2; omega)).trans HN1.out
  obtain ⟨t0, t1⟩ := cells_two q1
  have f0 := frozen_cells q1 0
  have f1 := frozen_cells q1 1
  have HB2 := Lib.hid (HB1.out.trans (hb.mono HB1.out.size))
  have HB21 := Lib.hid hb
  clear hW0 hW1 hz0 g0 g1 g2 g3 g4 g5 g6 g7 g8 g9
  obtain ⟨g0, g1, g2, g3, g4, g5, g6, g7, g8, g9⟩ := HC.out w1 (hb.mono (by have := HZ.out.2; omega))
  rcases HCs.out with h0 | h0
  rotate_left
  · subst h0
    have HE := Lib.hid (HR.out.2 (by first | trivial | rfl))
    clear hb HF
    have r := put_two q1 (.int .i64 (0)) (.int .i64 (0))
    obtain ⟨r0, r1⟩ := cells_two r
    clear r
    go_wp2_with fail
    exact bodyPost_ret (v := .tuple #[.agg #[.int .i64 (0), .int .i64 (0)], .int .i64 40]) (by simp [results, Tryz.results37, go_sem, r0, r1]) rfl ⟨by rw [HD.out.1, HD.out.2, HE.out]; rfl, (HB2.out.setCell (by show _ ≤ _ + 1; omega) _).setCell (by show _ ≤ _ + 1; omega) _⟩
  · subst h0
    have HS1 := Lib.hid (HA.out (by first | trivial | rfl) w1 HB21.out)
    have HE := Lib.hid (HR.out.1 (by first | trivial | rfl))
    clear hb q1 t0 t1 f0 f1
    go_wp2_with fail
    (with_reducible refine HS1.out.mono ?_)
    rintro e w2 ⟨rfl, hb⟩
    have HB3 := Lib.hid (HB2.out.trans (hb.mono HB2.out.size))
    replace HB21 := Lib.hid (HB21.out.trans (hb.mono HB21.out.size))
    have q1 := (HB21.out.block _ (by have := HZ.out.2; omega)).trans HN1.out
    obtain ⟨t0, t1⟩ := cells_two q1
    have f0 := frozen_cells q1 0
    have f1 := frozen_cells q1 1
    clear hb HS1 g0 g1 g2 g3 g4 g5 g6 g7 g8 g9
    obtain ⟨g0, g1, g2, g3, g4, g5, g6, g7, g8, g9⟩ := HC.out w2 (HB21.out.mono (by have := HZ.out.2; omega))
    by_cases hle : sLo p.ls ≤ p.hi
    rotate_left
    · have hD : decide (sLo p.ls ≤ p.hi) = false := by simpa using hle
      have HE3 := Lib.hid (show ae = 3 from by rw [HE.out, if_neg hle])
      rw [hD]
      have r := put_two q1 (.int .i64 (0)) (.int .i64 (0))
      obtain ⟨r0, r1⟩ := cells_two r
      clear r
      go_wp2_with fail
      exact bodyPost_ret (v := .tuple #[.agg #[.int .i64 (0), .int .i64 (0)], .int .i64 3]) (by simp [results, Tryz.results37, go_sem, r0, r1]) rfl ⟨by rw [HD.out.1, HD.out.2, HE3.out]; rfl, (HB3.out.setCell (by show _ ≤ _ + 1; omega) _).setCell (by show _ ≤ _ + 1; omega) _⟩
    · have hD : decide (sLo p.ls ≤ p.hi) = true := by simpa using hle
      have HE3 := Lib.hid (show ae = 0 from by rw [HE.out, if_pos hle])
      have HS2 := Lib.hid (HS.out (by first | trivial | rfl) w2 HB21.out)
      rw [hD]
      clear hD q1 t0 t1 f0 f1
      go_wp2_with fail
      (with_reducible refine HS2.out.mono ?_)
      rintro e w3 ⟨rfl, hb⟩
      have hbs := below_new (w := w3) (.cells #[.int .i64 (sLo p.ls), .int .i64 (sHi p.ls)] 25)
      have hns := World.alloc_heap_new w3 (.cells #[.int .i64 (sLo p.ls), .int .i64 (sHi p.ls)] 25)
      obtain ⟨V, hV⟩ : ∃ V, w3.alloc (.cells #[.int .i64 (sLo p.ls), .int .i64 (sHi p.ls)] 25) = V := ⟨_, rfl⟩
      rw [hV] at hbs hns
      obtain ⟨s0, s1⟩ := cells_two hns
      have HB4 := Lib.hid (HB3.out.trans ((hb.trans (hbs.mono hb.size)).mono HB3.out.size))
      replace HB21 := Lib.hid (HB21.out.trans ((hb.trans (hbs.mono hb.size)).mono HB21.out.size))
      have q1 := (HB21.out.block _ (by have := HZ.out.2; omega)).trans HN1.out
      obtain ⟨t0, t1⟩ := cells_two q1
      have f0 := frozen_cells q1 0
      have f1 := frozen_cells q1 1
      clear g0 g1 g2 g3 g4 g5 g6 g7 g8 g9
      obtain ⟨g0, g1, g2, g3, g4, g5, g6, g7, g8, g9⟩ := HC.out V (HB21.out.mono (by have := HZ.out.2; omega))
      obtain ⟨b1, b2, b3, b4, b5, b6⟩ := HOk.out (by first | trivial | rfl)
      have hw1 : IntKind.i64.wrap (p.lo - sHi p.ls) = p.lo - sHi p.ls := by rw [IntKind.wrap_i64]; omega
      have hw2 : IntKind.i64.wrap (p.hi - sLo p.ls) = p.hi - sLo p.ls := by rw [IntKind.wrap_i64]; omega
      clear hb hbs hns HS2
      by_cases hm : sHi p.ls < p.lo
      · have hm2 : 0 < p.lo - sHi p.ls := by omega
        have HX := Lib.hid (show rsA p = p.lo - sHi p.ls ∧ rsZ p = p.hi - sLo p.ls from ⟨by rw [HD.out.1, HE3.out, if_pos rfl]; omega, by rw [HD.out.2, HE3.out, if_pos rfl]⟩)
        clear b1 b2 b3 b4 b5 b6
        have r := put_two q1 (.int .i64 (p.lo - sHi p.ls)) (.int .i64 (p.hi - sLo p.ls))
        obtain ⟨r0, r1⟩ := cells_two r
        clear r
        go_wp2_with fail
        exact bodyPost_ret (v := .tuple #[.agg #[.int .i64 (p.lo - sHi p.ls), .int .i64 (p.hi - sLo p.ls)], .int .i64 0]) (by simp [results, Tryz.results37, go_sem, r0, r1]) rfl ⟨by rw [HX.out.1, HX.out.2, HE3.out], (HB4.out.setCell (by show _ ≤ _ + 1; omega) _).setCell (by show _ ≤ _ + 1; omega) _⟩
      · have hm2 : ¬ 0 < p.lo - sHi p.ls := by omega
        have HX := Lib.hid (show rsA p = 0 ∧ rsZ p = p.hi - sLo p.ls from ⟨by rw [HD.out.1, HE3.out, if_pos rfl]; omega, by rw [HD.out.2, HE3.out, if_pos rfl]⟩)
        clear b1 b2 b3 b4 b5 b6
        have r := put_two q1 (.int .i64 (0)) (.int .i64 (p.hi - sLo p.ls))
        obtain ⟨r0, r1⟩ := cells_two r
        clear r
        go_wp2_with fail
        exact bodyPost_ret (v := .tuple #[.agg #[.int .i64 (0), .int .i64 (p.hi - sLo p.ls)], .int .i64 0]) (by simp [results, Tryz.results37, go_sem, r0, r1]) rfl ⟨by rw [HX.out.1, HX.out.2, HE3.out], (HB4.out.setCell (by show _ ≤ _ + 1; omega) _).setCell (by show _ ≤ _ + 1; omega) _⟩
set_option maxRecDepth 100000 in
set_option maxHeartbeats 8000000 in
theorem rAgrees_any (v : Value) (p : Pg) (w : World) (hv : PgV w v p) (hp : PgSm p) : Calls Tryz.prog 39 #[v] w fun e w' => e = .returned (.tuple #[.bool (decide (agE p = 0)), .int .i64 (agrE p)]) ∧ Below w.heap.size w w' := by
  obtain ⟨A, c, W0, rfl, hW0, hb0, hz0, hV, hL, hC⟩ := pg_box hv
  have HB0 := Lib.hid hb0
  have HV := Lib.hid hV
  have HC := Lib.hid hC
  have HF := Lib.hid (rvalid_any _ p W0 (hV W0 (Below.refl _ _)) hp)
  have HA := Lib.hid (fun (h : valE p = 0) Y (hY : Below W0.heap.size W0 Y) => ragrees_any _ p Y (hV Y hY) hp (val_ok h))
  obtain ⟨g0, g1, g2, g3, g4, g5, g6, g7, g8, g9⟩ := hC W0 (Below.refl _ _)
  have HCs := Lib.hid (val_cases p)
  have HR := Lib.hid (val_ag p)
  obtain ⟨ve, hve⟩ : ∃ b, valE p = b := ⟨_, rfl⟩
  obtain ⟨ae, hae⟩ : ∃ b, agE p = b := ⟨_, rfl⟩
  rw [hve] at HR HA HF HCs
  obtain ⟨ge, hge⟩ : ∃ x, agrE p = x := ⟨_, rfl⟩
  obtain ⟨gb, hgb⟩ : ∃ x, decide (agE p = 0) = x := ⟨_, rfl⟩
  have HD := Lib.hid (show ge = (if agE p = 40 then 40 else 0) ∧ gb = decide (agE p = 0) from ⟨hge.symm, hgb.symm⟩)
  rw [hae] at HR HD
  rw [hge, hgb]
  unfold pgV at HF HA ⊢
  unfold pgC at hW0
  generalize p.ls.length = n at *
  clear hv hp hb0 hz0 hV hL hC HV hve hae hge hgb
  go_enter Tryz.func39, Tryz.ntmps39
  go_wp2_with fail
  (with_reducible refine HF.out.mono ?_)
  rintro e w1 ⟨rfl, hb⟩
  have HB := Lib.hid (HB0.out.trans (hb.mono HB0.out.size))
  have HB1 := Lib.hid hb
  clear hW0 hb HF g0 g1 g2 g3 g4 g5 g6 g7 g8 g9
  obtain ⟨g0, g1, g2, g3, g4, g5, g6, g7, g8, g9⟩ := HC.out w1 HB1.out
  rcases HCs.out with h0 | h0 <;> subst h0
  · have HE := Lib.hid (HR.out.1 (by first | trivial | rfl))
    have HS1 := Lib.hid (HA.out (by first | trivial | rfl) w1 HB1.out)
    have HX := Lib.hid (show ge = 0 ∧ gb = decide (sLo p.ls ≤ p.hi) from by
      rw [HD.out.1, HD.out.2, HE.out]
      by_cases hle : sLo p.ls ≤ p.hi <;> simp [hle])
    clear HCs HR HD HE
    go_wp2_with fail
    (with_reducible refine HS1.out.mono ?_)
    rintro e w2 ⟨rfl, hb⟩
    have HB2 := Lib.hid (HB.out.trans (hb.mono HB.out.size))
    clear hb HS1 g0 g1 g2 g3 g4 g5 g6 g7 g8 g9
    go_wp2_with fail
    go_ret2
    exact ⟨by rw [HX.out.1, HX.out.2]; rfl, HB2.out⟩
  · have HE := Lib.hid (HR.out.2 (by first | trivial | rfl))
    have HX := Lib.hid (show ge = 40 ∧ gb = false from by
      rw [HD.out.1, HD.out.2, HE.out]; simp)
    clear HCs HR HD HE
    go_wp2_with fail
    go_ret2
    exact ⟨by rw [HX.out.1, HX.out.2]; rfl, HB.out⟩
end Go.Proofs.YtijidcigfdblaaaGreatDoor
