/- Tight: the reference. -/
import Derived.Deep.Cut
import Derived.Test.YtijidcigfdblaaaGreatDoorShR
namespace Go.Proofs.YtijidcigfdblaaaGreatDoor
open Go.RowKit Go.Nm Go.Sh Go.Plc

set_option maxRecDepth 100000 in
set_option maxHeartbeats 16000000 in
theorem rTight_any (v : Value) (p : Pg) (w : World) (hv : PgV w v p) (hp : PgSm p) : Calls Tryz.prog 41 #[v] w fun e w' => (∃ u, e = .returned (.tuple #[u, .int .i64 (agE p)]) ∧ PgV w' u (tgP p)) ∧ Below w.heap.size w w' := by
  obtain ⟨A, c, W0, W1, rfl, hW0, hW1, hb1, hz0, hz1, hn1, hV, hL, hC⟩ := pg_box2 hv #[.int .i64 0, .int .i64 0, .int .i64 0, .int .i64 0, .int .i64 0, .int .i64 0, .int .i64 0, .int .i64 0, .int .i64 0, .slice none 0 0] 28
  have HB1 := Lib.hid hb1
  have HN1 := Lib.hid hn1
  have HC := Lib.hid (fun Y (h : Below W1.heap.size W1 Y) => hC Y (h.mono (by omega)))
  have HZ := Lib.hid (And.intro hz0 hz1)
  have HF := Lib.hid (rvalid_any _ p W1 (hV W1 (Below.refl _ _)) hp)
  have HAg := Lib.hid (fun (h : valE p = 0) Y (hY : Below W1.heap.size W1 Y) => ragrees_any _ p Y (hV Y (hY.mono (by omega))) hp (val_ok h))
  have HSu := Lib.hid (fun (h : valE p = 0) Y (hY : Below W1.heap.size W1 Y) => rsum_any _ p Y (hV Y (hY.mono (by omega))) hp (val_ok h))
  have HCp := Lib.hid (fun Y (h : Below W1.heap.size W1 Y) => rCopy_any _ p Y (hV Y (h.mono (by omega))) hp)
  have HLs := Lib.hid (hL W1 (Below.refl _ _))
  have HSn := Lib.hid hp.2
  have hn1000 := hp.1
  have HCs := Lib.hid (val_cases p)
  have HAo := Lib.hid (fun h : valE p = 0 => val_ok h)
  have HE4 := Lib.hid (val_ag p).2
  have HE0 := Lib.hid (val_ag p).1
  have HT := Lib.hid (show tgP p = (if agE p = 0 then Go.Sh.tight p else zeroP) from rfl)
  obtain ⟨g0, g1, g2, g3, g4, g5, g6, g7, g8, g9⟩ := hC W1 (Below.refl _ _)
  obtain ⟨ve, hve⟩ : ∃ x, valE p = x := ⟨_, rfl⟩
  rw [hve] at HF HAg HSu HCs HAo HE4 HE0
  obtain ⟨n, hn⟩ : ∃ n, p.ls.length = n := ⟨_, rfl⟩
  have HNl := Lib.hid hn
  unfold pgV at HF HAg HSu HCp ⊢
  unfold pgC at hW0
  rw [hn] at hn1000 hW0 HF HAg HSu HCp HLs g9 ⊢
  have HC9 := Lib.hid (fun Y (h : Below W1.heap.size W1 Y) => show Y.cell? ⟨w.heap.size, 9, none⟩ = some (.slice A n c) from by have h2 := (hC Y (h.mono (by omega))).2.2.2.2.2.2.2.2.2; rw [hn] at h2; exact h2)
  clear hv hp hb1 hz1 hn1 hV hL hC hve hn
  go_enter Tryz.func41, Tryz.ntmps41
  go_wp2_with fail
  (with_reducible refine HF.out.mono ?_)
  rintro e w1 ⟨rfl, hb⟩
  have HBV := Lib.hid hb
  have hg1 := (hb.block _ (by have := HZ.out.2; omega)).trans HN1.out
  clear hW0 hW1 hz0 g0 g1 g2 g3 g4 g5 g6 g7 g8 g9 hb HF
  rcases HCs.out with h0 | h0
  rotate_left
  · subst h0
    have HE := Lib.hid (show tgP p = zeroP from by rw [HT.out, HE4.out (by first | trivial | rfl)]; rfl)
    have HA := Lib.hid (show agE p = 40 from HE4.out (by first | trivial | rfl))
    obtain ⟨j0, j1, j2, j3, j4, j5, j6, j7, j8, j9⟩ := pg_cells (p := zeroP) (vl := .slice none 0 0) hg1
    have f0 := frozen_cells hg1 0
    have f1 := frozen_cells hg1 1
    have f2 := frozen_cells hg1 2
    have f3 := frozen_cells hg1 3
    have f4 := frozen_cells hg1 4
    have f5 := frozen_cells hg1 5
    have f6 := frozen_cells hg1 6
    have f7 := frozen_cells hg1 7
    have f8 := frozen_cells hg1 8
    have f9 := frozen_cells hg1 9
    have hfin := put10_heap (p := zeroP) (v := .slice none 0 0) hg1
    obtain ⟨r0, r1, r2, r3, r4, r5, r6, r7, r8, r9⟩ := pg_cells hfin
    unfold put10 at r0 r1 r2 r3 r4 r5 r6 r7 r8 r9
    simp only [zeroP] at j0 j1 j2 j3 j4 j5 j6 j7 j8 j9 r0 r1 r2 r3 r4 r5 r6 r7 r8 r9
    have HBz := Lib.hid (show Below w.heap.size w (put10 w1 (w.heap.size + 1) zeroP (.slice none 0 0)) from put10_below (HB1.out.trans (HBV.out.mono HB1.out.size)) (by omega) _ _)
    clear hfin HT HCs
    go_wp2_with fail
    exact bodyPost_ret (v := .tuple #[.agg #[.int .i64 0, .int .i64 0, .int .i64 0, .int .i64 0, .int .i64 0, .int .i64 0, .int .i64 0, .int .i64 0, .int .i64 0, .slice none 0 0], .int .i64 40]) (by simp [results, Tryz.results41, go_sem, r0, r1, r2, r3, r4, r5, r6, r7, r8, r9]) rfl ⟨⟨.agg #[.int .i64 0, .int .i64 0, .int .i64 0, .int .i64 0, .int .i64 0, .int .i64 0, .int .i64 0, .int .i64 0, .int .i64 0, .slice none 0 0], by rw [HA.out], by rw [HE.out]; exact ⟨_, rfl, LnSl.nil _ _⟩⟩, HBz.out⟩
  subst h0
  have HE := Lib.hid (HE0.out (by first | trivial | rfl))
  have HPk := Lib.hid (HAo.out (by first | trivial | rfl))
  have HAg1 := Lib.hid (HAg.out (by first | trivial | rfl) w1 HBV.out)
  obtain ⟨m0, m1, m2, m3, m4, m5, m6, m7, m8, m9⟩ := HC.out w1 HBV.out
  clear m9
  have m9 := HC9.out w1 HBV.out
  obtain ⟨db, hdb⟩ : ∃ b, decide (sLo p.ls ≤ p.hi) = b := ⟨_, rfl⟩
  rw [hdb] at HAg1
  have HDb := Lib.hid hdb
  clear hdb HAg HAo HE4 HE0
  go_wp2_with fail
  (with_reducible refine HAg1.out.mono ?_)
  rintro e w2 ⟨rfl, hb⟩
  have HBW := Lib.hid (HBV.out.trans (hb.mono HBV.out.size))
  clear hg1
  have hg1 := (HBW.out.block _ (by have := HZ.out.2; omega)).trans HN1.out
  clear HBV
  have HBV := HBW
  clear HBW hb m0 m1 m2 m3 m4 m5 m6 m7 m8 m9 HAg1
  cases db
  · have HE' := Lib.hid (show tgP p = zeroP from by rw [HT.out, HE.out, if_neg (of_decide_eq_false HDb.out)]; rfl)
    have HA := Lib.hid (show agE p = 3 from by rw [HE.out, if_neg (of_decide_eq_false HDb.out)])
    obtain ⟨j0, j1, j2, j3, j4, j5, j6, j7, j8, j9⟩ := pg_cells (p := zeroP) (vl := .slice none 0 0) hg1
    have f0 := frozen_cells hg1 0
    have f1 := frozen_cells hg1 1
    have f2 := frozen_cells hg1 2
    have f3 := frozen_cells hg1 3
    have f4 := frozen_cells hg1 4
    have f5 := frozen_cells hg1 5
    have f6 := frozen_cells hg1 6
    have f7 := frozen_cells hg1 7
    have f8 := frozen_cells hg1 8
    have f9 := frozen_cells hg1 9
    have hfin := put10_heap (p := zeroP) (v := .slice none 0 0) hg1
    obtain ⟨r0, r1, r2, r3, r4, r5, r6, r7, r8, r9⟩ := pg_cells hfin
    unfold put10 at r0 r1 r2 r3 r4 r5 r6 r7 r8 r9
    simp only [zeroP] at j0 j1 j2 j3 j4 j5 j6 j7 j8 j9 r0 r1 r2 r3 r4 r5 r6 r7 r8 r9
    have HBz := Lib.hid (show Below w.heap.size w (put10 w2 (w.heap.size + 1) zeroP (.slice none 0 0)) from put10_below (HB1.out.trans (HBV.out.mono HB1.out.size)) (by omega) _ _)
    clear hfin HT HCs
    go_wp2_with fail
    exact bodyPost_ret (v := .tuple #[.agg #[.int .i64 0, .int .i64 0, .int .i64 0, .int .i64 0, .int .i64 0, .int .i64 0, .int .i64 0, .int .i64 0, .int .i64 0, .slice none 0 0], .int .i64 3]) (by simp [results, Tryz.results41, go_sem, r0, r1, r2, r3, r4, r5, r6, r7, r8, r9]) rfl ⟨⟨.agg #[.int .i64 0, .int .i64 0, .int .i64 0, .int .i64 0, .int .i64 0, .int .i64 0, .int .i64 0, .int .i64 0, .int .i64 0, .slice none 0 0], by rw [HA.out], by rw [HE'.out]; exact ⟨_, rfl, LnSl.nil _ _⟩⟩, HBz.out⟩
  have hslo := of_decide_eq_true HDb.out
  have HA := Lib.hid (show agE p = 0 from by rw [HE.out, if_pos hslo])
  replace HT := Lib.hid (show tgP p = Go.Sh.tight p from by rw [HT.out, if_pos HA.out])
  have HSu1 := Lib.hid (HSu.out (by first | trivial | rfl) w2 HBV.out)
  obtain ⟨m0, m1, m2, m3, m4, m5, m6, m7, m8, m9⟩ := HC.out w2 HBV.out
  clear m9
  have m9 := HC9.out w2 HBV.out
  clear HSu HE
  go_wp2_with fail
  (with_reducible refine HSu1.out.mono ?_)
  rintro e wq ⟨rfl, hb⟩
  have hb := HBV.out.trans (hb.mono HBV.out.size)
  have hbs := below_new (w := wq) (.cells #[.int .i64 (sLo p.ls), .int .i64 (sHi p.ls)] 25)
  have hns := World.alloc_heap_new wq (.cells #[.int .i64 (sLo p.ls), .int .i64 (sHi p.ls)] 25)
  obtain ⟨V, hV⟩ : ∃ V, wq.alloc (.cells #[.int .i64 (sLo p.ls), .int .i64 (sHi p.ls)] 25) = V := ⟨_, rfl⟩
  rw [hV] at hbs hns
  have hVz : V.heap.size = wq.heap.size + 1 := by rw [← hV]; simp
  replace HBV := Lib.hid (hb.trans (hbs.mono hb.size))
  have HNs := Lib.hid hns
  have HVz := Lib.hid hVz
  have hw1 : W1.heap.size ≤ wq.heap.size := hb.size
  clear hg1 m0 m1 m2 m3 m4 m5 m6 m7 m8 m9
  have hg1 := (HBV.out.block _ (by have := HZ.out.2; omega)).trans HN1.out
  clear hb hbs hVz HSu1
  obtain ⟨m0, m1, m2, m3, m4, m5, m6, m7, m8, m9⟩ := HC.out V HBV.out
  clear m9
  have m9 := HC9.out V HBV.out
  have HCp' := Lib.hid (HCp.out V HBV.out)
  obtain ⟨b0, b1⟩ := cells_two HNs.out
  go_wp2_with fail
  (with_reducible refine HCp'.out.mono ?_)
  rintro e w3 ⟨⟨vl, vals, rfl, hO⟩, hb3⟩
  obtain ⟨Ao, co, eo⟩ := hO.slice
  rw [HNl.out] at eo
  subst eo
  obtain ⟨mx, hmx⟩ : ∃ x, max p.lo (sLo p.ls) = x := ⟨_, rfl⟩
  have hbg := below_new (w := w3) (.cells (pgC p (.slice Ao n co)) 28)
  have hng := World.alloc_heap_new w3 (.cells (pgC p (.slice Ao n co)) 28)
  obtain ⟨V3, hV3⟩ : ∃ V, w3.alloc (.cells (pgC p (.slice Ao n co)) 28) = V := ⟨_, rfl⟩
  rw [hV3] at hbg hng
  have hz3 : V3.heap.size = w3.heap.size + 1 := by rw [← hV3]; simp
  have hb4 : Below V.heap.size V V3 := hb3.trans (hbg.mono hb3.size)
  have HB4 := Lib.hid (HBV.out.trans (hb4.mono HBV.out.size))
  have HNs4 := Lib.hid ((hb4.block _ (by have := HVz.out; omega)).trans HNs.out)
  have HNg := Lib.hid hng
  have hvw : V.heap.size ≤ w3.heap.size := hb3.size
  have HLw := Lib.hid (show ∀ u, 0 < n → ∃ gl c2, Value.slice Ao n co = .slice (some ⟨gl, 0, none⟩) n c2 ∧ LnW V gl (tgt p 0) (V3.setCell ⟨w3.heap.size, 7, none⟩ u) ∧ gl < w3.heap.size from fun u h => by
    obtain ⟨gl, c2, e2, e3⟩ := hO.lnw (by omega) (by rw [HNl.out]; exact h)
    rw [HNl.out] at e2
    rw [tgt_zero]
    exact ⟨gl, c2, e2, e3.step (hbg.setCell (Nat.le_refl _) _), e3.lt⟩)
  have hsums := sums_ok HPk.out
  obtain ⟨i0, i1, i2, i3, i4, i5, i6, i7, i8, i9⟩ := HC.out V3 HB4.out
  clear i9
  have i9 := HC9.out V3 HB4.out
  obtain ⟨j0, j1, j2, j3, j4, j5, j6, j7, j8, j9⟩ := pg_cells hng
  have f7 := frozen_cells hng 7
  obtain ⟨d0, d1⟩ := cells_two HNs4.out
  unfold pgC at hV3
  have HMx := Lib.hid hmx
  clear m0 m1 m2 m3 m4 m5 m6 m7 m8 m9 b0 b1 hb3 hO hbg hng hb4 HCp' HCp hV hmx
  by_cases hcm : p.lo < sLo p.ls
  · obtain rfl : mx = sLo p.ls := by rw [← HMx.out]; omega
    go_wp2_with fail
    have hs0 : Below W1.heap.size W1 (V3.setCell ⟨w3.heap.size, 7, none⟩ (.int .i64 (sLo p.ls))) ∧ w3.heap.size < (V3.setCell ⟨w3.heap.size, 7, none⟩ (.int .i64 (sLo p.ls))).heap.size ∧ (V3.setCell ⟨w3.heap.size, 7, none⟩ (.int .i64 (sLo p.ls))).heap[wq.heap.size]? = some (.cells #[.int .i64 (sLo p.ls), .int .i64 (sHi p.ls)] 25) ∧ (V3.setCell ⟨w3.heap.size, 7, none⟩ (.int .i64 (sLo p.ls))).heap[w3.heap.size]? = some (.cells (pgC (⟨p.ob, p.yr, p.lv, p.sx, p.sy, p.nt, p.lm, sLo p.ls, p.hi, []⟩ : Pg) (.slice Ao n co)) 28) := ⟨HB4.out.setCell (by show W1.heap.size ≤ w3.heap.size; have := HBV.out.size; omega) _, Nat.lt_of_lt_of_le (by omega) (setCell_grown' V3 w3.heap.size 7 _).size, (put_other (b := wq.heap.size) (g := w3.heap.size) (k := 7) (by have := HVz.out; omega)).trans HNs4.out, (put_cell (k := 7) HNg.out).trans rfl⟩
    have HS0 := Lib.hid (And.intro hs0 (HLw.out (.int .i64 (sLo p.ls))))
    clear hs0 hV3 hz3 hvw i0 i1 i2 i3 i4 i5 i6 i7 i8 i9 j0 j1 j2 j3 j4 j5 j6 j7 j8 j9 f7 d0 d1 HLw hcm
    go_loopw [7] (fun iv wr => ∃ (i : Nat), iv = .int .i64 (i : Int) ∧ i ≤ n ∧ (Below W1.heap.size W1 wr ∧ w3.heap.size < wr.heap.size ∧ wr.heap[wq.heap.size]? = some (.cells #[.int .i64 (sLo p.ls), .int .i64 (sHi p.ls)] 25) ∧ wr.heap[w3.heap.size]? = some (.cells (pgC (⟨p.ob, p.yr, p.lv, p.sx, p.sy, p.nt, p.lm, sLo p.ls, p.hi, []⟩ : Pg) (.slice Ao n co)) 28)) ∧ (0 < n → ∃ gl c2, Value.slice Ao n co = .slice (some ⟨gl, 0, none⟩) n c2 ∧ LnW V gl (tgt p i) wr ∧ gl < w3.heap.size)) (fun iv _ => n - (intOf iv).toNat)
    case atStart => exact ⟨0, rfl, by omega, HS0.out.1, HS0.out.2⟩
    case round =>
      obtain ⟨i, rfl, hin, hr, hL⟩ := hrel
      have HR := Lib.hid hr
      by_cases hlt : i < n
      · obtain ⟨gl, c2, e2, hLw, hgl⟩ := hL (by omega)
        obtain ⟨x, hx⟩ : ∃ x, p.ls[i]? = some x := ⟨_, List.getElem?_eq_getElem (by rw [HNl.out]; exact hlt)⟩
        have hbn := below_new (w := wr) (.cells #[.int .i64 x.lo, .int .i64 x.hi] 25)
        have hnn := World.alloc_heap_new wr (.cells #[.int .i64 x.lo, .int .i64 x.hi] 25)
        obtain ⟨V5, hV5⟩ : ∃ V, wr.alloc (.cells #[.int .i64 x.lo, .int .i64 x.hi] 25) = V := ⟨_, rfl⟩
        rw [hV5] at hbn hnn
        injection e2 with e2 _ e3
        subst e2
        subst e3
        obtain ⟨p0, p1, p2, _⟩ := hLw.cells (tgt_at hx)
        obtain ⟨k0, k1, k2, k3, k4, k5, k6, k7, k8, k9⟩ := pg_cells hr.2.2.2
        have hc := ln_cnt (HPk.out.ln x (List.mem_of_getElem? hx))
        have hL5 := hLw.step hbn
        have hR5 : Below W1.heap.size W1 V5 ∧ w3.heap.size < V5.heap.size ∧ V5.heap[wq.heap.size]? = some (.cells #[.int .i64 (sLo p.ls), .int .i64 (sHi p.ls)] 25) ∧ V5.heap[w3.heap.size]? = some (.cells (pgC (⟨p.ob, p.yr, p.lv, p.sx, p.sy, p.nt, p.lm, sLo p.ls, p.hi, []⟩ : Pg) (.slice (some ⟨gl, 0, none⟩) n co)) 28) := ⟨hr.1.trans (hbn.mono hr.1.size), Nat.lt_of_lt_of_le hr.2.1 hbn.size, (hbn.block _ (Array.getElem?_eq_some_iff.1 hr.2.2.1).1).trans hr.2.2.1, (hbn.block _ (Array.getElem?_eq_some_iff.1 hr.2.2.2).1).trans hr.2.2.2⟩
        obtain ⟨d0, d1⟩ := cells_two hR5.2.2.1
        obtain ⟨j0, j1, j2, j3, j4, j5, j6, j7, j8, j9⟩ := pg_cells hR5.2.2.2
        obtain ⟨i0, i1, i2, i3, i4, i5, i6, i7, i8, i9⟩ := HC.out V5 hR5.1
        clear i9
        have i9 := HC9.out V5 hR5.1
        obtain ⟨u0, u1⟩ := cells_two hnn
        obtain ⟨t0, t1, t2, t3⟩ := hL5.cells (tgt_at hx)
        have hw1 : IntKind.i64.wrap (p.hi - sLo p.ls) = p.hi - sLo p.ls := by rw [IntKind.wrap_i64]; omega
        have hw2 : IntKind.i64.wrap (p.hi - sLo p.ls + x.lo) = p.hi - sLo p.ls + x.lo := by rw [IntKind.wrap_i64]; omega
        have hSet := hL5.set (tgt_at hx) (min x.hi (p.hi - (sLo p.ls - x.lo)))
        rw [show hiP x (min x.hi (p.hi - (sLo p.ls - x.lo))) = tgL p x from rfl, ← tgt_next hx, show p.hi - (sLo p.ls - x.lo) = p.hi - sLo p.ls + x.lo by omega] at hSet
        have HR5 := Lib.hid hR5
        have hgv := hLw.base
        have HX := Lib.hid hx
        by_cases hmin : x.hi < p.hi - sLo p.ls + x.lo
        · rw [show min x.hi (p.hi - sLo p.ls + x.lo) = x.hi by omega] at hSet
          have HLs5 := Lib.hid hSet
          clear hx hbn hnn hr hL hLw hL5 hR5 hSet
          go_wp2_with fail
          (try go_roundw)
          case rel => exact ⟨i + 1, by go_num, by omega, ⟨HR5.out.1.setCell (by show _ ≤ gl; have := HBV.out.size; omega) _, Nat.lt_of_lt_of_le HR5.out.2.1 (setCell_grown' V5 gl _ _).size, (put_other (by have := HVz.out; omega)).trans HR5.out.2.2.1, (put_other (by omega)).trans HR5.out.2.2.2⟩, fun _ => ⟨gl, co, rfl, HLs5.out, hgl⟩⟩
          case measure => simp [intOf]; omega
        · rw [show min x.hi (p.hi - sLo p.ls + x.lo) = (if p.hi - sLo p.ls + x.lo < x.hi then p.hi - sLo p.ls + x.lo else x.hi) by split <;> omega] at hSet
          have HLs5 := Lib.hid hSet
          clear hx hbn hnn hr hL hLw hL5 hR5 hSet
          go_wp2_with fail
          (try go_roundw)
          case rel => exact ⟨i + 1, by go_num, by omega, ⟨HR5.out.1.setCell (by show _ ≤ gl; have := HBV.out.size; omega) _, Nat.lt_of_lt_of_le HR5.out.2.1 (setCell_grown' V5 gl _ _).size, (put_other (by have := HVz.out; omega)).trans HR5.out.2.2.1, (put_other (by omega)).trans HR5.out.2.2.2⟩, fun _ => ⟨gl, co, rfl, HLs5.out, hgl⟩⟩
          case measure => simp [intOf]; omega
      · obtain rfl : n = i := by omega
        have hz := (hr.1.block _ (by have := HZ.out.2; omega)).trans HN1.out
        have f0 := frozen_cells hz 0
        have f1 := frozen_cells hz 1
        have f2 := frozen_cells hz 2
        have f3 := frozen_cells hz 3
        have f4 := frozen_cells hz 4
        have f5 := frozen_cells hz 5
        have f6 := frozen_cells hz 6
        have f7 := frozen_cells hz 7
        have f8 := frozen_cells hz 8
        have f9 := frozen_cells hz 9
        have hfin := put10_heap (p := ⟨p.ob, p.yr, p.lv, p.sx, p.sy, p.nt, p.lm, sLo p.ls, p.hi, []⟩) (v := .slice Ao n co) hz
        obtain ⟨r0, r1, r2, r3, r4, r5, r6, r7, r8, r9⟩ := pg_cells hfin
        obtain ⟨q0, q1, q2, q3, q4, q5, q6, q7, q8, q9⟩ := pg_cells (p := zeroP) (vl := .slice none 0 0) hz
        simp only [zeroP] at q0 q1 q2 q3 q4 q5 q6 q7 q8 q9
        obtain ⟨j0, j1, j2, j3, j4, j5, j6, j7, j8, j9⟩ := pg_cells hr.2.2.2
        have HBz := Lib.hid (show Below w.heap.size w (put10 wr (w.heap.size + 1) ⟨p.ob, p.yr, p.lv, p.sx, p.sy, p.nt, p.lm, sLo p.ls, p.hi, []⟩ (.slice Ao n co)) from put10_below (HB1.out.trans (hr.1.mono HB1.out.size)) (by omega) _ _)
        have HFs := Lib.hid (show LnSl (put10 wr (w.heap.size + 1) ⟨p.ob, p.yr, p.lv, p.sx, p.sy, p.nt, p.lm, sLo p.ls, p.hi, []⟩ (.slice Ao n co)) (put10 wr (w.heap.size + 1) ⟨p.ob, p.yr, p.lv, p.sx, p.sy, p.nt, p.lm, sLo p.ls, p.hi, []⟩ (.slice Ao n co)).heap.size (.slice Ao n co) (p.ls.map (tgL p)) from by
          rw [← tgt_all (Nat.le_of_eq HNl.out)]
          by_cases h0 : 0 < n
          · obtain ⟨gl, c2, e2, hLw, hgl⟩ := hL h0
            have h5 := hLw.slo (g0 := w.heap.size + 1) (Y := put10 wr (w.heap.size + 1) ⟨p.ob, p.yr, p.lv, p.sx, p.sy, p.nt, p.lm, sLo p.ls, p.hi, []⟩ (.slice Ao n co)) (by have := HZ.out.2; have := HBV.out.size; omega) (fun b hb => put10_other hb _ _) (Nat.le_of_eq (put10_size _ _ _ _).symm) c2
            rw [tgt_len, HNl.out] at h5
            injection e2 with e2 _ e3
            subst e2
            subst e3
            exact h5
          · have h1 : (tgt p n).length = 0 := by rw [tgt_len, HNl.out]; omega
            have h2 := List.length_eq_zero_iff.1 h1
            rw [h2]
            obtain rfl : n = 0 := by omega
            exact ⟨Ao, co, rfl, fun i x h => by simp at h⟩)
        unfold put10 at r0 r1 r2 r3 r4 r5 r6 r7 r8 r9
        simp only at r0 r1 r2 r3 r4 r5 r6 r7 r8 r9 j0 j1 j2 j3 j4 j5 j6 j7 j8 j9
        clear hr hL hfin
        go_wp2_with fail
        exact bodyPost_ret (v := .tuple #[.agg #[.int .i64 p.ob, .int .i64 p.yr, .int .i64 p.lv, .int .i64 p.sx, .int .i64 p.sy, .int .i64 p.nt, .int .i64 p.lm, .int .i64 (sLo p.ls), .int .i64 p.hi, .slice Ao n co], .int .i64 0]) (by simp [results, Tryz.results41, go_sem, r0, r1, r2, r3, r4, r5, r6, r7, r8, r9]) rfl ⟨⟨_, by rw [HA.out], by rw [HT.out]; exact ⟨.slice Ao n co, by unfold pgV Go.Sh.tight; rw [HMx.out], HFs.out⟩⟩, HBz.out⟩
  · obtain rfl : mx = p.lo := by rw [← HMx.out]; omega
    go_wp2_with fail
    have hs0 : Below W1.heap.size W1 (V3.setCell ⟨w3.heap.size, 7, none⟩ (.int .i64 (p.lo))) ∧ w3.heap.size < (V3.setCell ⟨w3.heap.size, 7, none⟩ (.int .i64 (p.lo))).heap.size ∧ (V3.setCell ⟨w3.heap.size, 7, none⟩ (.int .i64 (p.lo))).heap[wq.heap.size]? = some (.cells #[.int .i64 (sLo p.ls), .int .i64 (sHi p.ls)] 25) ∧ (V3.setCell ⟨w3.heap.size, 7, none⟩ (.int .i64 (p.lo))).heap[w3.heap.size]? = some (.cells (pgC (⟨p.ob, p.yr, p.lv, p.sx, p.sy, p.nt, p.lm, p.lo, p.hi, []⟩ : Pg) (.slice Ao n co)) 28) := ⟨HB4.out.setCell (by show W1.heap.size ≤ w3.heap.size; have := HBV.out.size; omega) _, Nat.lt_of_lt_of_le (by omega) (setCell_grown' V3 w3.heap.size 7 _).size, (put_other (b := wq.heap.size) (g := w3.heap.size) (k := 7) (by have := HVz.out; omega)).trans HNs4.out, (put_cell (k := 7) HNg.out).trans rfl⟩
    have HS0 := Lib.hid (And.intro hs0 (HLw.out (.int .i64 (p.lo))))
    clear hs0 hV3 hz3 hvw i0 i1 i2 i3 i4 i5 i6 i7 i8 i9 j0 j1 j2 j3 j4 j5 j6 j7 j8 j9 f7 d0 d1 HLw hcm
    go_loopw [7] (fun iv wr => ∃ (i : Nat), iv = .int .i64 (i : Int) ∧ i ≤ n ∧ (Below W1.heap.size W1 wr ∧ w3.heap.size < wr.heap.size ∧ wr.heap[wq.heap.size]? = some (.cells #[.int .i64 (sLo p.ls), .int .i64 (sHi p.ls)] 25) ∧ wr.heap[w3.heap.size]? = some (.cells (pgC (⟨p.ob, p.yr, p.lv, p.sx, p.sy, p.nt, p.lm, p.lo, p.hi, []⟩ : Pg) (.slice Ao n co)) 28)) ∧ (0 < n → ∃ gl c2, Value.slice Ao n co = .slice (some ⟨gl, 0, none⟩) n c2 ∧ LnW V gl (tgt p i) wr ∧ gl < w3.heap.size)) (fun iv _ => n - (intOf iv).toNat)
    case atStart => exact ⟨0, rfl, by omega, HS0.out.1, HS0.out.2⟩
    case round =>
      obtain ⟨i, rfl, hin, hr, hL⟩ := hrel
      have HR := Lib.hid hr
      by_cases hlt : i < n
      · obtain ⟨gl, c2, e2, hLw, hgl⟩ := hL (by omega)
        obtain ⟨x, hx⟩ : ∃ x, p.ls[i]? = some x := ⟨_, List.getElem?_eq_getElem (by rw [HNl.out]; exact hlt)⟩
        have hbn := below_new (w := wr) (.cells #[.int .i64 x.lo, .int .i64 x.hi] 25)
        have hnn := World.alloc_heap_new wr (.cells #[.int .i64 x.lo, .int .i64 x.hi] 25)
        obtain ⟨V5, hV5⟩ : ∃ V, wr.alloc (.cells #[.int .i64 x.lo, .int .i64 x.hi] 25) = V := ⟨_, rfl⟩
        rw [hV5] at hbn hnn
        injection e2 with e2 _ e3
        subst e2
        subst e3
        obtain ⟨p0, p1, p2, _⟩ := hLw.cells (tgt_at hx)
        obtain ⟨k0, k1, k2, k3, k4, k5, k6, k7, k8, k9⟩ := pg_cells hr.2.2.2
        have hc := ln_cnt (HPk.out.ln x (List.mem_of_getElem? hx))
        have hL5 := hLw.step hbn
        have hR5 : Below W1.heap.size W1 V5 ∧ w3.heap.size < V5.heap.size ∧ V5.heap[wq.heap.size]? = some (.cells #[.int .i64 (sLo p.ls), .int .i64 (sHi p.ls)] 25) ∧ V5.heap[w3.heap.size]? = some (.cells (pgC (⟨p.ob, p.yr, p.lv, p.sx, p.sy, p.nt, p.lm, p.lo, p.hi, []⟩ : Pg) (.slice (some ⟨gl, 0, none⟩) n co)) 28) := ⟨hr.1.trans (hbn.mono hr.1.size), Nat.lt_of_lt_of_le hr.2.1 hbn.size, (hbn.block _ (Array.getElem?_eq_some_iff.1 hr.2.2.1).1).trans hr.2.2.1, (hbn.block _ (Array.getElem?_eq_some_iff.1 hr.2.2.2).1).trans hr.2.2.2⟩
        obtain ⟨d0, d1⟩ := cells_two hR5.2.2.1
        obtain ⟨j0, j1, j2, j3, j4, j5, j6, j7, j8, j9⟩ := pg_cells hR5.2.2.2
        obtain ⟨i0, i1, i2, i3, i4, i5, i6, i7, i8, i9⟩ := HC.out V5 hR5.1
        clear i9
        have i9 := HC9.out V5 hR5.1
        obtain ⟨u0, u1⟩ := cells_two hnn
        obtain ⟨t0, t1, t2, t3⟩ := hL5.cells (tgt_at hx)
        have hw1 : IntKind.i64.wrap (p.hi - sLo p.ls) = p.hi - sLo p.ls := by rw [IntKind.wrap_i64]; omega
        have hw2 : IntKind.i64.wrap (p.hi - sLo p.ls + x.lo) = p.hi - sLo p.ls + x.lo := by rw [IntKind.wrap_i64]; omega
        have hSet := hL5.set (tgt_at hx) (min x.hi (p.hi - (sLo p.ls - x.lo)))
        rw [show hiP x (min x.hi (p.hi - (sLo p.ls - x.lo))) = tgL p x from rfl, ← tgt_next hx, show p.hi - (sLo p.ls - x.lo) = p.hi - sLo p.ls + x.lo by omega] at hSet
        have HR5 := Lib.hid hR5
        have hgv := hLw.base
        have HX := Lib.hid hx
        by_cases hmin : x.hi < p.hi - sLo p.ls + x.lo
        · rw [show min x.hi (p.hi - sLo p.ls + x.lo) = x.hi by omega] at hSet
          have HLs5 := Lib.hid hSet
          clear hx hbn hnn hr hL hLw hL5 hR5 hSet
          go_wp2_with fail
          (try go_roundw)
          case rel => exact ⟨i + 1, by go_num, by omega, ⟨HR5.out.1.setCell (by show _ ≤ gl; have := HBV.out.size; omega) _, Nat.lt_of_lt_of_le HR5.out.2.1 (setCell_grown' V5 gl _ _).size, (put_other (by have := HVz.out; omega)).trans HR5.out.2.2.1, (put_other (by omega)).trans HR5.out.2.2.2⟩, fun _ => ⟨gl, co, rfl, HLs5.out, hgl⟩⟩
          case measure => simp [intOf]; omega
        · rw [show min x.hi (p.hi - sLo p.ls + x.lo) = (if p.hi - sLo p.ls + x.lo < x.hi then p.hi - sLo p.ls + x.lo else x.hi) by split <;> omega] at hSet
          have HLs5 := Lib.hid hSet
          clear hx hbn hnn hr hL hLw hL5 hR5 hSet
          go_wp2_with fail
          (try go_roundw)
          case rel => exact ⟨i + 1, by go_num, by omega, ⟨HR5.out.1.setCell (by show _ ≤ gl; have := HBV.out.size; omega) _, Nat.lt_of_lt_of_le HR5.out.2.1 (setCell_grown' V5 gl _ _).size, (put_other (by have := HVz.out; omega)).trans HR5.out.2.2.1, (put_other (by omega)).trans HR5.out.2.2.2⟩, fun _ => ⟨gl, co, rfl, HLs5.out, hgl⟩⟩
          case measure => simp [intOf]; omega
      · obtain rfl : n = i := by omega
        have hz := (hr.1.block _ (by have := HZ.out.2; omega)).trans HN1.out
        have f0 := frozen_cells hz 0
        have f1 := frozen_cells hz 1
        have f2 := frozen_cells hz 2
        have f3 := frozen_cells hz 3
        have f4 := frozen_cells hz 4
        have f5 := frozen_cells hz 5
        have f6 := frozen_cells hz 6
        have f7 := frozen_cells hz 7
        have f8 := frozen_cells hz 8
        have f9 := frozen_cells hz 9
        have hfin := put10_heap (p := ⟨p.ob, p.yr, p.lv, p.sx, p.sy, p.nt, p.lm, p.lo, p.hi, []⟩) (v := .slice Ao n co) hz
        obtain ⟨r0, r1, r2, r3, r4, r5, r6, r7, r8, r9⟩ := pg_cells hfin
        obtain ⟨q0, q1, q2, q3, q4, q5, q6, q7, q8, q9⟩ := pg_cells (p := zeroP) (vl := .slice none 0 0) hz
        simp only [zeroP] at q0 q1 q2 q3 q4 q5 q6 q7 q8 q9
        obtain ⟨j0, j1, j2, j3, j4, j5, j6, j7, j8, j9⟩ := pg_cells hr.2.2.2
        have HBz := Lib.hid (show Below w.heap.size w (put10 wr (w.heap.size + 1) ⟨p.ob, p.yr, p.lv, p.sx, p.sy, p.nt, p.lm, p.lo, p.hi, []⟩ (.slice Ao n co)) from put10_below (HB1.out.trans (hr.1.mono HB1.out.size)) (by omega) _ _)
        have HFs := Lib.hid (show LnSl (put10 wr (w.heap.size + 1) ⟨p.ob, p.yr, p.lv, p.sx, p.sy, p.nt, p.lm, p.lo, p.hi, []⟩ (.slice Ao n co)) (put10 wr (w.heap.size + 1) ⟨p.ob, p.yr, p.lv, p.sx, p.sy, p.nt, p.lm, p.lo, p.hi, []⟩ (.slice Ao n co)).heap.size (.slice Ao n co) (p.ls.map (tgL p)) from by
          rw [← tgt_all (Nat.le_of_eq HNl.out)]
          by_cases h0 : 0 < n
          · obtain ⟨gl, c2, e2, hLw, hgl⟩ := hL h0
            have h5 := hLw.slo (g0 := w.heap.size + 1) (Y := put10 wr (w.heap.size + 1) ⟨p.ob, p.yr, p.lv, p.sx, p.sy, p.nt, p.lm, p.lo, p.hi, []⟩ (.slice Ao n co)) (by have := HZ.out.2; have := HBV.out.size; omega) (fun b hb => put10_other hb _ _) (Nat.le_of_eq (put10_size _ _ _ _).symm) c2
            rw [tgt_len, HNl.out] at h5
            injection e2 with e2 _ e3
            subst e2
            subst e3
            exact h5
          · have h1 : (tgt p n).length = 0 := by rw [tgt_len, HNl.out]; omega
            have h2 := List.length_eq_zero_iff.1 h1
            rw [h2]
            obtain rfl : n = 0 := by omega
            exact ⟨Ao, co, rfl, fun i x h => by simp at h⟩)
        unfold put10 at r0 r1 r2 r3 r4 r5 r6 r7 r8 r9
        simp only at r0 r1 r2 r3 r4 r5 r6 r7 r8 r9 j0 j1 j2 j3 j4 j5 j6 j7 j8 j9
        clear hr hL hfin
        go_wp2_with fail
        exact bodyPost_ret (v := .tuple #[.agg #[.int .i64 p.ob, .int .i64 p.yr, .int .i64 p.lv, .int .i64 p.sx, .int .i64 p.sy, .int .i64 p.nt, .int .i64 p.lm, .int .i64 (p.lo), .int .i64 p.hi, .slice Ao n co], .int .i64 0]) (by simp [results, Tryz.results41, go_sem, r0, r1, r2, r3, r4, r5, r6, r7, r8, r9]) rfl ⟨⟨_, by rw [HA.out], by rw [HT.out]; exact ⟨.slice Ao n co, by unfold pgV Go.Sh.tight; rw [HMx.out], HFs.out⟩⟩, HBz.out⟩
end Go.Proofs.YtijidcigfdblaaaGreatDoor
