/- Tight: the program. -/
import Derived.Test.YtijidcigfdblaaaGreatDoorShQ
namespace Go.Sh
def zeroP : Pg := ⟨0, 0, 0, 0, 0, 0, 0, 0, 0, []⟩
def tgP (p : Pg) : Pg := if agE p = 0 then Go.Sh.tight p else zeroP
/-- the lines when the first ones are narrowed -/
def tgt (p : Pg) (i : Nat) : List Ln := (p.ls.take i).map (tgL p) ++ p.ls.drop i
theorem tgt_zero (p : Pg) : tgt p 0 = p.ls := by unfold tgt; simp
theorem tgt_len (p : Pg) (i : Nat) : (tgt p i).length = p.ls.length := by
  unfold tgt; rw [List.length_append, List.length_map, List.length_take, List.length_drop]; omega
theorem tgt_at {p : Pg} {i : Nat} {x : Ln} (h : p.ls[i]? = some x) : (tgt p i)[i]? = some x := by
  have hi := (List.getElem?_eq_some_iff.1 h).1
  unfold tgt
  rw [List.getElem?_append_right (by simp; omega), List.getElem?_drop, List.length_map, List.length_take, show i + (i - min i p.ls.length) = i by omega]
  exact h
theorem tgt_next {p : Pg} {i : Nat} {x : Ln} (h : p.ls[i]? = some x) : tgt p (i + 1) = (tgt p i).set i (tgL p x) := by
  have hi := (List.getElem?_eq_some_iff.1 h).1
  unfold tgt
  have e : p.ls.drop i = x :: p.ls.drop (i + 1) := by
    rw [List.drop_eq_getElem_cons hi]; congr 1
    exact (List.getElem?_eq_some_iff.1 h).2
  rw [e, List.take_add_one, h, List.map_append, List.set_append_right _ _ (by simp; omega), List.length_map, List.length_take, show i - min i p.ls.length = 0 by omega]
  simp
theorem tgt_all {p : Pg} {n : Nat} (h : p.ls.length ≤ n) : tgt p n = p.ls.map (tgL p) := by
  unfold tgt; rw [List.take_of_length_le h, List.drop_eq_nil_of_le h]; simp
end Go.Sh
namespace Go.Proofs.YtijidcigfdblaaaGreatDoor
open Go.RowKit Go.Nm Go.Sh Go.Plc

set_option maxRecDepth 100000 in
set_option maxHeartbeats 16000000 in
theorem Tight_any (v : Value) (p : Pg) (w : World) (hv : PgV w v p) (hp : PgSm p) : Calls Tryz.prog 40 #[v] w fun e w' => (∃ u, e = .returned (.tuple #[u, .int .i64 (agE p)]) ∧ PgV w' u (tgP p)) ∧ Below w.heap.size w w' := by
  obtain ⟨A, c, W0, W1, rfl, hW0, hW1, hb1, hz0, hz1, hn1, hV, hL, hC⟩ := pg_box2 hv #[.int .i64 0, .int .i64 0, .int .i64 0, .int .i64 0, .int .i64 0, .int .i64 0, .int .i64 0, .int .i64 0, .int .i64 0, .slice none 0 0] 28
  have HB1 := Lib.hid hb1
  have HN1 := Lib.hid hn1
  have HC := Lib.hid (fun Y (h : Below W1.heap.size W1 Y) => hC Y (h.mono (by omega)))
  have HZ := Lib.hid (And.intro hz0 hz1)
  have HAg := Lib.hid (agreedSum_any _ p W1 (hV W1 (Below.refl _ _)) hp)
  have HCp := Lib.hid (fun Y (h : Below W1.heap.size W1 Y) => copyOf_any _ p Y (hV Y h) hp)
  have HLs := Lib.hid (hL W1 (Below.refl _ _))
  have HSn := Lib.hid hp.2
  have hn1000 := hp.1
  have HCs := Lib.hid (ag_cases p)
  have HAo := Lib.hid (fun h : agE p = 0 => ag_ok h)
  have HR := Lib.hid (show agA p = (if agE p = 0 then sLo p.ls else 0) from rfl)
  have HT := Lib.hid (show tgP p = (if agE p = 0 then Go.Sh.tight p else zeroP) from rfl)
  obtain ⟨g0, g1, g2, g3, g4, g5, g6, g7, g8, g9⟩ := hC W1 (Below.refl _ _)
  obtain ⟨ae, hae⟩ : ∃ x, agE p = x := ⟨_, rfl⟩
  obtain ⟨aa, haa⟩ : ∃ x, agA p = x := ⟨_, rfl⟩
  obtain ⟨az, haz⟩ : ∃ x, agZ p = x := ⟨_, rfl⟩
  rw [hae] at HAg HCs HAo HR HT ⊢
  rw [haa] at HAg HR
  rw [haz] at HAg
  obtain ⟨n, hn⟩ : ∃ n, p.ls.length = n := ⟨_, rfl⟩
  have HNl := Lib.hid hn
  unfold pgV at HAg HCp ⊢
  unfold pgC at hW0
  rw [hn] at hn1000 hW0 HAg HCp HLs g9 ⊢
  have HC9 := Lib.hid (fun Y (h : Below W1.heap.size W1 Y) => show Y.cell? ⟨w.heap.size, 9, none⟩ = some (.slice A n c) from by have h2 := (hC Y (h.mono (by omega))).2.2.2.2.2.2.2.2.2; rw [hn] at h2; exact h2)
  clear hv hp hb1 hz1 hn1 hV hL hC hae haa haz hn
  go_enter Tryz.func40, Tryz.ntmps40
  go_wp2_with fail
  (with_reducible refine HAg.out.mono ?_)
  rintro e w1 ⟨rfl, hb⟩
  have hbs := below_new (w := w1) (.cells #[.int .i64 aa, .int .i64 az] 141)
  have hns := World.alloc_heap_new w1 (.cells #[.int .i64 aa, .int .i64 az] 141)
  obtain ⟨V, hV⟩ : ∃ V, w1.alloc (.cells #[.int .i64 aa, .int .i64 az] 141) = V := ⟨_, rfl⟩
  rw [hV] at hbs hns
  have hVz : V.heap.size = w1.heap.size + 1 := by rw [← hV]; simp
  have HBV := Lib.hid (hb.trans (hbs.mono hb.size))
  have HNs := Lib.hid hns
  have HVz := Lib.hid hVz
  have hw1 : W1.heap.size ≤ w1.heap.size := hb.size
  have hg1 := (HBV.out.block _ (by have := HZ.out.2; omega)).trans HN1.out
  clear hW0 hW1 hz0 g0 g1 g2 g3 g4 g5 g6 g7 g8 g9 hb hbs hVz HAg
  rcases HCs.out with h0 | h0 | h0
  rotate_left
  · subst h0
    have HE := Lib.hid (show tgP p = zeroP from by rw [HT.out]; rfl)
    obtain ⟨j0, j1, j2, j3, j4, j5, j6, j7, j8, j9⟩ := pg_cells (p := zeroP) (vl := .slice none 0 0) hg1
    have f0 := frozen_cells hg1 0
    have f1 := frozen_cells hg1 1
    have f2 := frozen_cells hg1 2
    have f3 := frozen_cells hg1 3
    have f4 := frozen_cells hg1 4
    have f5 := frozen_cells hg1 5
    have f6 := frozen_cells hg1 6
    have f7 := frozen_cells hg1 7
    have f8 := frozen_cells hg1 8
    have f9 := frozen_cells hg1 9
    have hfin := put10_heap (p := zeroP) (v := .slice none 0 0) hg1
    obtain ⟨r0, r1, r2, r3, r4, r5, r6, r7, r8, r9⟩ := pg_cells hfin
    unfold put10 at r0 r1 r2 r3 r4 r5 r6 r7 r8 r9
    simp only [zeroP] at j0 j1 j2 j3 j4 j5 j6 j7 j8 j9 r0 r1 r2 r3 r4 r5 r6 r7 r8 r9
    have HBz := Lib.hid (show Below w.heap.size w (put10 V (w.heap.size + 1) zeroP (.slice none 0 0)) from put10_below (HB1.out.trans (HBV.out.mono HB1.out.size)) (by omega) _ _)
    clear hns hfin hw1 HT HCs HAo HR
    go_wp2_with fail
    exact bodyPost_ret (v := .tuple #[.agg #[.int .i64 0, .int .i64 0, .int .i64 0, .int .i64 0, .int .i64 0, .int .i64 0, .int .i64 0, .int .i64 0, .int .i64 0, .slice none 0 0], .int .i64 3]) (by simp [results, Tryz.results40, go_sem, r0, r1, r2, r3, r4, r5, r6, r7, r8, r9]) rfl ⟨⟨_, rfl, by rw [HE.out]; exact ⟨_, rfl, LnSl.nil _ _⟩⟩, HBz.out⟩
  · subst h0
    have HE := Lib.hid (show tgP p = zeroP from by rw [HT.out]; rfl)
    obtain ⟨j0, j1, j2, j3, j4, j5, j6, j7, j8, j9⟩ := pg_cells (p := zeroP) (vl := .slice none 0 0) hg1
    have f0 := frozen_cells hg1 0
    have f1 := frozen_cells hg1 1
    have f2 := frozen_cells hg1 2
    have f3 := frozen_cells hg1 3
    have f4 := frozen_cells hg1 4
    have f5 := frozen_cells hg1 5
    have f6 := frozen_cells hg1 6
    have f7 := frozen_cells hg1 7
    have f8 := frozen_cells hg1 8
    have f9 := frozen_cells hg1 9
    have hfin := put10_heap (p := zeroP) (v := .slice none 0 0) hg1
    obtain ⟨r0, r1, r2, r3, r4, r5, r6, r7, r8, r9⟩ := pg_cells hfin
    unfold put10 at r0 r1 r2 r3 r4 r5 r6 r7 r8 r9
    simp only [zeroP] at j0 j1 j2 j3 j4 j5 j6 j7 j8 j9 r0 r1 r2 r3 r4 r5 r6 r7 r8 r9
    have HBz := Lib.hid (show Below w.heap.size w (put10 V (w.heap.size + 1) zeroP (.slice none 0 0)) from put10_below (HB1.out.trans (HBV.out.mono HB1.out.size)) (by omega) _ _)
    clear hns hfin hw1 HT HCs HAo HR
    go_wp2_with fail
    exact bodyPost_ret (v := .tuple #[.agg #[.int .i64 0, .int .i64 0, .int .i64 0, .int .i64 0, .int .i64 0, .int .i64 0, .int .i64 0, .int .i64 0, .int .i64 0, .slice none 0 0], .int .i64 40]) (by simp [results, Tryz.results40, go_sem, r0, r1, r2, r3, r4, r5, r6, r7, r8, r9]) rfl ⟨⟨_, rfl, by rw [HE.out]; exact ⟨_, rfl, LnSl.nil _ _⟩⟩, HBz.out⟩
  subst h0
  simp only [↓reduceIte] at HR HT
  subst HR
  have HTg := HT
  obtain ⟨m0, m1, m2, m3, m4, m5, m6, m7, m8, m9⟩ := HC.out V HBV.out
  clear m9
  have m9 := HC9.out V HBV.out
  have HCp' := Lib.hid (HCp.out V HBV.out)
  obtain ⟨b0, b1⟩ := cells_two HNs.out
  go_wp2_with fail
  (with_reducible refine HCp'.out.mono ?_)
  rintro e w3 ⟨⟨vl, vals, rfl, hO⟩, hb3⟩
  obtain ⟨Ao, co, eo⟩ := hO.slice
  rw [HNl.out] at eo
  subst eo
  obtain ⟨mx, hmx⟩ : ∃ x, max p.lo (sLo p.ls) = x := ⟨_, rfl⟩
  have hbg := below_new (w := w3) (.cells (pgC p (.slice Ao n co)) 28)
  have hng := World.alloc_heap_new w3 (.cells (pgC p (.slice Ao n co)) 28)
  obtain ⟨V3, hV3⟩ : ∃ V, w3.alloc (.cells (pgC p (.slice Ao n co)) 28) = V := ⟨_, rfl⟩
  rw [hV3] at hbg hng
  have hz3 : V3.heap.size = w3.heap.size + 1 := by rw [← hV3]; simp
  have hb4 : Below V.heap.size V V3 := hb3.trans (hbg.mono hb3.size)
  have HB4 := Lib.hid (HBV.out.trans (hb4.mono HBV.out.size))
  have HNs4 := Lib.hid ((hb4.block _ (by have := HVz.out; omega)).trans HNs.out)
  have HNg := Lib.hid hng
  have hvw : V.heap.size ≤ w3.heap.size := hb3.size
  have HLw := Lib.hid (show ∀ u, 0 < n → ∃ gl c2, Value.slice Ao n co = .slice (some ⟨gl, 0, none⟩) n c2 ∧ LnW V gl (tgt p 0) (V3.setCell ⟨w3.heap.size, 7, none⟩ u) ∧ gl < w3.heap.size from fun u h => by
    obtain ⟨gl, c2, e2, e3⟩ := hO.lnw (by omega) (by rw [HNl.out]; exact h)
    rw [HNl.out] at e2
    rw [tgt_zero]
    exact ⟨gl, c2, e2, e3.step (hbg.setCell (Nat.le_refl _) _), e3.lt⟩)
  have HPk := Lib.hid (HAo.out (by first | trivial | rfl))
  have hsums := sums_ok HPk.out.1
  have hslo := HPk.out.2
  obtain ⟨i0, i1, i2, i3, i4, i5, i6, i7, i8, i9⟩ := HC.out V3 HB4.out
  clear i9
  have i9 := HC9.out V3 HB4.out
  obtain ⟨j0, j1, j2, j3, j4, j5, j6, j7, j8, j9⟩ := pg_cells hng
  have f7 := frozen_cells hng 7
  obtain ⟨d0, d1⟩ := cells_two HNs4.out
  unfold pgC at hV3
  have HMx := Lib.hid hmx
  clear m0 m1 m2 m3 m4 m5 m6 m7 m8 m9 b0 b1 hb3 hO hbg hng hb4 HCp' HCp hV hmx
  by_cases hcm : p.lo < sLo p.ls
  · obtain rfl : mx = sLo p.ls := by rw [← HMx.out]; omega
    go_wp2_with fail
    have hs0 : Below W1.heap.size W1 (V3.setCell ⟨w3.heap.size, 7, none⟩ (.int .i64 (sLo p.ls))) ∧ w3.heap.size < (V3.setCell ⟨w3.heap.size, 7, none⟩ (.int .i64 (sLo p.ls))).heap.size ∧ (V3.setCell ⟨w3.heap.size, 7, none⟩ (.int .i64 (sLo p.ls))).heap[w1.heap.size]? = some (.cells #[.int .i64 (sLo p.ls), .int .i64 az] 141) ∧ (V3.setCell ⟨w3.heap.size, 7, none⟩ (.int .i64 (sLo p.ls))).heap[w3.heap.size]? = some (.cells (pgC (⟨p.ob, p.yr, p.lv, p.sx, p.sy, p.nt, p.lm, sLo p.ls, p.hi, []⟩ : Pg) (.slice Ao n co)) 28) := ⟨HB4.out.setCell (by show W1.heap.size ≤ w3.heap.size; have := HBV.out.size; omega) _, Nat.lt_of_lt_of_le (by omega) (setCell_grown' V3 w3.heap.size 7 _).size, (put_other (b := w1.heap.size) (g := w3.heap.size) (k := 7) (by have := HVz.out; omega)).trans HNs4.out, (put_cell (k := 7) HNg.out).trans rfl⟩
    have HS0 := Lib.hid (And.intro hs0 (HLw.out (.int .i64 (sLo p.ls))))
    clear hs0 hV3 hz3 hvw i0 i1 i2 i3 i4 i5 i6 i7 i8 i9 j0 j1 j2 j3 j4 j5 j6 j7 j8 j9 f7 d0 d1 HLw hcm
    go_loopw [32] (fun iv wr => ∃ (i : Nat), iv = .int .i64 (i : Int) ∧ i ≤ n ∧ (Below W1.heap.size W1 wr ∧ w3.heap.size < wr.heap.size ∧ wr.heap[w1.heap.size]? = some (.cells #[.int .i64 (sLo p.ls), .int .i64 az] 141) ∧ wr.heap[w3.heap.size]? = some (.cells (pgC (⟨p.ob, p.yr, p.lv, p.sx, p.sy, p.nt, p.lm, sLo p.ls, p.hi, []⟩ : Pg) (.slice Ao n co)) 28)) ∧ (0 < n → ∃ gl c2, Value.slice Ao n co = .slice (some ⟨gl, 0, none⟩) n c2 ∧ LnW V gl (tgt p i) wr ∧ gl < w3.heap.size)) (fun iv _ => n - (intOf iv).toNat)
    case atStart => exact ⟨0, rfl, by omega, HS0.out.1, HS0.out.2⟩
    case round =>
      obtain ⟨i, rfl, hin, hr, hL⟩ := hrel
      have HR := Lib.hid hr
      by_cases hlt : i < n
      · obtain ⟨gl, c2, e2, hLw, hgl⟩ := hL (by omega)
        obtain ⟨x, ad, As, cs, hx, rfl, hY⟩ := HLs.out.at_ hlt
        obtain ⟨⟨l0, l1, l2, l3⟩, hsn⟩ := hY wr hr.1
        have hbn := below_new (w := wr) (.cells #[.int .i64 x.nm, .int .i64 x.lo, .int .i64 x.hi, .slice As x.sn.length cs] 83)
        have hnn := World.alloc_heap_new wr (.cells #[.int .i64 x.nm, .int .i64 x.lo, .int .i64 x.hi, .slice As x.sn.length cs] 83)
        obtain ⟨V5, hV5⟩ : ∃ V, wr.alloc (.cells #[.int .i64 x.nm, .int .i64 x.lo, .int .i64 x.hi, .slice As x.sn.length cs] 83) = V := ⟨_, rfl⟩
        rw [hV5] at hbn hnn
        injection e2 with e2 _ e3
        subst e2
        subst e3
        have hc := ln_cnt (HPk.out.1.ln x (List.mem_of_getElem? hx))
        have hL5 := hLw.step hbn
        have hR5 : Below W1.heap.size W1 V5 ∧ w3.heap.size < V5.heap.size ∧ V5.heap[w1.heap.size]? = some (.cells #[.int .i64 (sLo p.ls), .int .i64 az] 141) ∧ V5.heap[w3.heap.size]? = some (.cells (pgC (⟨p.ob, p.yr, p.lv, p.sx, p.sy, p.nt, p.lm, sLo p.ls, p.hi, []⟩ : Pg) (.slice (some ⟨gl, 0, none⟩) n co)) 28) := ⟨hr.1.trans (hbn.mono hr.1.size), Nat.lt_of_lt_of_le hr.2.1 hbn.size, (hbn.block _ (Array.getElem?_eq_some_iff.1 hr.2.2.1).1).trans hr.2.2.1, (hbn.block _ (Array.getElem?_eq_some_iff.1 hr.2.2.2).1).trans hr.2.2.2⟩
        obtain ⟨d0, d1⟩ := cells_two hR5.2.2.1
        obtain ⟨j0, j1, j2, j3, j4, j5, j6, j7, j8, j9⟩ := pg_cells hR5.2.2.2
        obtain ⟨i0, i1, i2, i3, i4, i5, i6, i7, i8, i9⟩ := HC.out V5 hR5.1
        clear i9
        have i9 := HC9.out V5 hR5.1
        obtain ⟨u0, u1, u2, u3⟩ := cells_four hnn
        obtain ⟨t0, t1, t2, t3⟩ := hL5.cells (tgt_at hx)
        have hw1 : IntKind.i64.wrap (sLo p.ls - x.lo) = sLo p.ls - x.lo := by rw [IntKind.wrap_i64]; omega
        have hw2 : IntKind.i64.wrap (p.hi - (sLo p.ls - x.lo)) = p.hi - (sLo p.ls - x.lo) := by rw [IntKind.wrap_i64]; omega
        have hSet := hL5.set (tgt_at hx) (min x.hi (p.hi - (sLo p.ls - x.lo)))
        rw [show hiP x (min x.hi (p.hi - (sLo p.ls - x.lo))) = tgL p x from rfl, ← tgt_next hx] at hSet
        have HR5 := Lib.hid hR5
        have hgv := hLw.base
        have HX := Lib.hid hx
        by_cases hmin : x.hi < p.hi - (sLo p.ls - x.lo)
        · rw [show min x.hi (p.hi - (sLo p.ls - x.lo)) = x.hi by omega] at hSet
          have HLs5 := Lib.hid hSet
          clear hx hY hsn hbn hnn hr hL hLw hL5 hR5 hSet
          go_wp2_with fail
          (try go_roundw)
          case rel => exact ⟨i + 1, by go_num, by omega, ⟨HR5.out.1.setCell (by show _ ≤ gl; have := HBV.out.size; omega) _, Nat.lt_of_lt_of_le HR5.out.2.1 (setCell_grown' V5 gl _ _).size, (put_other (by have := HVz.out; omega)).trans HR5.out.2.2.1, (put_other (by omega)).trans HR5.out.2.2.2⟩, fun _ => ⟨gl, co, rfl, HLs5.out, hgl⟩⟩
          case measure => simp [intOf]; omega
        · rw [show min x.hi (p.hi - (sLo p.ls - x.lo)) = (if p.hi - (sLo p.ls - x.lo) < x.hi then p.hi - (sLo p.ls - x.lo) else x.hi) by split <;> omega] at hSet
          have HLs5 := Lib.hid hSet
          clear hx hY hsn hbn hnn hr hL hLw hL5 hR5 hSet
          go_wp2_with fail
          (try go_roundw)
          case rel => exact ⟨i + 1, by go_num, by omega, ⟨HR5.out.1.setCell (by show _ ≤ gl; have := HBV.out.size; omega) _, Nat.lt_of_lt_of_le HR5.out.2.1 (setCell_grown' V5 gl _ _).size, (put_other (by have := HVz.out; omega)).trans HR5.out.2.2.1, (put_other (by omega)).trans HR5.out.2.2.2⟩, fun _ => ⟨gl, co, rfl, HLs5.out, hgl⟩⟩
          case measure => simp [intOf]; omega
      · obtain rfl : n = i := by omega
        have hz := (hr.1.block _ (by have := HZ.out.2; omega)).trans HN1.out
        have f0 := frozen_cells hz 0
        have f1 := frozen_cells hz 1
        have f2 := frozen_cells hz 2
        have f3 := frozen_cells hz 3
        have f4 := frozen_cells hz 4
        have f5 := frozen_cells hz 5
        have f6 := frozen_cells hz 6
        have f7 := frozen_cells hz 7
        have f8 := frozen_cells hz 8
        have f9 := frozen_cells hz 9
        have hfin := put10_heap (p := ⟨p.ob, p.yr, p.lv, p.sx, p.sy, p.nt, p.lm, sLo p.ls, p.hi, []⟩) (v := .slice Ao n co) hz
        obtain ⟨r0, r1, r2, r3, r4, r5, r6, r7, r8, r9⟩ := pg_cells hfin
        obtain ⟨q0, q1, q2, q3, q4, q5, q6, q7, q8, q9⟩ := pg_cells (p := zeroP) (vl := .slice none 0 0) hz
        simp only [zeroP] at q0 q1 q2 q3 q4 q5 q6 q7 q8 q9
        obtain ⟨j0, j1, j2, j3, j4, j5, j6, j7, j8, j9⟩ := pg_cells hr.2.2.2
        have HBz := Lib.hid (show Below w.heap.size w (put10 wr (w.heap.size + 1) ⟨p.ob, p.yr, p.lv, p.sx, p.sy, p.nt, p.lm, sLo p.ls, p.hi, []⟩ (.slice Ao n co)) from put10_below (HB1.out.trans (hr.1.mono HB1.out.size)) (by omega) _ _)
        have HFs := Lib.hid (show LnSl (put10 wr (w.heap.size + 1) ⟨p.ob, p.yr, p.lv, p.sx, p.sy, p.nt, p.lm, sLo p.ls, p.hi, []⟩ (.slice Ao n co)) (put10 wr (w.heap.size + 1) ⟨p.ob, p.yr, p.lv, p.sx, p.sy, p.nt, p.lm, sLo p.ls, p.hi, []⟩ (.slice Ao n co)).heap.size (.slice Ao n co) (p.ls.map (tgL p)) from by
          rw [← tgt_all (Nat.le_of_eq HNl.out)]
          by_cases h0 : 0 < n
          · obtain ⟨gl, c2, e2, hLw, hgl⟩ := hL h0
            have h5 := hLw.slo (g0 := w.heap.size + 1) (Y := put10 wr (w.heap.size + 1) ⟨p.ob, p.yr, p.lv, p.sx, p.sy, p.nt, p.lm, sLo p.ls, p.hi, []⟩ (.slice Ao n co)) (by have := HZ.out.2; have := HBV.out.size; omega) (fun b hb => put10_other hb _ _) (Nat.le_of_eq (put10_size _ _ _ _).symm) c2
            rw [tgt_len, HNl.out] at h5
            injection e2 with e2 _ e3
            subst e2
            subst e3
            exact h5
          · have h1 : (tgt p n).length = 0 := by rw [tgt_len, HNl.out]; omega
            have h2 := List.length_eq_zero_iff.1 h1
            rw [h2]
            obtain rfl : n = 0 := by omega
            exact ⟨Ao, co, rfl, fun i x h => by simp at h⟩)
        unfold put10 at r0 r1 r2 r3 r4 r5 r6 r7 r8 r9
        simp only at r0 r1 r2 r3 r4 r5 r6 r7 r8 r9 j0 j1 j2 j3 j4 j5 j6 j7 j8 j9
        clear hr hL hfin
        go_wp2_with fail
        exact bodyPost_ret (v := .tuple #[.agg #[.int .i64 p.ob, .int .i64 p.yr, .int .i64 p.lv, .int .i64 p.sx, .int .i64 p.sy, .int .i64 p.nt, .int .i64 p.lm, .int .i64 (sLo p.ls), .int .i64 p.hi, .slice Ao n co], .int .i64 0]) (by simp [results, Tryz.results40, go_sem, r0, r1, r2, r3, r4, r5, r6, r7, r8, r9]) rfl ⟨⟨_, rfl, by rw [HT.out]; exact ⟨.slice Ao n co, by unfold pgV Go.Sh.tight; rw [HMx.out], HFs.out⟩⟩, HBz.out⟩
  · obtain rfl : mx = p.lo := by rw [← HMx.out]; omega
    go_wp2_with fail
    have hs0 : Below W1.heap.size W1 (V3.setCell ⟨w3.heap.size, 7, none⟩ (.int .i64 (p.lo))) ∧ w3.heap.size < (V3.setCell ⟨w3.heap.size, 7, none⟩ (.int .i64 (p.lo))).heap.size ∧ (V3.setCell ⟨w3.heap.size, 7, none⟩ (.int .i64 (p.lo))).heap[w1.heap.size]? = some (.cells #[.int .i64 (sLo p.ls), .int .i64 az] 141) ∧ (V3.setCell ⟨w3.heap.size, 7, none⟩ (.int .i64 (p.lo))).heap[w3.heap.size]? = some (.cells (pgC (⟨p.ob, p.yr, p.lv, p.sx, p.sy, p.nt, p.lm, p.lo, p.hi, []⟩ : Pg) (.slice Ao n co)) 28) := ⟨HB4.out.setCell (by show W1.heap.size ≤ w3.heap.size; have := HBV.out.size; omega) _, Nat.lt_of_lt_of_le (by omega) (setCell_grown' V3 w3.heap.size 7 _).size, (put_other (b := w1.heap.size) (g := w3.heap.size) (k := 7) (by have := HVz.out; omega)).trans HNs4.out, (put_cell (k := 7) HNg.out).trans rfl⟩
    have HS0 := Lib.hid (And.intro hs0 (HLw.out (.int .i64 (p.lo))))
    clear hs0 hV3 hz3 hvw i0 i1 i2 i3 i4 i5 i6 i7 i8 i9 j0 j1 j2 j3 j4 j5 j6 j7 j8 j9 f7 d0 d1 HLw hcm
    go_loopw [32] (fun iv wr => ∃ (i : Nat), iv = .int .i64 (i : Int) ∧ i ≤ n ∧ (Below W1.heap.size W1 wr ∧ w3.heap.size < wr.heap.size ∧ wr.heap[w1.heap.size]? = some (.cells #[.int .i64 (sLo p.ls), .int .i64 az] 141) ∧ wr.heap[w3.heap.size]? = some (.cells (pgC (⟨p.ob, p.yr, p.lv, p.sx, p.sy, p.nt, p.lm, p.lo, p.hi, []⟩ : Pg) (.slice Ao n co)) 28)) ∧ (0 < n → ∃ gl c2, Value.slice Ao n co = .slice (some ⟨gl, 0, none⟩) n c2 ∧ LnW V gl (tgt p i) wr ∧ gl < w3.heap.size)) (fun iv _ => n - (intOf iv).toNat)
    case atStart => exact ⟨0, rfl, by omega, HS0.out.1, HS0.out.2⟩
    case round =>
      obtain ⟨i, rfl, hin, hr, hL⟩ := hrel
      have HR := Lib.hid hr
      by_cases hlt : i < n
      · obtain ⟨gl, c2, e2, hLw, hgl⟩ := hL (by omega)
        obtain ⟨x, ad, As, cs, hx, rfl, hY⟩ := HLs.out.at_ hlt
        obtain ⟨⟨l0, l1, l2, l3⟩, hsn⟩ := hY wr hr.1
        have hbn := below_new (w := wr) (.cells #[.int .i64 x.nm, .int .i64 x.lo, .int .i64 x.hi, .slice As x.sn.length cs] 83)
        have hnn := World.alloc_heap_new wr (.cells #[.int .i64 x.nm, .int .i64 x.lo, .int .i64 x.hi, .slice As x.sn.length cs] 83)
        obtain ⟨V5, hV5⟩ : ∃ V, wr.alloc (.cells #[.int .i64 x.nm, .int .i64 x.lo, .int .i64 x.hi, .slice As x.sn.length cs] 83) = V := ⟨_, rfl⟩
        rw [hV5] at hbn hnn
        injection e2 with e2 _ e3
        subst e2
        subst e3
        have hc := ln_cnt (HPk.out.1.ln x (List.mem_of_getElem? hx))
        have hL5 := hLw.step hbn
        have hR5 : Below W1.heap.size W1 V5 ∧ w3.heap.size < V5.heap.size ∧ V5.heap[w1.heap.size]? = some (.cells #[.int .i64 (sLo p.ls), .int .i64 az] 141) ∧ V5.heap[w3.heap.size]? = some (.cells (pgC (⟨p.ob, p.yr, p.lv, p.sx, p.sy, p.nt, p.lm, p.lo, p.hi, []⟩ : Pg) (.slice (some ⟨gl, 0, none⟩) n co)) 28) := ⟨hr.1.trans (hbn.mono hr.1.size), Nat.lt_of_lt_of_le hr.2.1 hbn.size, (hbn.block _ (Array.getElem?_eq_some_iff.1 hr.2.2.1).1).trans hr.2.2.1, (hbn.block _ (Array.getElem?_eq_some_iff.1 hr.2.2.2).1).trans hr.2.2.2⟩
        obtain ⟨d0, d1⟩ := cells_two hR5.2.2.1
        obtain ⟨j0, j1, j2, j3, j4, j5, j6, j7, j8, j9⟩ := pg_cells hR5.2.2.2
        obtain ⟨i0, i1, i2, i3, i4, i5, i6, i7, i8, i9⟩ := HC.out V5 hR5.1
        clear i9
        have i9 := HC9.out V5 hR5.1
        obtain ⟨u0, u1, u2, u3⟩ := cells_four hnn
        obtain ⟨t0, t1, t2, t3⟩ := hL5.cells (tgt_at hx)
        have hw1 : IntKind.i64.wrap (sLo p.ls - x.lo) = sLo p.ls - x.lo := by rw [IntKind.wrap_i64]; omega
        have hw2 : IntKind.i64.wrap (p.hi - (sLo p.ls - x.lo)) = p.hi - (sLo p.ls - x.lo) := by rw [IntKind.wrap_i64]; omega
        have hSet := hL5.set (tgt_at hx) (min x.hi (p.hi - (sLo p.ls - x.lo)))
        rw [show hiP x (min x.hi (p.hi - (sLo p.ls - x.lo))) = tgL p x from rfl, ← tgt_next hx] at hSet
        have HR5 := Lib.hid hR5
        have hgv := hLw.base
        have HX := Lib.hid hx
        by_cases hmin : x.hi < p.hi - (sLo p.ls - x.lo)
        · rw [show min x.hi (p.hi - (sLo p.ls - x.lo)) = x.hi by omega] at hSet
          have HLs5 := Lib.hid hSet
          clear hx hY hsn hbn hnn hr hL hLw hL5 hR5 hSet
          go_wp2_with fail
          (try go_roundw)
          case rel => exact ⟨i + 1, by go_num, by omega, ⟨HR5.out.1.setCell (by show _ ≤ gl; have := HBV.out.size; omega) _, Nat.lt_of_lt_of_le HR5.out.2.1 (setCell_grown' V5 gl _ _).size, (put_other (by have := HVz.out; omega)).trans HR5.out.2.2.1, (put_other (by omega)).trans HR5.out.2.2.2⟩, fun _ => ⟨gl, co, rfl, HLs5.out, hgl⟩⟩
          case measure => simp [intOf]; omega
        · rw [show min x.hi (p.hi - (sLo p.ls - x.lo)) = (if p.hi - (sLo p.ls - x.lo) < x.hi then p.hi - (sLo p.ls - x.lo) else x.hi) by split <;> omega] at hSet
          have HLs5 := Lib.hid hSet
          clear hx hY hsn hbn hnn hr hL hLw hL5 hR5 hSet
          go_wp2_with fail
          (try go_roundw)
          case rel => exact ⟨i + 1, by go_num, by omega, ⟨HR5.out.1.setCell (by show _ ≤ gl; have := HBV.out.size; omega) _, Nat.lt_of_lt_of_le HR5.out.2.1 (setCell_grown' V5 gl _ _).size, (put_other (by have := HVz.out; omega)).trans HR5.out.2.2.1, (put_other (by omega)).trans HR5.out.2.2.2⟩, fun _ => ⟨gl, co, rfl, HLs5.out, hgl⟩⟩
          case measure => simp [intOf]; omega
      · obtain rfl : n = i := by omega
        have hz := (hr.1.block _ (by have := HZ.out.2; omega)).trans HN1.out
        have f0 := frozen_cells hz 0
        have f1 := frozen_cells hz 1
        have f2 := frozen_cells hz 2
        have f3 := frozen_cells hz 3
        have f4 := frozen_cells hz 4
        have f5 := frozen_cells hz 5
        have f6 := frozen_cells hz 6
        have f7 := frozen_cells hz 7
        have f8 := frozen_cells hz 8
        have f9 := frozen_cells hz 9
        have hfin := put10_heap (p := ⟨p.ob, p.yr, p.lv, p.sx, p.sy, p.nt, p.lm, p.lo, p.hi, []⟩) (v := .slice Ao n co) hz
        obtain ⟨r0, r1, r2, r3, r4, r5, r6, r7, r8, r9⟩ := pg_cells hfin
        obtain ⟨q0, q1, q2, q3, q4, q5, q6, q7, q8, q9⟩ := pg_cells (p := zeroP) (vl := .slice none 0 0) hz
        simp only [zeroP] at q0 q1 q2 q3 q4 q5 q6 q7 q8 q9
        obtain ⟨j0, j1, j2, j3, j4, j5, j6, j7, j8, j9⟩ := pg_cells hr.2.2.2
        have HBz := Lib.hid (show Below w.heap.size w (put10 wr (w.heap.size + 1) ⟨p.ob, p.yr, p.lv, p.sx, p.sy, p.nt, p.lm, p.lo, p.hi, []⟩ (.slice Ao n co)) from put10_below (HB1.out.trans (hr.1.mono HB1.out.size)) (by omega) _ _)
        have HFs := Lib.hid (show LnSl (put10 wr (w.heap.size + 1) ⟨p.ob, p.yr, p.lv, p.sx, p.sy, p.nt, p.lm, p.lo, p.hi, []⟩ (.slice Ao n co)) (put10 wr (w.heap.size + 1) ⟨p.ob, p.yr, p.lv, p.sx, p.sy, p.nt, p.lm, p.lo, p.hi, []⟩ (.slice Ao n co)).heap.size (.slice Ao n co) (p.ls.map (tgL p)) from by
          rw [← tgt_all (Nat.le_of_eq HNl.out)]
          by_cases h0 : 0 < n
          · obtain ⟨gl, c2, e2, hLw, hgl⟩ := hL h0
            have h5 := hLw.slo (g0 := w.heap.size + 1) (Y := put10 wr (w.heap.size + 1) ⟨p.ob, p.yr, p.lv, p.sx, p.sy, p.nt, p.lm, p.lo, p.hi, []⟩ (.slice Ao n co)) (by have := HZ.out.2; have := HBV.out.size; omega) (fun b hb => put10_other hb _ _) (Nat.le_of_eq (put10_size _ _ _ _).symm) c2
            rw [tgt_len, HNl.out] at h5
            injection e2 with e2 _ e3
            subst e2
            subst e3
            exact h5
          · have h1 : (tgt p n).length = 0 := by rw [tgt_len, HNl.out]; omega
            have h2 := List.length_eq_zero_iff.1 h1
            rw [h2]
            obtain rfl : n = 0 := by omega
            exact ⟨Ao, co, rfl, fun i x h => by simp at h⟩)
        unfold put10 at r0 r1 r2 r3 r4 r5 r6 r7 r8 r9
        simp only at r0 r1 r2 r3 r4 r5 r6 r7 r8 r9 j0 j1 j2 j3 j4 j5 j6 j7 j8 j9
        clear hr hL hfin
        go_wp2_with fail
        exact bodyPost_ret (v := .tuple #[.agg #[.int .i64 p.ob, .int .i64 p.yr, .int .i64 p.lv, .int .i64 p.sx, .int .i64 p.sy, .int .i64 p.nt, .int .i64 p.lm, .int .i64 (p.lo), .int .i64 p.hi, .slice Ao n co], .int .i64 0]) (by simp [results, Tryz.results40, go_sem, r0, r1, r2, r3, r4, r5, r6, r7, r8, r9]) rfl ⟨⟨_, rfl, by rw [HT.out]; exact ⟨.slice Ao n co, by unfold pgV Go.Sh.tight; rw [HMx.out], HFs.out⟩⟩, HBz.out⟩
end Go.Proofs.YtijidcigfdblaaaGreatDoor
