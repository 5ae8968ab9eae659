/- Copies of sheets: the reference. -/
import Derived.Deep.Cut
import Derived.Test.YtijidcigfdblaaaGreatDoorShK
namespace Go.Proofs.YtijidcigfdblaaaGreatDoor
open Go.RowKit Go.Nm Go.Sh Go.Plc

set_option maxRecDepth 100000 in
set_option maxHeartbeats 16000000 in
theorem rCopy_any (v : Value) (p : Pg) (w : World) (hv : PgV w v p) (hp : PgSm p) : Calls Tryz.prog 99 #[v] w fun e w' => (∃ vl vals, e = .returned (pgV p vl) ∧ LoI w (w.heap.size + 3) p.ls vals vl w') ∧ Below w.heap.size w w' := by
  obtain ⟨A, c, W0, W1, rfl, hW0, hW1, hb1, hz0, hz1, hn1, hV, hL, hC⟩ := pg_box2 hv #[.int .i64 0, .int .i64 0, .int .i64 0, .int .i64 0, .int .i64 0, .int .i64 0, .int .i64 0, .int .i64 0, .int .i64 0, .slice none 0 0] 28
  have hl0 : LnSl w w.heap.size (.slice A p.ls.length c) p.ls := by
    obtain ⟨vl, e, h⟩ := hv
    have e2 : Value.slice A p.ls.length c = vl := by unfold pgV at e; simpa using e
    rw [e2]; exact h
  have hb2 := below_new (w := W1) (.cells (pgC p (.slice A p.ls.length c)) 28)
  have hn2 := World.alloc_heap_new W1 (.cells (pgC p (.slice A p.ls.length c)) 28)
  obtain ⟨W2, hW2⟩ : ∃ W, W1.alloc (.cells (pgC p (.slice A p.ls.length c)) 28) = W := ⟨_, rfl⟩
  have hz2 : W2.heap.size = w.heap.size + 1 + 1 + 1 := by rw [← hW2]; simp [hz1]
  rw [hW2] at hb2 hn2
  rw [hz1] at hn2
  have hn3 := put_pg (u := .slice none 0 0) hn2
  have hb3 : Below w.heap.size w (W2.setCell ⟨w.heap.size + 1 + 1, 9, none⟩ (.slice none 0 0)) := (hb1.trans (hb2.mono hb1.size)).setCell (by show _ ≤ _ + 1 + 1; omega) _
  have HN := Lib.hid (And.intro (show (W2.setCell ⟨w.heap.size + 1 + 1, 9, none⟩ (.slice none 0 0)).heap[w.heap.size + 1]? = some (.cells #[.int .i64 0, .int .i64 0, .int .i64 0, .int .i64 0, .int .i64 0, .int .i64 0, .int .i64 0, .int .i64 0, .int .i64 0, .slice none 0 0] 28) from (put_other (b := w.heap.size + 1) (g := w.heap.size + 1 + 1) (by omega)).trans ((hb2.block _ (by omega)).trans hn1)) hn3)
  have HB := Lib.hid hb3
  obtain ⟨_, _, _, _, _, _, _, _, _, k9⟩ := pg_cells hn2
  have f9 := frozen_cells hn2 9
  obtain ⟨_, _, _, _, _, _, _, _, _, b9⟩ := hC W2 (hb2.mono (by omega))
  have HL0 := Lib.hid hl0
  have HSn := Lib.hid hp.2
  have hn := hp.1
  obtain ⟨g0, g1, g2, g3, g4, g5, g6, g7, g8, g9⟩ := hC W1 (Below.refl _ _)
  obtain ⟨n, hn'⟩ : ∃ n, p.ls.length = n := ⟨_, rfl⟩
  have HNl := Lib.hid hn'
  unfold pgV
  unfold pgC at hW0 hW2
  rw [hn'] at hn g9 k9 b9 hW0 hW2 HL0 ⊢
  have HZ := Lib.hid (And.intro hz0 (And.intro hz1 hz2))
  have hsz : w.heap.size + 3 ≤ (W2.setCell ⟨w.heap.size + 1 + 1, 9, none⟩ (.slice none 0 0)).heap.size := by simp [hz2]
  have HCn := Lib.hid (fun Y (h : Below (w.heap.size + 1) W1 Y) => show Y.cell? ⟨w.heap.size, 9, none⟩ = some (.slice A n c) from by have h2 := (hC Y h).2.2.2.2.2.2.2.2.2; rw [hn'] at h2; exact h2)
  have HB0 := Lib.hid (show Below (w.heap.size + 1) W1 (W2.setCell ⟨w.heap.size + 1 + 1, 9, none⟩ (.slice none 0 0)) from (hb2.mono (by omega)).setCell (by show _ ≤ _ + 1 + 1; omega) _)
  clear hv hp hb1 hb2 hb3 hn1 hn2 hn3 hz2 hn' hV hL hC hl0
  go_enter Tryz.func99, Tryz.ntmps99
  go_wp2_with fail
  clear hW0 hW1 hW2 hz0 hz1 g0 g1 g2 g3 g4 g5 g6 g7 g8 g9 k9 f9 b9
  go_loopw [4] (fun iv wr => ∃ (i : Nat) (vals : List Value) (ov : Value), iv = .int .i64 (i : Int) ∧ i ≤ n ∧ Below (w.heap.size + 1) W1 wr ∧ wr.heap[w.heap.size + 1]? = some (.cells #[.int .i64 0, .int .i64 0, .int .i64 0, .int .i64 0, .int .i64 0, .int .i64 0, .int .i64 0, .int .i64 0, .int .i64 0, .slice none 0 0] 28) ∧ wr.heap[w.heap.size + 1 + 1]? = some (.cells (pgC p ov) 28) ∧ LoI w (w.heap.size + 3) (p.ls.take i) vals ov wr) (fun iv _ => n - (intOf iv).toNat)
  case atStart => exact ⟨0, [], .slice none 0 0, rfl, by omega, HB0.out, HN.out.1, HN.out.2, LoI.start _ _ HB.out hsz⟩
  case round =>
    obtain ⟨i, vals, ov, rfl, hin, hbw, hr1, hr2, hO⟩ := hrel
    have HO := Lib.hid hO
    have HBw := Lib.hid hbw
    have g9 := HCn.out wr hbw
    by_cases hlt : i < n
    · obtain ⟨x, ad, As, cs, hx, rfl, hY⟩ := HL0.out.at_ hlt
      have his : (i : Int) < (n : Int) := by omega
      have hi0 : ¬ (i : Int) < 0 := by omega
      obtain ⟨⟨l0, l1, l2, l3⟩, hsn⟩ := hY wr hO.bel
      have hbn := below_new (w := wr) (.cells #[.int .i64 x.nm, .int .i64 x.lo, .int .i64 x.hi, .slice As x.sn.length cs] 83)
      have hnn := World.alloc_heap_new wr (.cells #[.int .i64 x.nm, .int .i64 x.lo, .int .i64 x.hi, .slice As x.sn.length cs] 83)
      obtain ⟨V, hV⟩ : ∃ V, wr.alloc (.cells #[.int .i64 x.nm, .int .i64 x.lo, .int .i64 x.hi, .slice As x.sn.length cs] 83) = V := ⟨_, rfl⟩
      have hVz : V.heap.size = wr.heap.size + 1 := by rw [← hV]; simp
      rw [hV] at hbn hnn
      have HX := Lib.hid hx
      have hlit := OwN.lit V
      have hln2 := (hlit.bel.block _ (by rw [hVz]; omega)).trans hnn
      obtain ⟨m0, m1, m2, m3⟩ := cells_four hln2
      have HLn := Lib.hid hnn
      have HMl := Lib.hid ((hsn.step hbn).step hlit.bel)
      have HL0b := Lib.hid hlit
      have HLe := Lib.hid (show ([] : List Int).length + x.sn.length ≤ 3000000 from by have := HSn.out x (List.mem_of_getElem? hx); simp; omega)
      have HLi := Lib.hid (show (p.ls.take i ++ [x]).length = i + 1 from by rw [List.length_append, List.length_take, HNl.out, List.length_singleton]; omega)
      have HLe2 := Lib.hid (show (p.ls.take i).length ≤ 100000 from by rw [List.length_take]; omega)
      have HR := Lib.hid (And.intro hr1 hr2)
      have HVz := Lib.hid hVz
      have HBn := Lib.hid hbn
      clear hx hY hsn hbn hnn hr1 hr2 hlit hVz hln2 hO hbw
      go_upto_region 8 with (at_builtin; refine wpList_appN rfl _ _ rfl HL0b.out rfl rfl HMl.out HLe.out ?_; intro v6 w6 hI6 _; rw [List.nil_append] at hI6; obtain ⟨A6, c6, e6, _⟩ := hI6.sl.form; subst e6; have HI6 := Lib.hid hI6; have hln6 := (hI6.bel.block _ (by rw [HVz.out]; omega)).trans HLn.out; obtain ⟨n0, n1, n2, n3⟩ := cells_four hln6; have fz6 := frozen_cells hln6 3; have HLn6 := Lib.hid hln6; clear hI6 hln6 m0 m1 m2 m3)
      obtain ⟨Z, hZ⟩ : ∃ Z, w6.setCell ⟨wr.heap.size, 3, none⟩ (.slice A6 x.sn.length c6) = Z := ⟨_, rfl⟩
      have hbz : Below wr.heap.size wr Z := by rw [← hZ]; exact (HBn.out.trans (HI6.out.bel.mono HBn.out.size)).setCell (Nat.le_refl _) _
      have hlz : Z.heap[wr.heap.size]? = some (.cells #[.int .i64 x.nm, .int .i64 x.lo, .int .i64 x.hi, .slice A6 x.sn.length c6] 83) := by rw [← hZ, put_cell HLn6.out]; rfl
      have hlo : ∀ g, Value.ownBlock (.slice A6 x.sn.length c6) = some g → wr.heap.size + 1 ≤ g ∧ g < Z.heap.size := fun g e => by
        have h1 := HI6.out.own.lt g e
        have h2 := HVz.out
        refine ⟨by omega, ?_⟩
        rw [← hZ]; simp; omega
      have hsl : InSl Z Z.heap.size (.slice A6 x.sn.length c6) x.sn := by
        have h3 : w6.heap.size ≤ Z.heap.size := by rw [← hZ]; simp
        rw [← hZ] at h3 ⊢
        exact (HI6.out.sl.keepOwn fun p hp => World.cell?_of_block (put_other (by have := (hlo _ hp).1; omega))).mono h3
      have hOz := HO.out.step hbz
      have hr1 := (hbz.block _ (Array.getElem?_eq_some_iff.1 HR.out.1).1).trans HR.out.1
      have hr2 := (hbz.block _ (Array.getElem?_eq_some_iff.1 HR.out.2).1).trans HR.out.2
      have hbb := below_new (w := Z) (.cells #[.int .i64 x.nm, .int .i64 x.lo, .int .i64 x.hi, .slice A6 x.sn.length c6] 83)
      have hnb := World.alloc_heap_new Z (.cells #[.int .i64 x.nm, .int .i64 x.lo, .int .i64 x.hi, .slice A6 x.sn.length c6] 83)
      have HOb := Lib.hid (hOz.step hbb)
      have HNb := Lib.hid hnb
      have HSb := Lib.hid (hsl.step hbb)
      have HRb := Lib.hid (And.intro ((hbb.block _ (Array.getElem?_eq_some_iff.1 hr1).1).trans hr1) ((hbb.block _ (Array.getElem?_eq_some_iff.1 hr2).1).trans hr2))
      have HBb := Lib.hid (show Below (w.heap.size + 1) W1 (Z.alloc (.cells #[.int .i64 x.nm, .int .i64 x.lo, .int .i64 x.hi, .slice A6 x.sn.length c6] 83)) from (HBw.out.trans (hbz.mono (by have := HO.out.tb; omega))).trans (hbb.mono (by have := hOz.tb; omega)))
      have HRo := Lib.hid (show ∀ g, Value.ownBlock (.slice A6 x.sn.length c6) = some g → ov.ownBlock ≠ some g ∧ g < (Z.alloc (.cells #[.int .i64 x.nm, .int .i64 x.lo, .int .i64 x.hi, .slice A6 x.sn.length c6] 83)).heap.size from fun g e => ⟨fun e2 => by have h1 := (hlo g e).1; have h2 := (HO.out.lt e2).2; omega, by have := (hlo g e).2; simp; omega⟩)
      have HRt := Lib.hid (show ∀ g, Value.ownBlock (.slice A6 x.sn.length c6) = some g → w.heap.size + 3 ≤ g from fun g e => by have h1 := (hlo g e).1; have h2 := HO.out.tb; omega)
      obtain ⟨_, _, _, _, _, _, _, _, _, pz9⟩ := pg_cells hr2
      obtain ⟨z0, z1, z2, z3⟩ := cells_four hlz
      rw [hZ]
      clear hZ hbz hlo hsl hOz hr1 hr2 hbb hnb hlz n0 n1 n2 n3 fz6 g9 l0 l1 l2 l3 hV
      go_wp2_with (at_builtin; refine wpList_app_ln rfl _ _ rfl rfl HOb.out Z.heap.size rfl HNb.out HSb.out HRo.out HRt.out HLe2.out ?_; intro v5 w5 k1 k2 k3; obtain ⟨A5, c5, e5⟩ := k1.slice; rw [HLi.out] at e5; have kk : ∀ b o, b < w.heap.size + 3 → (Z.alloc (.cells #[.int .i64 x.nm, .int .i64 x.lo, .int .i64 x.hi, .slice A6 x.sn.length c6] 83)).heap[b]? = some o → w5.heap[b]? = some o := (fun b o hb ho => (k2.block _ (Array.getElem?_eq_some_iff.1 ho).1 (fun e => by have := HOb.out.ot b e.symm; omega)).trans ho); have q1 := kk (w.heap.size + 1) _ (by omega) HRb.out.1; have q2 := kk (w.heap.size + 1 + 1) _ (by omega) HRb.out.2; obtain ⟨_, _, _, _, _, _, _, _, _, r9⟩ := pg_cells q2; have s9 := frozen_cells q2 9; have HQ := Lib.hid (And.intro q1 (And.intro q2 (And.intro k1 (show Below (w.heap.size + 1) W1 w5 from HBb.out.grown k2 (by have := HOb.out.tb; omega) (fun r e => by have := HOb.out.ot r e; omega))))); subst e5; clear kk q1 q2 k1 k2 k3)
      go_roundw
      case rel =>
        refine ⟨i + 1, vals ++ [.int .i64 x.nm, .int .i64 x.lo, .int .i64 x.hi, .slice A6 x.sn.length c6], _, by go_num, by omega, HQ.out.2.2.2.setCell (by show _ ≤ _ + 1 + 1; omega) _, (put_other (by omega)).trans HQ.out.1, put_pg HQ.out.2.1, ?_⟩
        rw [show p.ls.take (i + 1) = p.ls.take i ++ [x] from by rw [List.take_add_one, HX.out]; rfl]
        exact HQ.out.2.2.1.other (setCell_grown' _ _ _ _) (by omega) (by omega)
      case measure => simp [intOf]; omega
    · obtain rfl : n = i := by omega
      have hO := HO.out
      have hO2 := hO
      rw [List.take_of_length_le (by rw [HNl.out]; exact Nat.le_refl _)] at hO2
      obtain ⟨Ao, co, eo⟩ := hO2.slice
      rw [HNl.out] at eo
      subst eo
      obtain ⟨k0, k1, k2, k3, k4, k5, k6, k7, k8, k9⟩ := pg_cells hr2
      obtain ⟨j0, j1, j2, j3, j4, j5, j6, j7, j8, j9⟩ := pg_cells (p := ⟨0, 0, 0, 0, 0, 0, 0, 0, 0, []⟩) (vl := .slice none 0 0) hr1
      have f0 := frozen_cells hr1 0
      have f1 := frozen_cells hr1 1
      have f2 := frozen_cells hr1 2
      have f3 := frozen_cells hr1 3
      have f4 := frozen_cells hr1 4
      have f5 := frozen_cells hr1 5
      have f6 := frozen_cells hr1 6
      have f7 := frozen_cells hr1 7
      have f8 := frozen_cells hr1 8
      have f9 := frozen_cells hr1 9
      have hfin := put10_heap (p := p) (v := .slice Ao n co) hr1
      have HO2 := Lib.hid (put10_lo hO2 (w.heap.size + 1) (by omega) (by omega) p (.slice Ao n co))
      obtain ⟨r0, r1, r2, r3, r4, r5, r6, r7, r8, r9⟩ := pg_cells hfin
      unfold put10 at r0 r1 r2 r3 r4 r5 r6 r7 r8 r9
      clear hO hO2 hfin hbw
      go_wp2_with fail
      exact bodyPost_ret (v := .agg #[.int .i64 p.ob, .int .i64 p.yr, .int .i64 p.lv, .int .i64 p.sx, .int .i64 p.sy, .int .i64 p.nt, .int .i64 p.lm, .int .i64 p.lo, .int .i64 p.hi, .slice Ao n co]) (by simp [results, Tryz.results99, go_sem, r0, r1, r2, r3, r4, r5, r6, r7, r8, r9]) rfl ⟨⟨_, rfl, vals, HO2.out⟩, HO2.out.bel⟩
end Go.Proofs.YtijidcigfdblaaaGreatDoor
