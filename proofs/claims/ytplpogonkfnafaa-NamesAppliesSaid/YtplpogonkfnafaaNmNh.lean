/- The reference: Apply, its walk. -/
import Derived.Test.YtplpogonkfnafaaNmNg
import Derived.Test.YtplpogonkfnafaaNmQC
namespace Go.Proofs.Ytplpogonkfnafaa
open Go.RowKit Go.Nm

set_option maxRecDepth 100000 in
set_option maxHeartbeats 16000000 in
theorem rApply_any (v vc vf vt : Value) (b : Bk) (y : Ch) (w : World) (hv : BkV w v b vc) (hs : Sm b) (hf : InSl w w.heap.size vf y.fr) (ht : InSl w w.heap.size vt y.to) (hl : y.fr.length ≤ 1000 ∧ y.to.length ≤ 1000) :
    Calls Try.prog 45 #[v, .agg #[.int .i64 y.yr, vf, vt]] w (OutA (applyOut b y) w) := by
  obtain ⟨v1, rfl, h1, h2⟩ := hv
  obtain ⟨A1, c1, rfl, _⟩ := h1.form
  obtain ⟨A2, c2, rfl⟩ := h2.form
  obtain ⟨Af, cf, rfl, _⟩ := hf.form
  obtain ⟨At, ct, rfl, _⟩ := ht.form
  have H1 := Lib.hid h1
  have H2 := Lib.hid h2
  have HF := Lib.hid hf
  have HT := Lib.hid ht
  have HLy := Lib.hid hl
  have HS := Lib.hid hs
  obtain ⟨nf, hnf⟩ : ∃ n, b.first.length = n := ⟨_, rfl⟩
  obtain ⟨len, hlen⟩ : ∃ n, b.chs.length = n := ⟨_, rfl⟩
  obtain ⟨yf, hyf⟩ : ∃ n, y.fr.length = n := ⟨_, rfl⟩
  obtain ⟨yt, hyt⟩ : ∃ n, y.to.length = n := ⟨_, rfl⟩
  have HLn := Lib.hid hlen
  have hl1 : len ≤ 1000 := by have := hs.2.1; omega
  have HFl := Lib.hid (show b.first.length ≤ 1000 from hs.1)
  have HSm2 := Lib.hid (show b.chs.length < 1000 → Sm ⟨b.first, b.chs ++ [y]⟩ from fun h => ⟨hs.1, by simp; omega, fun x hx => by
    rcases List.mem_append.1 hx with hx | hx
    · exact hs.2.2 x hx
    · simp at hx; subst hx; exact hl⟩)
  rw [hnf] at H1
  rw [hlen] at H2
  rw [hyf] at HF
  rw [hyt] at HT
  have hM : applyOut b y = if Val b then (if len = 64 then (⟨[], []⟩, 2) else if Val ⟨b.first, b.chs ++ [y]⟩ then (⟨b.first, b.chs ++ [y]⟩, 0) else (⟨[], []⟩, 1)) else (⟨[], []⟩, 20) := by rw [← hlen]; exact apply_out b y
  have HM := Lib.hid hM
  rw [hnf, hlen, hyf, hyt]
  clear h1 h2 hf ht hs hl hM
  obtain ⟨W0, hW0⟩ : ∃ W0, ((w.alloc (.cells #[.slice A1 nf c1, .slice A2 len c2] 25)).alloc (.cells #[.int .i64 y.yr, .slice Af yf cf, .slice At yt ct] 52)).alloc (.cells #[.slice none 0 0, .slice none 0 0] 25) = W0 := ⟨_, rfl⟩
  have hE1 := below_new (w := w) (.cells #[.slice A1 nf c1, .slice A2 len c2] 25)
  have hE2 := below_new (w := w.alloc (.cells #[.slice A1 nf c1, .slice A2 len c2] 25)) (.cells #[.int .i64 y.yr, .slice Af yf cf, .slice At yt ct] 52)
  have hE3 := below_new (w := (w.alloc (.cells #[.slice A1 nf c1, .slice A2 len c2] 25)).alloc (.cells #[.int .i64 y.yr, .slice Af yf cf, .slice At yt ct] 52)) (.cells #[.slice none 0 0, .slice none 0 0] 25)
  have hsz1 : (w.alloc (.cells #[.slice A1 nf c1, .slice A2 len c2] 25)).heap.size = w.heap.size + 1 := by simp
  have hsz2 : ((w.alloc (.cells #[.slice A1 nf c1, .slice A2 len c2] 25)).alloc (.cells #[.int .i64 y.yr, .slice Af yf cf, .slice At yt ct] 52)).heap.size = w.heap.size + 2 := by simp
  have hn1 := World.alloc_heap_new w (.cells #[.slice A1 nf c1, .slice A2 len c2] 25)
  have hn2 := World.alloc_heap_new (w.alloc (.cells #[.slice A1 nf c1, .slice A2 len c2] 25)) (.cells #[.int .i64 y.yr, .slice Af yf cf, .slice At yt ct] 52)
  have hn3 := World.alloc_heap_new ((w.alloc (.cells #[.slice A1 nf c1, .slice A2 len c2] 25)).alloc (.cells #[.int .i64 y.yr, .slice Af yf cf, .slice At yt ct] 52)) (.cells #[.slice none 0 0, .slice none 0 0] 25)
  rw [hsz1] at hn2
  rw [hsz2] at hn3
  have hn2 := (hE3.block _ (by omega)).trans hn2
  have hn1 := (hE3.block _ (by omega)).trans ((hE2.block _ (by omega)).trans hn1)
  have hB0 := hE1.trans ((hE2.trans (hE3.mono hE2.size)).mono hE1.size)
  have hs0 : w.heap.size + 3 ≤ W0.heap.size := by rw [← hW0]; simp
  rw [hW0] at hB0 hn1 hn2 hn3
  clear hE1 hE2 hE3 hsz1 hsz2
  have HB0 := Lib.hid hB0
  have HX := Lib.hid (fun Y (h : Below W0.heap.size W0 Y) => cells_two ((h.block w.heap.size (by omega)).trans hn1))
  have HY := Lib.hid (fun Y (h : Below W0.heap.size W0 Y) => cells_three ((h.block (w.heap.size + 1) (by omega)).trans hn2))
  have HR := Lib.hid (fun Y (h : Below W0.heap.size W0 Y) => (h.block (w.heap.size + 2) (by omega)).trans hn3)
  have HO := Lib.hid (rValid_any (.agg #[.slice A1 nf c1, .slice A2 len c2]) (.slice A2 len c2) b W0 ⟨_, rfl, H1.out.step HB0.out, H2.out.step HB0.out⟩ HS.out)
  have HW0 := Lib.hid hW0
  obtain ⟨k0, k1⟩ := HX.out W0 (Below.refl _ _)
  rw [← hW0] at k0 k1
  clear hB0 hn1 hn2 hn3 hW0 hnf hlen hyf hyt
  have HV64 := Lib.hid (show Val b → len ≤ 64 from fun h => by have := h.1; have := HLn.out; omega)
  generalize applyOut b y = o at *
  obtain ⟨oR, oE⟩ := o
  go_enter Try.func45, Try.ntmps45
  go_wp2_with fail
  rw [HW0.out]
  (with_reducible refine (HO.out).mono ?_)
  rintro e w1 ⟨rfl, hb⟩
  have HB1 := Lib.hid hb
  clear hb k0 k1
  obtain ⟨k0, k1⟩ := HX.out w1 HB1.out
  by_cases he : Val b
  · have hM := HM.out
    rw [if_pos he] at hM
    rw [decide_eq_true he]
    have HV0 := Lib.hid (HV64.out he)
    clear HM HV64 HO
    by_cases h64 : len = 64
    · rw [if_pos h64] at hM
      injection hM with hM1 hM2
      subst hM1 hM2
      have hq : ((len : Int) == 64) = true := by simp; omega
      clear h64
      obtain ⟨r0, r1⟩ := cells_two (HR.out w1 HB1.out)
      have f0 := frozen_cells (HR.out w1 HB1.out) 0
      have f1 := frozen_cells (HR.out w1 HB1.out) 1
      have HBf := Lib.hid (HB0.out.trans ((HB1.out).mono HB0.out.size))
      go_wp2_with fail
      (try rw [Exit.noGoto_ret])
      exact bodyPost_ret (v := .tuple #[.agg #[.slice none 0 0, .slice none 0 0], .int .i64 2]) (by simp [results, Try.results45, go_sem, r0, r1]) rfl ⟨_, _, rfl, bk_nil _, (HBf.out.setCell (by simp; omega) _).setCell (by simp; omega) _⟩
    · rw [if_neg h64] at hM
      have HM := Lib.hid hM
      have hq : ((len : Int) == 64) = false := by simp; omega
      have HSm2 := Lib.hid (HSm2.out (by have h1 := HLn.out; have h2 := HV0.out; omega))
      clear hM he
      go_wp2_with fail
      have hE := below_new (w := w1) (.cells #[.slice A1 nf c1, .slice A2 len c2] 25)
      have hn := World.alloc_heap_new w1 (.cells #[.slice A1 nf c1, .slice A2 len c2] 25)
      have hgs : w1.heap.size < (w1.alloc (.cells #[.slice A1 nf c1, .slice A2 len c2] 25)).heap.size := by simp
      obtain ⟨V, hV⟩ : ∃ V, w1.alloc (.cells #[.slice A1 nf c1, .slice A2 len c2] 25) = V := ⟨_, rfl⟩
      obtain ⟨gb, hgb⟩ : ∃ g, w1.heap.size = g := ⟨_, rfl⟩
      rw [hV] at hE hn hgs ⊢
      rw [hgb] at hn hgs ⊢
      have HV := Lib.hid (HB1.out.trans (hE.mono HB1.out.size))
      have HV1 := Lib.hid (And.intro hE (And.intro hn hgb))
      have HCs := Lib.hid (show ChSl w1 w1.heap.size (.slice A2 len c2) b.chs from (H2.out.step HB0.out).step HB1.out)
      have HEx := Lib.hid (show EI w1 y (.slice Af yf cf) (.slice At yt ct) from ⟨(HF.out.step HB0.out).step HB1.out, (HT.out.step HB0.out).step HB1.out⟩)
      clear hE hn hV hgb k0 k1
      refine wp_opaque ?_
      intro t0 ht0
      have hsz0 : t0.size = 31 := by rw [ht0]; rfl
      have t2 : t0.getD 2 undef = .pointer (some ⟨w.heap.size, 0, none⟩) := by rw [ht0]; rfl
      have t3 : t0.getD 3 undef = .pointer (some ⟨w.heap.size + 1, 0, none⟩) := by rw [ht0]; rfl
      have t6 : t0.getD 6 undef = .pointer (some ⟨gb, 0, none⟩) := by rw [ht0]; rfl
      have HT0 := Lib.hid ht0
      clear ht0
      refine wp_region_vals [some 17, some 18, some 19, some 20, some 21, some 22, some 23, some 24, none] (RqI V.drew w1 b.chs y (fun X => ∃ u, X.heap[gb]? = some (.cells #[.slice A1 nf c1, u] 25) ∧ Rw V.heap.size w1 (b.chs ++ [y]) X u ∧ Below w1.heap.size w1 X) (.pointer (some ⟨w.heap.size, 1, none⟩)) (.slice A2 len c2) (.agg #[.int .i64 y.yr, .slice Af yf cf, .slice At yt ct]) (.pointer (some ⟨gb, 1, none⟩)) (.slice Af yf cf) (.slice At yt ct)) (by kernel_rfl) (by kernel_rfl) rfl rfl (by simp [hsz0]) (by kernel_rfl) ?_ ?_ ?_
      · intro val
        exact ⟨(fun h => nomatch h), (fun h => nomatch h), (fun h => nomatch h), (fun h => nomatch h), fun _ => Below.refl _ _, (fun h => nomatch h), (fun h => nomatch h), (fun h => nomatch h), (fun h => nomatch h), (fun h => nomatch h), (fun h => nomatch h)⟩
      · intro dn q o hi hd hp hc val X a ha hn hI K hK
        have hq : q < 9 := by
          have := (Array.getElem?_eq_some_iff.1 hi).1
          simpa using this
        have cc2 : dn 2 = true → dn 1 = true := fun h => hc 2 _ rfl h ⟨1, .data⟩ (by simp) rfl
        have c3 : dn 3 = true → dn 0 = true ∧ dn 2 = true := fun h => ⟨hc 3 _ rfl h ⟨0, .data⟩ (by simp) rfl, hc 3 _ rfl h ⟨2, .data⟩ (by simp) rfl⟩
        have c5 : dn 5 = true → dn 4 = true := fun h => hc 5 _ rfl h ⟨4, .data⟩ (by simp) rfl
        have c6 : dn 6 = true → dn 3 = true ∧ dn 5 = true := fun h => ⟨hc 6 _ rfl h ⟨3, .data⟩ (by simp) rfl, hc 6 _ rfl h ⟨5, .data⟩ (by simp) rfl⟩
        have c8 : dn 8 = true → dn 6 = true := fun h => hc 8 _ rfl h ⟨6, .data⟩ (by simp) rfl
        have bf : ∀ {q : Bool}, (q = true → False) → q = false := fun {q} h => by cases q; rfl; exact (h rfl).elim
        have hBd : dn 8 = false → Below V.heap.size V X := fun n => (Below.refl V.heap.size V).drew.trans (hI.bel n)
        rcases (show q = 0 ∨ q = 1 ∨ q = 2 ∨ q = 3 ∨ q = 4 ∨ q = 5 ∨ q = 6 ∨ q = 7 ∨ q = 8 by omega) with rfl | rfl | rfl | rfl | rfl | rfl | rfl | rfl | rfl
        · obtain rfl := Option.some.inj hi
          have n3 : dn 3 = false := bf fun h => f_t hd (c3 h).1
          have n6 : dn 6 = false := bf fun h => f_t n3 (c6 h).1
          have n8 : dn 8 = false := bf fun h => f_t n6 (c8 h)
          exact opNewCs rfl (hK _ _ (hI.op0 n3 n6 n8))
        · obtain rfl := Option.some.inj hi
          exact opField1 2 w.heap.size rfl ((ha 2).trans t2) (hK _ _ hI.op1)
        · obtain rfl := Option.some.inj hi
          have y1 := hp ⟨1, .data⟩ (by simp) rfl
          have n8 : dn 8 = false := bf fun h => f_t hd (c3 (c6 (c8 h)).1).2
          exact opLdCs 18 _ _ rfl ((ha 18).trans (hI.s1 y1)) (HX.out X (HV.out.trans ((hBd n8).mono HV.out.size))).2 (hK _ _ hI.op2)
        · obtain rfl := Option.some.inj hi
          have y0 := hp ⟨0, .data⟩ (by simp) rfl
          have y2 := hp ⟨2, .data⟩ (by simp) rfl
          have n6 : dn 6 = false := bf fun h => f_t hd (c6 h).1
          have n8 : dn 8 = false := bf fun h => f_t n6 (c8 h)
          have hB := hBd n8
          exact run_append_chs (W := w1) (.tmp 17) (.tmp 19) rfl (ha 17) (hI.e0 y0 hd) hB.size ((ha 19).trans (hI.s2 y2)) HCs.out (HV1.out.1.trans (hB.mono HV1.out.1.size)) (by have := HLn.out; omega) (fun v' w' vals g1 g2 g3 _ => hK _ _ (hI.op3 y0 hd n6 n8 ⟨vals, g1, g2⟩ g3))
        · obtain rfl := Option.some.inj hi
          have n8 : dn 8 = false := bf fun h => f_t hd (c5 (c6 (c8 h)).2)
          obtain ⟨d0, d1, d2⟩ := HY.out X (HV.out.trans ((hBd n8).mono HV.out.size))
          exact opLdC 3 ⟨w.heap.size + 1, 0, none⟩ _ _ _ rfl ((ha 3).trans t3) d0 d1 d2 (hK _ _ hI.op4)
        · obtain rfl := Option.some.inj hi
          have y4 := hp ⟨4, .data⟩ (by simp) rfl
          have n6 : dn 6 = false := bf fun h => f_t hd (c6 h).2
          have n8 : dn 8 = false := bf fun h => f_t n6 (c8 h)
          exact opBoxC 21 _ _ _ _ _ _ _ rfl ((ha 21).trans (hI.s4 y4)) (hK _ _ (hI.op5 n6 n8))
        · obtain rfl := Option.some.inj hi
          have y3 := hp ⟨3, .data⟩ (by simp) rfl
          have y5 := hp ⟨5, .data⟩ (by simp) rfl
          have n8 : dn 8 = false := bf fun h => f_t hd (c8 h)
          obtain ⟨vals, h1, h2⟩ := hI.e3 y3 hd
          obtain ⟨g, e5, _, h5⟩ := hI.e5 y5 hd
          exact run_append_ch (.tmp 20) (.tmp 22) rfl (ha 20) h1 (hBd n8).size g ((ha 22).trans e5) h5 rfl rfl (by have := HLn.out; omega) (fun v' w' g1 g2 _ => hK _ _ (hI.op6 y3 hd n8 ⟨_, by rw [List.length_append]; exact g1, h2.snoc HEx.out⟩ g2))
        · obtain rfl := Option.some.inj hi
          exact opField1 6 gb rfl ((ha 6).trans t6) (hK _ _ hI.op7)
        · obtain rfl := Option.some.inj hi
          have y6 := hp ⟨6, .data⟩ (by simp) rfl
          have y7 := hp ⟨7, .data⟩ (by simp) rfl
          obtain ⟨y3, _⟩ := c6 y6
          obtain ⟨vals, h1, h2⟩ := hI.e6 y6 hd
          have hB := hBd hd
          have hbox := (hB.block gb hgs).trans HV1.out.2.1
          have hbw := HV1.out.2.2
          refine opStoreCs 24 23 ⟨gb, 1, none⟩ (val 6) (.slice A2 len c2) rfl ((ha 24).trans (hI.s7 y7)) (ha 23) (own_some h1) (cells_two hbox).2 (frozen_cells hbox 1) (fun u => hK u _ (hI.op8 y3 y6 (u := u) ⟨val 6, heap_setCell_same X gb 1 _ _ (val 6) hbox, ⟨vals, h1.kept (setCell_grown' X gb 1 (val 6)) (.inr fun e => ?_), h2⟩, ?_⟩))
          · have h3 : V.heap.size ≤ gb := (h1.lt gb e).1
            omega
          · exact (HV1.out.1.trans (hB.mono HV1.out.1.size)).setCell (by simp; omega) _
      · intro dn val X hdn hI
        obtain ⟨u, hbox, hRw, hBw⟩ := hI.e8 (hdn 8 (by simp))
        clear hdn hI
        simp only [wrS, HT0.out]
        simp only [List.setIfInBounds_toArray, List.set_cons_succ, List.set_cons_zero]
        clear t2 t3 t6 hsz0 HT0
        have HBX := Lib.hid (HB1.out.trans (hBw.mono HB1.out.size))
        obtain ⟨vals, ho, hels⟩ := hRw
        obtain ⟨Ax, mx, cx, rfl⟩ := own_some ho
        have HBk := Lib.hid (show BkV X (.agg #[.slice A1 nf c1, .slice Ax mx cx]) ⟨b.first, b.chs ++ [y]⟩ (.slice Ax mx cx) from ⟨_, rfl, (H1.out.step HB0.out).step HBX.out, els_sl hels ho fun _ _ _ e => ⟨e.1.step hBw, e.2.step hBw⟩⟩)
        have HGb := Lib.hid hbox
        have HO2 := Lib.hid (rValid_any _ _ _ X HBk.out HSm2.out)
        obtain ⟨k0, k1⟩ := cells_two hbox
        clear hbox ho hels hBw
        go_wp2_with fail
        (with_reducible refine HO2.out.mono ?_)
        rintro e w2 ⟨rfl, hb⟩
        have HB2 := Lib.hid (HBX.out.trans (hb.mono HBX.out.size))
        have HBk2 := Lib.hid (HBk.out.step hb)
        have HG2 := Lib.hid ((hb.block _ (Array.getElem?_eq_some_iff.1 HGb.out).1).trans HGb.out)
        clear hb k0 k1 HO2
        by_cases he : Val ⟨b.first, b.chs ++ [y]⟩
        · have hM := HM.out
          rw [if_pos he] at hM
          rw [decide_eq_true he]
          injection hM with hM1 hM2
          subst hM1 hM2
          have HCp := Lib.hid (rCopy_any _ _ _ w2 HBk2.out HSm2.out)
          obtain ⟨k0, k1⟩ := cells_two HG2.out
          clear HM he
          go_wp2_with fail
          (with_reducible refine HCp.out.mono ?_)
          rintro e w3 ⟨u, rfl, ⟨uc, h1, h2⟩, hb⟩
          have HB3 := Lib.hid (HB2.out.trans (hb.mono HB2.out.size))
          obtain ⟨u1, rfl, h3, h4⟩ := h1
          obtain ⟨Ay, cy, rfl, _⟩ := h3.form
          obtain ⟨Az, cz, rfl⟩ := h4.form
          obtain ⟨ny, hny⟩ : ∃ n, b.first.length = n := ⟨_, rfl⟩
          obtain ⟨nz, hnz⟩ : ∃ n, (b.chs ++ [y]).length = n := ⟨_, rfl⟩
          dsimp only at h2 ⊢
          rw [hny, hnz] at h2 ⊢
          have HBk3 := Lib.hid (h2 (w.heap.size + 2) _ (by have := HB2.out.size; omega) (set2_grown w3 (w.heap.size + 2) (.slice Ay ny cy) (.slice Az nz cz)))
          clear h2 h3 h4 hb k0 k1 hny hnz HCp
          obtain ⟨r0, r1⟩ := cells_two (HR.out w3 HB3.out)
          have f0 := frozen_cells (HR.out w3 HB3.out) 0
          have f1 := frozen_cells (HR.out w3 HB3.out) 1
          have HBf := Lib.hid (HB0.out.trans (HB3.out.mono HB0.out.size))
          go_wp2_with fail
          (try rw [Exit.noGoto_ret])
          exact bodyPost_ret (v := .tuple #[.agg #[.slice Ay ny cy, .slice Az nz cz], .int .i64 0]) (by simp [results, Try.results45, go_sem, r0, r1]) rfl ⟨_, _, rfl, HBk3.out, (HBf.out.setCell (by simp; omega) _).setCell (by simp; omega) _⟩
        · have hM := HM.out
          rw [if_neg he] at hM
          rw [decide_eq_false he]
          injection hM with hM1 hM2
          subst hM1 hM2
          clear HM he
          obtain ⟨r0, r1⟩ := cells_two (HR.out w2 HB2.out)
          have f0 := frozen_cells (HR.out w2 HB2.out) 0
          have f1 := frozen_cells (HR.out w2 HB2.out) 1
          have HBf := Lib.hid (HB0.out.trans ((HB2.out).mono HB0.out.size))
          go_wp2_with fail
          (try rw [Exit.noGoto_ret])
          exact bodyPost_ret (v := .tuple #[.agg #[.slice none 0 0, .slice none 0 0], .int .i64 1]) (by simp [results, Try.results45, go_sem, r0, r1]) rfl ⟨_, _, rfl, bk_nil _, (HBf.out.setCell (by simp; omega) _).setCell (by simp; omega) _⟩
  · have hM := HM.out
    rw [if_neg he] at hM
    rw [decide_eq_false he]
    injection hM with hM1 hM2
    subst hM1 hM2
    clear HM HV64 HO he
    obtain ⟨r0, r1⟩ := cells_two (HR.out w1 HB1.out)
    have f0 := frozen_cells (HR.out w1 HB1.out) 0
    have f1 := frozen_cells (HR.out w1 HB1.out) 1
    have HBf := Lib.hid (HB0.out.trans ((HB1.out).mono HB0.out.size))
    go_wp2_with fail
    (try rw [Exit.noGoto_ret])
    exact bodyPost_ret (v := .tuple #[.agg #[.slice none 0 0, .slice none 0 0], .int .i64 20]) (by simp [results, Try.results45, go_sem, r0, r1]) rfl ⟨_, _, rfl, bk_nil _, (HBf.out.setCell (by simp; omega) _).setCell (by simp; omega) _⟩
end Go.Proofs.Ytplpogonkfnafaa
