/- The reference's builder: make, its walk. -/
import Derived.Test.YthfegbcbpeedbaaDoorKyBh
import Derived.Deep.Cut
namespace Go.Proofs.YthfegbcbpeedbaaDoor
open Go.RowKit Go.Nm Go.Ky

theorem KbS.obl {R : Nat → Prop} {W X : World} {m1 m2 : Value} {gk : Nat} {k : Kx} {vn vl : Value} (h : KbS R W m1 m2 gk k vn vl X) : ∀ g, Ob gk vn.ownBlock vl.ownBlock g → g < X.heap.size := fun g hg => by
  obtain ⟨_, oa, _⟩ := h.own
  obtain ⟨_, ob, _⟩ := h.lwn
  rcases hg with h1 | h1 | h1
  · rw [h1]; exact (Array.getElem?_eq_some_iff.1 h.box).1
  · exact (oa.lt g h1).2
  · exact (ob.lt g h1).2
set_option maxRecDepth 100000 in
set_option maxHeartbeats 32000000 in
theorem make_any {W : World} {gk : Nat} {m : Mx} {A1 A2 : Option Addr} {c1 c2 : Nat} (hMW : MxV W (.agg #[.slice A1 m.st.length c1, .slice A2 m.rows.length c2]) m) (hs : MSm m) (hmx : mxF m = true) :
    ∀ (d : Nat) (R : Nat → Prop) (l : List Int) (k : Kx) (vn vl u : Value) (X : World), KbS R W (.slice A1 m.st.length c1) (.slice A2 m.rows.length c2) gk k vn vl X → (∀ g, R g → g < X.heap.size) → Apt X (Ob gk vn.ownBlock vl.ownBlock) u l → Kn m.st l → setsF m.st l = true → und l < d →
      Calls Tryd.prog 101 #[.pointer (some ⟨gk, 0, none⟩), u] X fun e Y =>
        e = .returned (.int .i64 (makeF m d l k).2) ∧ ∃ vn' vl', KbS R W (.slice A1 m.st.length c1) (.slice A2 m.rows.length c2) gk (makeF m d l k).1 vn' vl' Y ∧ Chg (Ob gk vn.ownBlock vl.ownBlock) X Y ∧ Fro (Ob gk vn.ownBlock vl.ownBlock) (Ob gk vn'.ownBlock vl'.ownBlock) X := by
  intro d
  induction d with
  | zero => intro R l k vn vl u X _ _ _ _ _ h; omega
  | succ d ih =>
  intro R l k vn vl u X hK hR hu hkn hsl hund
  have hchr := (mx_all hmx).1
  have hcl := sets_len' hsl
  have hns := (chr_ok hchr).2.1
  obtain ⟨nvals, ho1, hE1⟩ := hK.own
  obtain ⟨lvals, ho2, hE2⟩ := hK.lwn
  obtain ⟨An, cn, hvn⟩ := own_slice_form ho1
  obtain ⟨Al, cl, hvl⟩ := own_slice_form ho2
  subst hvn; subst hvl
  obtain ⟨Au, cu, rfl, _⟩ := hu.1.form
  have HF := Lib.hid (full_any X hK.box)
  have HKm := Lib.hid (fun Y (h : Below W.heap.size W Y) => hMW.step h)
  have hlt : gk < X.heap.size := (Array.getElem?_eq_some_iff.1 hK.box).1
  have HRem := Lib.hid (rremain_any _ (.slice Au l.length cu) m l X (hMW.step hK.bel) hs hu.1 (fun r hr => hcl.trans (sets_len' ((mx_all hmx).2.2 r hr)).symm) (by omega))
  obtain ⟨b0, b1, b2, b3⟩ := cells_four hK.box
  have HK := Lib.hid hK
  have HO := Lib.hid (show ∀ g, Ob gk (Value.ownBlock (.slice An k.nd.length cn)) (Value.ownBlock (.slice Al k.lv.length cl)) g → g < X.heap.size from fun g hg => by
    rcases hg with h1 | h1 | h1
    · omega
    · exact (ho1.lt g h1).2
    · exact (ho2.lt g h1).2)
  have HU := Lib.hid hu
  have HRl := Lib.hid hR
  have HIh := Lib.hid ih
  have HMx := Lib.hid (And.intro hmx (And.intro hchr (And.intro hcl (And.intro hns (And.intro hs (And.intro hkn (And.intro hsl (And.intro hund hMW))))))))
  obtain ⟨ns0, hns0⟩ : ∃ n, m.st.length = n := ⟨_, rfl⟩
  obtain ⟨nr0, hnr0⟩ : ∃ n, m.rows.length = n := ⟨_, rfl⟩
  obtain ⟨nu, hnu⟩ : ∃ n, l.length = n := ⟨_, rfl⟩
  have HNs := Lib.hid (And.intro hns0 (And.intro hnr0 hnu))
  have hfe : fullK k = decide (1000 < k.nd.length ∨ 1000 < k.lv.length) := rfl
  rw [← hfe] at HF
  rw [hns0, hnr0, hnu] at HRem
  rw [hnr0] at b1
  rw [hns0] at b0
  rw [hns0, hnr0] at HK
  rw [hns0, hnr0, hnu]
  simp only [hns0, hnr0] at HIh
  have HFe := Lib.hid hfe
  clear hK hR hu hkn hsl hund hchr hcl hns ho1 ho2 hE1 hE2 hns0 hnr0 hnu hfe hlt ih hmx hs hMW
  go_enter Tryd.func101, Tryd.ntmps101
  go_wp2_with fail
  (with_reducible refine HF.out.mono ?_)
  rintro e w1 ⟨rfl, rfl⟩
  cases hf : fullK k with
  | true =>
    have HG := Lib.hid (make_full (m := m) (d := d + 1) (l := l) hf)
    rw [hf] at HF HFe
    clear hf
    go_wp2_with fail
    go_ret
    rw [HG.out]
    exact ⟨rfl, _, _, HK.out, Chg.of_below (Below.refl _ _), Fro.refl _ _⟩
  | false =>
    have hnn1 : k.nd.length ≤ 1000 ∧ k.lv.length ≤ 1000 := by
      have h := HFe.out
      rw [hf] at h
      have := of_decide_eq_false h.symm
      omega
    rw [hf] at HF HFe
    have HNf := Lib.hid hf
    clear hf
    go_wp2_with fail
    (with_reducible refine HRem.out.mono ?_)
    rintro e w2 ⟨⟨r, rfl, hr, hrf⟩, hb⟩
    have HB2 := Lib.hid hb
    have HK2 := Lib.hid (HK.out.step hb)
    have HR2 := Lib.hid (And.intro hr hrf)
    have HU2 := Lib.hid (HU.out.chg (Chg.of_below hb) (Fro.refl _ _))
    obtain ⟨Ar, cr, rfl, _⟩ := hr.form
    obtain ⟨nm, hnm⟩ : ∃ n, ((remL m.rows l).map (·.nm)).length = n := ⟨_, rfl⟩
    rw [hnm] at HR2 ⊢
    have HNm := Lib.hid hnm
    clear hb hr hrf b0 b1 b2 b3 hnm
    have HBs := Lib.hid (rbestU_any (.agg #[.slice A1 m.st.length c1, .slice A2 m.rows.length c2]) (.slice Au l.length cu) m l w2 (HKm.out w2 HK2.out.bel) HMx.out.2.2.2.2.1 HU2.out.1 HMx.out.1 HMx.out.2.2.2.2.2.2.1)
    rw [HNs.out.1, HNs.out.2.1, HNs.out.2.2] at HBs
    obtain ⟨b0, b1, b2, b3⟩ := cells_four HK2.out.box
    go_wp2_with fail
    (with_reducible refine HBs.out.mono ?_)
    rintro e w3 ⟨rfl, hb⟩
    have HB3 := Lib.hid (HB2.out.trans (hb.mono HB2.out.size))
    have HK3 := Lib.hid (HK2.out.step hb)
    have HR3 := Lib.hid (show InSl w3 w3.heap.size (.slice Ar nm cr) ((remL m.rows l).map (·.nm)) from HR2.out.1.step hb)
    have HU3 := Lib.hid (HU2.out.chg (Chg.of_below hb) (Fro.refl _ _))
    clear hb b0 b1 b2 b3 HBs HRem HF
    obtain ⟨b0, b1, b2, b3⟩ := cells_four HK3.out.box
    have HNk := Lib.hid hnn1
    have HRo := Lib.hid HR2.out.2
    obtain ⟨ob, hob⟩ : ∃ x, outB (bestS (remL m.rows l) l (fun c => !decZ (l.getD c 0) && !decide (lowF m l c = ((remL m.rows l).length : Int))) nu) = x := ⟨_, rfl⟩
    rw [hob]
    have HNm2 := Lib.hid (show (remL m.rows l).length = nm from by rw [← HNm.out, List.length_map])
    cases hch : (charF (remL m.rows l) l).2.1 with
    | false =>
      have hcond : (nm : Int) < 2 ∨ (¬ (nm : Int) < 2 ∧ ob < 0) := by
        by_cases h1 : 1 < (remL m.rows l).length
        · right
          rw [← HNs.out.2.2, char_eq HMx.out.1 HMx.out.2.2.2.2.2.2.1 h1] at hob
          unfold outB at hob
          rw [hch] at hob
          have h2 := HNm2.out
          refine ⟨by omega, by rw [← hob]; simp⟩
        · left
          have h2 := HNm2.out
          omega
      have HG := Lib.hid (make_leaf (m := m) (d := d) HNf.out hch)
      have HKT := Lib.hid (HK3.out.step (below_new (.cells #[.slice Ar nm cr] 22)))
      obtain ⟨lvals, o1, E1⟩ := HKT.out.lwn
      have HO1 := Lib.hid (And.intro o1 E1)
      have hA1 : Apt (w3.alloc (.cells #[.slice Ar nm cr] 22)) (Orr R (Ob gk (Value.ownBlock (.slice An k.nd.length cn)) (Value.ownBlock (.slice Al k.lv.length cl)))) (.slice Ar nm cr) ((remL m.rows l).map (·.nm)) := ⟨HR3.out.step (below_new _), fun _ g e h => by
        have h1 := HRo.out g e
        rcases h with h | h
        · have h2 := HO.out g h; omega
        · have h2 := HRl.out g h; omega⟩
      have HA1 := Lib.hid hA1
      have hn5 : k.lv.length ≤ 100000 := by omega
      clear hob hch o1 E1 hA1 hnn1
      rcases hcond with h2 | ⟨h2, h3⟩
      · go_upto_region 7 with (at_builtin; refine wpList_app_lw rfl _ _ rfl rfl HO1.out.1 HKT.out.bel.size w3.heap.size rfl (World.alloc_heap_new _ _) rfl hn5 ?_; intro v5 w5 ho5 hg5 hob5; obtain ⟨A5, c5, rfl⟩ := own_slice_form ho5; obtain ⟨hYb, hS5, hC5, hF5⟩ := HKT.out.leaf HO1.out.2 hg5 ho5 hob5 HA1.out; obtain ⟨y0, y1, y2, y3⟩ := cells_four hYb; have yf := frozen_cells hYb 3; have HS5 := Lib.hid (And.intro hS5 (And.intro hC5 hF5)); clear ho5 hg5 hob5 hYb hS5 hC5 hF5)
        obtain ⟨Z1, hZ1⟩ : ∃ Z, w5.setCell ⟨gk, 3, none⟩ (.slice A5 (k.lv.length + 1) c5) = Z := ⟨_, rfl⟩
        rw [hZ1]
        have HS1 := Lib.hid (show KbS R W _ _ gk ⟨k.nd, k.lv ++ [(remL m.rows l).map (·.nm)]⟩ _ (.slice A5 (k.lv.length + 1) c5) Z1 from by rw [← hZ1]; exact HS5.out.1)
        have HC1 := Lib.hid (show Chg _ _ Z1 from by rw [← hZ1]; exact HS5.out.2.1)
        have HF1 := Lib.hid HS5.out.2.2
        clear b0 b1 b2 b3 y0 y1 y2 y3 yf HS5 hZ1
        obtain ⟨b0, b1, b2, b3⟩ := cells_four HS1.out.box
        have hnk := HNk.out.2
        go_wp2_with fail
        go_ret
        rw [HG.out]
        refine ⟨?_, _, _, HS1.out, (Chg.of_below (HB3.out.trans ((below_new (w := w3) (.cells #[.slice Ar nm cr] 22)).mono HB3.out.size))).trans2 (Fro.refl _ _) HC1.out, (Fro.refl _ _).trans (HB3.out.trans ((below_new (w := w3) (.cells #[.slice Ar nm cr] 22)).mono HB3.out.size)).size HF1.out⟩
        show Ending.returned (.int .i64 (-((k.lv.length : Int) + 1))) = .returned (.int .i64 (-1 - (k.lv.length : Int)))
        rw [show -((k.lv.length : Int) + 1) = -1 - (k.lv.length : Int) from by omega]
      · go_upto_region 7 with (at_builtin; refine wpList_app_lw rfl _ _ rfl rfl HO1.out.1 HKT.out.bel.size w3.heap.size rfl (World.alloc_heap_new _ _) rfl hn5 ?_; intro v5 w5 ho5 hg5 hob5; obtain ⟨A5, c5, rfl⟩ := own_slice_form ho5; obtain ⟨hYb, hS5, hC5, hF5⟩ := HKT.out.leaf HO1.out.2 hg5 ho5 hob5 HA1.out; obtain ⟨y0, y1, y2, y3⟩ := cells_four hYb; have yf := frozen_cells hYb 3; have HS5 := Lib.hid (And.intro hS5 (And.intro hC5 hF5)); clear ho5 hg5 hob5 hYb hS5 hC5 hF5)
        obtain ⟨Z1, hZ1⟩ : ∃ Z, w5.setCell ⟨gk, 3, none⟩ (.slice A5 (k.lv.length + 1) c5) = Z := ⟨_, rfl⟩
        rw [hZ1]
        have HS1 := Lib.hid (show KbS R W _ _ gk ⟨k.nd, k.lv ++ [(remL m.rows l).map (·.nm)]⟩ _ (.slice A5 (k.lv.length + 1) c5) Z1 from by rw [← hZ1]; exact HS5.out.1)
        have HC1 := Lib.hid (show Chg _ _ Z1 from by rw [← hZ1]; exact HS5.out.2.1)
        have HF1 := Lib.hid HS5.out.2.2
        clear b0 b1 b2 b3 y0 y1 y2 y3 yf HS5 hZ1
        obtain ⟨b0, b1, b2, b3⟩ := cells_four HS1.out.box
        have hnk := HNk.out.2
        go_wp2_with fail
        go_ret
        rw [HG.out]
        refine ⟨?_, _, _, HS1.out, (Chg.of_below (HB3.out.trans ((below_new (w := w3) (.cells #[.slice Ar nm cr] 22)).mono HB3.out.size))).trans2 (Fro.refl _ _) HC1.out, (Fro.refl _ _).trans (HB3.out.trans ((below_new (w := w3) (.cells #[.slice Ar nm cr] 22)).mono HB3.out.size)).size HF1.out⟩
        show Ending.returned (.int .i64 (-((k.lv.length : Int) + 1))) = .returned (.int .i64 (-1 - (k.lv.length : Int)))
        rw [show -((k.lv.length : Int) + 1) = -1 - (k.lv.length : Int) from by omega]
    | true =>
      have h1 : 1 < (remL m.rows l).length := by
        by_cases h1 : 1 < (remL m.rows l).length
        · exact h1
        · rw [char_few h1] at hch; cases hch
      have hcn := char_node HMx.out.1 HMx.out.2.2.2.2.2.1 hch
      obtain ⟨c, n, hc, hn, hlc, hun⟩ := hcn
      have hG0 := make_node (m := m) (d := d) HNf.out hch hc
      have hcl : c < l.length := (List.getElem?_eq_some_iff.1 hlc).1
      have hcs : c < m.st.length := (List.getElem?_eq_some_iff.1 hn).1
      have hst := st_range HMx.out.1 (List.mem_of_getElem? hn)
      obtain ⟨ns, rfl⟩ : ∃ q : Nat, n = (q : Int) := ⟨n.toNat, by omega⟩
      have HNc := Lib.hid hn
      have hnd2 : (m.st.getD c 0).toNat = ns := by rw [List.getD_eq_getElem?_getD, hn]; simp
      rw [hnd2] at hG0
      have HGn := Lib.hid hG0
      have HUd := Lib.hid hun
      have HLc := Lib.hid hlc
      have hobc : ob = (c : Int) := by
        rw [← HNs.out.2.2, char_eq HMx.out.1 HMx.out.2.2.2.2.2.2.1 h1] at hob
        unfold outB at hob
        rw [hch, if_pos rfl] at hob
        rw [← hob]; exact hc
      subst hobc
      have hnm2 : ¬ (nm : Int) < 2 := by have := HNm2.out; omega
      have hc0 : ¬ (c : Int) < 0 := by omega
      have hns2 : 2 ≤ ns ∧ ns ≤ 16 := by omega
      have HStl := Lib.hid (show ∀ Y, Below W.heap.size W Y → InA Y Y.heap.size A1 m.st from fun Y h => by
        obtain ⟨v1, v2, e, h2, _⟩ := HMx.out.2.2.2.2.2.2.2.2.step h
        cases e
        obtain ⟨_, _, e, _, _, h3⟩ := h2
        cases e; exact h3)
      obtain ⟨xs, ad1, hx1, rfl, _, _⟩ := (HStl.out w3 HK3.out.bel).at_ rfl hcs
      have HSc := Lib.hid (fun Y (h : Below W.heap.size W Y) => show Y.cell? (ad1.add c) = some (.int .i64 (ns : Int)) from by
        obtain ⟨y', ad', hy', e, _, hc'⟩ := (HStl.out Y h).at_ rfl hcs
        injection e with e
        subst e
        rw [HNc.out] at hy'; injection hy' with hy'; subst hy'
        exact hc')
      have hcn0 : c < ns0 := by have := HNs.out.1; omega
      have hcnu : c < nu := by have := HNs.out.2.2; omega
      have HKT := Lib.hid (HK3.out.step (below_new (.cells #[.int .i64 (c : Int), .slice none 0 0] 65)))
      obtain ⟨nvals, o1, E1⟩ := HKT.out.own
      have HO1 := Lib.hid (And.intro o1 E1)
      have hn5 : k.nd.length ≤ 100000 := by omega
      have HCl := Lib.hid (And.intro hcl hcs)
      clear hob hch hc hn hlc hun hG0 hst hnd2 hx1 o1 E1 hnn1 h1 hcl hcs
      go_upto_region 10 with (at_builtin; refine wpList_app_nd rfl _ _ rfl rfl HO1.out.1 HKT.out.bel.size w3.heap.size rfl (World.alloc_heap_new _ _) hn5 ?_; intro v5 w5 ho5 hg5 hob5; obtain ⟨A5, c5, rfl⟩ := own_slice_form ho5; obtain ⟨hYb, hS5, hC5, hF5⟩ := HKT.out.node HO1.out.2 hg5 ho5 hob5; obtain ⟨y0, y1, y2, y3⟩ := cells_four hYb; have yf := frozen_cells hYb 2; have HS5 := Lib.hid (And.intro hS5 (And.intro hC5 hF5)); clear ho5 hg5 hob5 hYb hS5 hC5 hF5)
      obtain ⟨Z1, hZ1⟩ : ∃ Z, w5.setCell ⟨gk, 2, none⟩ (.slice A5 (k.nd.length + 1) c5) = Z := ⟨_, rfl⟩
      rw [hZ1]
      have HS1 := Lib.hid (show KbS R W _ _ gk ⟨k.nd ++ [⟨(c : Int), []⟩], k.lv⟩ (.slice A5 (k.nd.length + 1) c5) _ Z1 from by rw [← hZ1]; exact HS5.out.1)
      have HC1 := Lib.hid (show Chg _ _ Z1 from by rw [← hZ1]; exact HS5.out.2.1)
      have HF1 := Lib.hid HS5.out.2.2
      have hb13 := HB3.out.trans ((below_new (w := w3) (.cells #[.int .i64 (c : Int), .slice none 0 0] 65)).mono HB3.out.size)
      have HCx := Lib.hid (show Chg (Ob gk (Value.ownBlock (.slice An k.nd.length cn)) (Value.ownBlock (.slice Al k.lv.length cl))) w1 Z1 from (Chg.of_below hb13).trans2 (Fro.refl _ _) HC1.out)
      have HFx := Lib.hid ((Fro.refl _ _).trans hb13.size HF1.out)
      have HU1 := Lib.hid ((HU3.out.chg (Chg.of_below (below_new (.cells #[.int .i64 (c : Int), .slice none 0 0] 65))) (Fro.refl _ _)).chg HC1.out HF1.out)
      clear b0 b1 b2 b3 y0 y1 y2 y3 yf HS5 hZ1 hb13
      obtain ⟨O1, hO1⟩ : ∃ O, Ob gk (Value.ownBlock (.slice A5 (k.nd.length + 1) c5)) (Value.ownBlock (.slice Al k.lv.length cl)) = O := ⟨_, rfl⟩
      have HOe := Lib.hid hO1
      rw [hO1] at HU1 HFx
      clear hO1
      have HMa := Lib.hid (fun s => maK_all (m := m) (d := d) (c := c) (l := l) (k := k) (fun l k => mkK d l k) s)
      obtain ⟨b0, b1, b2, b3⟩ := cells_four HS1.out.box
      have hsc := HSc.out Z1 HS1.out.bel
      go_wp2_with fail
      clear b0 b1 b2 b3 hsc
      go_loopw [8, 9] (fun xv iv wr => ∃ (s : Nat) (vn' vl' : Value), iv = .int .i64 (s : Int) ∧ s ≤ ns ∧ KbS (fun g => R g ∨ xv.ownBlock = some g) W (.slice (some ad1) ns0 c1) (.slice A2 nr0 c2) gk (mAll m d l c k s).1 vn' vl' wr ∧ Chg O1 Z1 wr ∧ Fro O1 (Ob gk vn'.ownBlock vl'.ownBlock) Z1 ∧ Nx Z1.heap.size xv (mAll m d l c k s).2 wr ∧ ∀ g, xv.ownBlock = some g → ¬ Ob gk vn'.ownBlock vl'.ownBlock g) (fun _ iv _ => ns - (intOf iv).toNat)
      case atStart => exact ⟨0, _, _, rfl, by omega, HS1.out.less (fun g h => by rcases h with h | h; exact h; cases h), ⟨Nat.le_refl _, fun _ _ h _ => h⟩, by rw [← HOe.out]; exact Fro.refl _ _, Nx.start _ _, fun g e => by cases e⟩
      case round =>
        obtain ⟨s, vn', vl', rfl, hsn, hKs, hCs, hFs, hNx, hdis⟩ := hrel
        obtain ⟨A8, c8, rfl⟩ := hNx.form
        have HKs := Lib.hid hKs
        have HCs := Lib.hid (And.intro hCs hFs)
        have HNx := Lib.hid (And.intro hNx hdis)
        have HUw := Lib.hid (HU1.out.chg hCs hFs)
        have HMs := Lib.hid (HMa.out s)
        have hXw : w1.heap.size ≤ wr.heap.size := Nat.le_trans HCx.out.1 hCs.1
        have HXw := Lib.hid hXw
        obtain ⟨b0, b1, b2, b3⟩ := cells_four hKs.box
        have hsc := HSc.out wr hKs.bel
        have HMl := Lib.hid (mAll_succ m d l c k s)
        obtain ⟨st, hst⟩ : ∃ st, mAll m d l c k s = st := ⟨_, rfl⟩
        have HSt := Lib.hid hst
        rw [hst] at HKs HNx HMs HMl ⊢
        by_cases hlt : s < ns
        · have hltI : (s : Int) < (ns : Int) := by omega
          have HAl := Lib.hid (ralone_any (.slice Au l.length cu) l c s wr HUw.out.1 HCl.out.1 (by omega) (by have := HMx.out.2.2.1; have := HMx.out.2.2.2.1; omega))
          rw [HNs.out.2.2] at HAl
          clear hKs hCs hFs hNx hdis hst hXw
          go_wp2_with fail
          (with_reducible refine HAl.out.mono ?_)
          rintro e wa ⟨⟨r, rfl, hr⟩, hb⟩
          have HBa := Lib.hid hb
          have HRa := Lib.hid hr
          have HI := Lib.hid (HIh.out (fun g => R g ∨ (Value.slice A8 st.2.length c8).ownBlock = some g) (l.set c (2 ^ s)) st.1 vn' vl' r wa (HKs.out.step hb) (fun g hg => by
            rcases hg with hg | hg
            · have := HRl.out g hg; have := HXw.out; have := hb.size; omega
            · have := (HNx.out.1.lt g hg).2; have := hb.size; omega) ⟨hr.1, fun _ g e h => by have := (hr.2 g e).1; have := HKs.out.obl g h; omega⟩
            (kn_set HMx.out.2.2.2.2.2.1 HNc.out (by omega)) (sets_set HMx.out.2.2.2.2.2.2.1 HNc.out (by omega) (by omega)) (by have := HUd.out s (by omega); have := HMx.out.2.2.2.2.2.2.2.1; omega))
          obtain ⟨g, hg⟩ : ∃ g, makeF m d (l.set c (2 ^ s)) st.1 = g := ⟨_, rfl⟩
          have HMl2 := Lib.hid (show mAll m d l c k (s + 1) = (g.1, st.2 ++ [g.2]) from by rw [HMl.out]; unfold mStep; rw [hg])
          rw [hg] at HI
          obtain ⟨Aq, cq, rfl, _⟩ := hr.1.form
          have hls : (l.set c (2 ^ s)).length = l.length := List.length_set
          rw [hls] at HI
          clear hls
          clear hb hr hg b0 b1 b2 b3 hsc HAl
          go_wp2_with fail
          (with_reducible refine HI.out.mono ?_)
          rintro e wm ⟨rfl, vn2, vl2, r1, r2, r3⟩
          have HR := Lib.hid (And.intro r1 (And.intro r2 r3))
          have hcw := (Chg.of_below (O := Ob gk vn'.ownBlock vl'.ownBlock) HBa.out).trans2 (Fro.refl _ _) r2
          have HCw := Lib.hid hcw
          have HNa := Lib.hid (HNx.out.1.chg (hcw.trans2 (Fro.refl _ _) (Chg.of_below (below_new (w := wm) (.cells #[.int .i64 g.2] 3)))) HNx.out.2)
          have HZs := Lib.hid (show Z1.heap.size ≤ (wm.alloc (.cells #[.int .i64 g.2] 3)).heap.size from by
            have h1 := HCs.out.1.1
            have h2 := hcw.1
            have h3 := (below_new (w := wm) (.cells #[.int .i64 g.2] 3)).size
            omega)
          have hl8 : st.2.length ≤ 100000 := by have := HMs.out.len; omega
          clear r1 r2 r3 hcw
          go_upto_region 13 with (at_builtin; refine wpList_app_nx rfl _ _ rfl rfl HNa.out HZs.out rfl (World.alloc_heap_new _ _) hl8 ?_; intro v8 w8 hN8 hg8 hob8; obtain ⟨A9, c9, rfl⟩ := hN8.form; have HN8 := Lib.hid (And.intro hN8 (And.intro hg8 hob8)); clear hN8 hg8 hob8)
          have hno : ∀ q, (Value.slice A8 st.2.length c8).ownBlock = some q → ¬ Ob gk vn2.ownBlock vl2.ownBlock q := fun q e h => by
            rcases HR.out.2.2 q h with h1 | h1
            · exact HNx.out.2 q e h1
            · have := (HNx.out.1.lt q e).2; have := HBa.out.size; omega
          have HK8 := Lib.hid ((HR.out.1.step (below_new (w := wm) (.cells #[.int .i64 g.2] 3))).app (v' := .slice A9 (st.2 ++ [g.2]).length c9) HN8.out.2.1 HN8.out.2.2 (fun q e => ⟨Nat.le_trans HS1.out.bel.size (HNx.out.1.lt q e).1, hno q e⟩))
          have HC8 := Lib.hid (show Chg O1 Z1 w8 from ((HCs.out.1.trans2 HCs.out.2 HCw.out).trans2 (Fro.refl O1 Z1) (Chg.of_below (below_new (w := wm) (.cells #[.int .i64 g.2] 3)))).trans2 (O' := fun q => O1 q ∨ Z1.heap.size ≤ q) (fun q h => h) (Chg.of_grown HN8.out.2.1 (fun q e => .inr (HNx.out.1.lt q e).1)))
          have HF8 := Lib.hid (show Fro O1 (Ob gk vn2.ownBlock vl2.ownBlock) Z1 from fun q h => by
            rcases HR.out.2.2 q h with h1 | h1
            · exact HCs.out.2 q h1
            · right; have := HCs.out.1.1; have := HBa.out.size; omega)
          have HD8 := Lib.hid (show ∀ q, (Value.slice A9 (st.2 ++ [g.2]).length c9).ownBlock = some q → ¬ Ob gk vn2.ownBlock vl2.ownBlock q from fun q e h => by
            rcases HN8.out.2.2 with h1 | h1
            · exact hno q (h1.symm.trans e) h
            · rw [h1] at e; injection e with e
              have h2 := HR.out.1.obl q h
              have h3 := (below_new (w := wm) (.cells #[.int .i64 g.2] 3)).size
              omega)
          have hls2 : (st.2 ++ [g.2]).length = st.2.length + 1 := by rw [List.length_append]; rfl
          have HN9 := Lib.hid HN8.out.1
          rw [hls2] at HK8 HN9 HD8
          clear hno hl8 hls2
          go_wp2_with fail
          go_roundw
          case rel => exact ⟨s + 1, vn2, vl2, by go_num, by omega, by rw [HMl2.out]; exact HK8.out, HC8.out, HF8.out, by rw [HMl2.out]; exact HN9.out, HD8.out⟩
          case measure => simp [intOf]; try omega
        · obtain rfl : ns = s := by omega
          obtain ⟨nvx, onx, _⟩ := HKs.out.own
          obtain ⟨gn, cpn, hvn⟩ := own_form onx (by have := HMs.out.nle; omega)
          subst hvn
          obtain ⟨hKn, hCn, ⟨v0, hv0⟩, hfz⟩ := (HKs.out.less (R := R) (fun g h => .inl h)).next (a := k.nd.length) (u := .slice A8 st.2.length c8) HMs.out.at_ ⟨HNx.out.1.sl, fun _ g e h => by
            rcases h with h | h
            · exact HNx.out.2 g e h
            · have h1 := HRl.out _ h
              have h2 := (HNx.out.1.lt g e).1
              have h3 := HCx.out.1
              omega⟩
          obtain ⟨nn2, hn2⟩ : ∃ n, st.1.nd.length = n := ⟨_, rfl⟩
          have hlt2 : k.nd.length < nn2 := by have := HMs.out.nle; omega
          obtain ⟨nn, hnn⟩ : ∃ n, k.nd.length = n := ⟨_, rfl⟩
          rw [hn2] at b2
          rw [hnn] at hlt2 hv0 hfz hKn hCn ⊢
          have hv1 : wr.cell? ⟨((⟨gn, 0, none⟩ : Addr).add (nn * 2)).block, ((⟨gn, 0, none⟩ : Addr).add (nn * 2)).off + 1, none⟩ = some v0 := by rw [add_zero_k]; exact hv0
          have hf1 : wr.frozen? ⟨((⟨gn, 0, none⟩ : Addr).add (nn * 2)).block, ((⟨gn, 0, none⟩ : Addr).add (nn * 2)).off + 1, none⟩ = false := by rw [add_zero_k]; exact hfz
          have HKn := Lib.hid (And.intro hKn hCn)
          have HG := Lib.hid (show makeF m (d + 1) l k = (⟨st.1.nd.set nn ⟨(c : Int), st.2⟩, st.1.lv⟩, (nn : Int)) from by rw [HGn.out, HSt.out, hnn])
          clear hKn hCn onx hn2 hKs hCs hFs hNx hdis hst hXw hnn
          have hadd := add_zero_k gn (nn * 2)
          go_wp2_with fail
          go_ret
          rw [HG.out]
          exact ⟨rfl, _, _, HKn.out.1, HCx.out.trans2 HFx.out (HCs.out.1.trans2 HCs.out.2 HKn.out.2), HFx.out.trans HCx.out.1 HCs.out.2⟩
end Go.Proofs.YthfegbcbpeedbaaDoor
