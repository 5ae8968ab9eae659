/- The reference's Build. -/
import Derived.Test.YthfegbcbpeedbaaDoorKyBk
import Derived.Test.YthfegbcbpeedbaaDoorKyOy
namespace Go.Proofs.YthfegbcbpeedbaaDoor
open Go.RowKit Go.Nm Go.Ky

theorem KbS.kyV {R : Nat → Prop} {W X : World} {m1 m2 : Value} {gk : Nat} {k : Kx} {vn vl : Value} (h : KbS R W m1 m2 gk k vn vl X) : KyV X (.agg #[vn, vl]) k := by
  obtain ⟨nv, n1, n2⟩ := h.own
  obtain ⟨lv, l1, l2⟩ := h.lwn
  refine ⟨vn, vl, rfl, ?_, ?_⟩
  · rcases n1.2 with ⟨e, h0⟩ | ⟨g, cap, cur, e, hb, hg, h1, h2, h3, h4⟩
    · have hl := List.length_eq_zero_iff.1 h0
      rw [hl, e]
      exact IlSl.nil _ _
    · refine ⟨_, _, e, fun i x hx => ?_⟩
      obtain ⟨vm, c0, c1, hv⟩ := n2.2 i x hx
      have hc := n1.cells (g := g) (by rw [e]; rfl)
      refine ⟨⟨g, 0, none⟩, vm, rfl, (Array.getElem?_eq_some_iff.1 hg).1, ?_, ?_, hv.1⟩
      · exact hc (i * 2) _ c0
      · rw [add_zero_k]
        have := hc (i * 2 + 1) _ c1
        rw [add_zero_k] at this
        exact this
  · rcases l1.2 with ⟨e, h0⟩ | ⟨g, cap, cur, e, hb, hg, h1, h2, h3, h4⟩
    · have hl := List.length_eq_zero_iff.1 h0
      rw [hl, e]
      exact ⟨none, 0, [], rfl, ⟨rfl, fun i v L h => by simp at h⟩, fun i u hu => by simp at hu⟩
    · have hc := l1.cells (g := g) (by rw [e]; rfl)
      refine ⟨_, _, lv, e, ⟨l2.1, fun i v L h1 h2 => ?_⟩, fun i u hu => ⟨_, rfl, (Array.getElem?_eq_some_iff.1 hg).1, hc i u hu⟩⟩
      obtain ⟨u, hu, ha⟩ := l2.2 i L h2
      rw [hu] at h1; injection h1 with h1; subst h1
      exact ha.1
set_option maxRecDepth 100000 in
set_option maxHeartbeats 8000000 in
theorem rBuild_any (v : Value) (m : Mx) (w : World) (hv : MxV w v m) (hs : MSm m) :
    Calls Tryd.prog 48 #[v] w fun e w' => (∃ kv, e = .returned (.tuple #[kv, .int .i64 (buildE m)]) ∧ KyV w' kv (buildK m)) ∧ Below w.heap.size w w' := by
  have hv0 := hv
  obtain ⟨A1, c1, A2, c2, W0, rfl, hW0, hb0, hM, hS, hR, hX⟩ := mx_box hv
  have hz : W0.heap.size = w.heap.size + 1 := by rw [← hW0]; simp
  have hb1 := below_new (w := W0) (.cells #[.slice none 0 0, .slice none 0 0] 53)
  have hn1 := World.alloc_heap_new W0 (.cells #[.slice none 0 0, .slice none 0 0] 53)
  obtain ⟨W1, hW1⟩ : ∃ W, W0.alloc (.cells #[.slice none 0 0, .slice none 0 0] 53) = W := ⟨_, rfl⟩
  rw [hW1, hz] at hn1
  rw [hW1] at hb1
  have hB1 := hb0.trans (hb1.mono hb0.size)
  have HB1 := Lib.hid hB1
  have HW := Lib.hid (And.intro hW0 hW1)
  have HX := Lib.hid (fun Y (h : Below W1.heap.size W1 Y) => And.intro (hX Y (hb1.trans (h.mono hb1.size))) ((h.block _ (Array.getElem?_eq_some_iff.1 hn1).1).trans hn1))
  have HCm := Lib.hid (rCheckMatrix_any _ m W1 (hM W1 hb1) hs)
  have HOp := Lib.hid (fun (h : mxF m = true) Y (hb : Below W1.heap.size W1 Y) => ropen_any _ m Y (hM Y (hb1.trans (hb.mono hb1.size))) hs (fun q hq => st_range h hq))
  have hz1 : W1.heap.size = w.heap.size + 1 + 1 := by rw [← hW1]; simp [hz]
  have HGr := Lib.hid (fun (hm : mxF m = true) (u : Value) (X : World) (gk : Nat) (hX : Below w.heap.size w X) (hlo : w.heap.size + 1 < gk) (hbx : X.heap[gk]? = some (.cells #[.slice A1 m.st.length c1, .slice A2 m.rows.length c2, .slice none 0 0, .slice none 0 0] 114)) (hu : InSl X X.heap.size u (m.st.map full)) (hug : ∀ g, u.ownBlock = some g → g ≠ gk) =>
      make_any (W := w) (gk := gk) (m := m) (A1 := A1) (A2 := A2) (c1 := c1) (c2 := c2) hv0 hs hm 65 (fun g => g = w.heap.size + 1) (m.st.map full) ⟨[], []⟩ (.slice none 0 0) (.slice none 0 0) u X
        ⟨hX, by omega, hbx, ⟨[], World.ownsRow_nil _ _ _ _, Els.nil _⟩, ⟨[], World.ownsRow_nil _ _ _ _, rfl, fun i l h => by simp at h⟩, (fun h => nomatch h), (fun h => nomatch h), (fun g h => nomatch h)⟩
        (fun g h => by have := (Array.getElem?_eq_some_iff.1 hbx).1; omega)
        ⟨hu, fun _ g e h => by
          rcases h with h | h | h
          · exact hug g e h
          · cases h
          · cases h⟩ (kn_full m) (sets_full (mx_chr hm)) (by have h1 := und_le (m.st.map full); have h2 := (chr_ok (mx_chr hm)).2.1; rw [List.length_map] at h1; omega))
  have HMk := Lib.hid (fun h : mxF m = true => make_build h)
  have HE := Lib.hid (show cmE m = (if mxF m = true then 0 else 30) ∧ (mxF m = false → buildE m = 30 ∧ buildK m = ⟨[], []⟩) from ⟨rfl, fun h => by
    have h1 : buildE m = 30 := by unfold buildE; rw [h]; rfl
    exact ⟨h1, by unfold buildK; rw [h1]; rfl⟩⟩)
  rw [HE.out.1] at HCm
  obtain ⟨ns, hns⟩ : ∃ n, m.st.length = n := ⟨_, rfl⟩
  obtain ⟨nr, hnr⟩ : ∃ n, m.rows.length = n := ⟨_, rfl⟩
  have HNn := Lib.hid (show (m.st.map full).length = ns from by rw [List.length_map, hns])
  rw [hns, hnr] at HW HX HCm
  simp only [hns, hnr] at HGr HOp
  rw [hns, hnr]
  obtain ⟨⟨k0, k1⟩, hkr⟩ := HX.out W1 (Below.refl _ _)
  clear hv hv0 hs hW0 hb0 hM hS hR hX hz hn1 hb1 hW1 hB1 hns hnr
  have HZ1 := Lib.hid hz1
  cases hm : mxF m with
  | false =>
    rw [hm] at HCm
    simp only [Bool.false_eq_true, if_false] at HCm
    have HF := Lib.hid (HE.out.2 hm)
    clear hkr hm hz1
    go_enter Tryd.func48, Tryd.ntmps48
    go_wp2_with fail
    rw [HW.out.1, HW.out.2]
    (try go_wp2_with fail)
    (with_reducible refine HCm.out.mono ?_)
    rintro e w1 ⟨rfl, hb⟩
    have HB2 := Lib.hid (HB1.out.trans (hb.mono HB1.out.size))
    have hkr := (HX.out w1 hb).2
    obtain ⟨r0, r1⟩ := cells_two hkr
    have f0 := frozen_cells hkr 0
    have f1 := frozen_cells hkr 1
    clear hb hkr k0 k1
    go_wp2_with fail
    refine bodyPost_ret (v := .tuple #[.agg #[.slice none 0 0, .slice none 0 0], .int .i64 30]) (by simp [results, Tryd.results48, go_sem, r0, r1]) rfl ?_
    refine ⟨⟨_, by rw [HF.out.1], ?_⟩, (HB2.out.setCell (by show _ ≤ _ + 1; omega) _).setCell (by show _ ≤ _ + 1; omega) _⟩
    rw [HF.out.2]
    exact ⟨_, _, rfl, IlSl.nil _ _, ⟨none, 0, [], rfl, ⟨rfl, fun i v L h => by simp at h⟩, fun i u hu => by simp at hu⟩⟩
  | true =>
    rw [hm] at HCm
    simp only [if_true] at HCm
    have HMx := Lib.hid hm
    clear hkr hm hz1
    go_enter Tryd.func48, Tryd.ntmps48
    go_wp2_with fail
    rw [HW.out.1, HW.out.2]
    (try go_wp2_with fail)
    (with_reducible refine HCm.out.mono ?_)
    rintro e w1 ⟨rfl, hb⟩
    have HB2 := Lib.hid hb
    have hb2 := below_new (w := w1) (.cells #[.slice A1 ns c1, .slice A2 nr c2, .slice none 0 0, .slice none 0 0] 114)
    have hn2 := World.alloc_heap_new w1 (.cells #[.slice A1 ns c1, .slice A2 nr c2, .slice none 0 0, .slice none 0 0] 114)
    obtain ⟨V, hV⟩ : ∃ V, w1.alloc (.cells #[.slice A1 ns c1, .slice A2 nr c2, .slice none 0 0, .slice none 0 0] 114) = V := ⟨_, rfl⟩
    rw [hV] at hb2 hn2
    have hBV := HB2.out.trans (hb2.mono HB2.out.size)
    have HBV := Lib.hid hBV
    have HVe := Lib.hid hV
    have HN2 := Lib.hid hn2
    obtain ⟨⟨k2, k3⟩, _⟩ := HX.out w1 HB2.out
    obtain ⟨⟨k4, k5⟩, _⟩ := HX.out (w1.alloc (.cells #[.slice A1 ns c1, .slice A2 nr c2, .slice none 0 0, .slice none 0 0] 114)) (by rw [hV]; exact hBV)
    have HO2 := Lib.hid (HOp.out HMx.out V HBV.out)
    clear hb hb2 hn2 hV hBV k0 k1 HOp
    go_wp2_with fail
    rw [HVe.out]
    (with_reducible refine HO2.out.mono ?_)
    rintro e w2 ⟨⟨u, rfl, hu, hug⟩, hb⟩
    have hgk : w.heap.size + 1 < w1.heap.size := by have := HZ1.out; have := HB2.out.size; omega
    have HGr1 := Lib.hid (HGr.out HMx.out u w2 w1.heap.size (HB1.out.trans ((HBV.out.trans (hb.mono HBV.out.size)).mono HB1.out.size)) hgk ((hb.block _ (Array.getElem?_eq_some_iff.1 HN2.out).1).trans HN2.out) hu (fun g e => by have := hug g e; have := (Array.getElem?_eq_some_iff.1 HN2.out).1; omega))
    have hkr2 := (HX.out w2 (HBV.out.trans (hb.mono HBV.out.size))).2
    have HKr := Lib.hid (And.intro hkr2 hgk)
    obtain ⟨Au, cu, e, _⟩ := hu.form
    subst e
    rw [HNn.out] at HGr1 ⊢
    clear hu hug hb hkr2 hgk k2 k3 k4 k5 HGr HO2
    go_wp2_with fail
    (with_reducible refine HGr1.out.mono ?_)
    rintro e w3 ⟨rfl, vn', vl', hK, hC, hF⟩
    have HMb := Lib.hid (HMk.out HMx.out)
    obtain ⟨gg, hgg⟩ : ∃ g, makeF m 65 (m.st.map full) ⟨[], []⟩ = g := ⟨_, rfl⟩
    rw [hgg] at HMb hK
    obtain ⟨nvx, onx, _⟩ := hK.own
    obtain ⟨lvx, olx, _⟩ := hK.lwn
    obtain ⟨An, cn, rfl⟩ := own_slice_form onx
    obtain ⟨Al, cl, rfl⟩ := own_slice_form olx
    obtain ⟨g0, g1, g2, g3⟩ := cells_four hK.box
    have HFu := Lib.hid (full_any w3 hK.box)
    rw [show decide (1000 < gg.1.nd.length ∨ 1000 < gg.1.lv.length) = fullK gg.1 from rfl] at HFu
    have hkr : w3.heap[w.heap.size + 1]? = some (.cells #[.slice none 0 0, .slice none 0 0] 53) := hC.2 _ _ HKr.out.1 (fun h => by
      have h1 := HKr.out.2
      rcases h with h | h | h
      · omega
      · cases h
      · cases h)
    obtain ⟨r0, r1⟩ := cells_two hkr
    have f0 := frozen_cells hkr 0
    have f1 := frozen_cells hkr 1
    have HBw := Lib.hid (show Below w.heap.size w w3 from hK.bel)
    have hnO : ¬ Ob w1.heap.size (Value.ownBlock (.slice An gg.1.nd.length cn)) (Value.ownBlock (.slice Al gg.1.lv.length cl)) (w.heap.size + 1) := fun h => by
      have h1 := HKr.out.2
      have h2 := (Array.getElem?_eq_some_iff.1 HKr.out.1).1
      rcases hF _ h with h3 | h3
      · rcases h3 with h3 | h3 | h3
        · omega
        · cases h3
        · cases h3
      · omega
    have hK1 := hK.outR (setCell_grown' w3 (w.heap.size + 1) 0 (.slice An gg.1.nd.length cn)) (fun g e => by cases e; exact ⟨rfl, by omega, hnO⟩)
    have hK2 := hK1.outR (setCell_grown' _ (w.heap.size + 1) 1 (.slice Al gg.1.lv.length cl)) (fun g e => by cases e; exact ⟨rfl, by omega, hnO⟩)
    have HKf := Lib.hid hK2.kyV
    clear hK1 hK2 hnO hgg
    generalize hnl : gg.1.nd.length = nl1 at *
    generalize hll : gg.1.lv.length = ll1 at *
    clear hK hC hF onx olx hkr hnl hll HGr1
    go_wp2_with fail
    (with_reducible refine HFu.out.mono ?_)
    rintro e w4 ⟨rfl, rfl⟩
    cases hf : fullK gg.1 with
    | false =>
      have HF := Lib.hid (show buildE m = 0 ∧ buildK m = gg.1 from ⟨by rw [HMb.out.1, hf]; rfl, HMb.out.2 hf⟩)
      have hbf := (HBw.out.setCell (p := ⟨w.heap.size + 1, 0, none⟩) (by show _ ≤ _ + 1; omega) (.slice An nl1 cn)).setCell (p := ⟨w.heap.size + 1, 1, none⟩) (by show _ ≤ _ + 1; omega) (.slice Al ll1 cl)
      have HBf := Lib.hid hbf
      clear hbf hf
      go_wp2_with fail
      refine bodyPost_ret (v := .tuple #[.agg #[.slice An nl1 cn, .slice Al ll1 cl], .int .i64 0]) (by simp [results, Tryd.results48, go_sem, r0, r1]) rfl ?_
      exact ⟨⟨_, by rw [HF.out.1], by rw [HF.out.2]; exact HKf.out⟩, HBf.out⟩
    | true =>
      have HF := Lib.hid (show buildE m = 2 ∧ buildK m = ⟨[], []⟩ from by
        have h1 : buildE m = 2 := by rw [HMb.out.1, hf]; rfl
        exact ⟨h1, by unfold buildK; rw [h1]; rfl⟩)
      clear hf
      go_wp2_with fail
      refine bodyPost_ret (v := .tuple #[.agg #[.slice none 0 0, .slice none 0 0], .int .i64 2]) (by simp [results, Tryd.results48, go_sem, r0, r1]) rfl ?_
      refine ⟨⟨_, by rw [HF.out.1], ?_⟩, (HBw.out.setCell (by show _ ≤ _ + 1; omega) _).setCell (by show _ ≤ _ + 1; omega) _⟩
      rw [HF.out.2]
      exact ⟨_, _, rfl, IlSl.nil _ _, ⟨none, 0, [], rfl, ⟨rfl, fun i v L h => by simp at h⟩, fun i u hu => by simp at hu⟩⟩
end Go.Proofs.YthfegbcbpeedbaaDoor
