/- Build; SameKey of equal keys. -/
import Derived.Test.YthfegbcbpeedbaaDoorKyOw
namespace Go.Ky
open Go.Nm
def buildG (m : Mx) : Kx × Int × Int := growF m 65 m.rows (m.st.map full) ⟨[], []⟩
def buildE (m : Mx) : Int := if mxF m = true then (buildG m).2.2 else 30
def buildK (m : Mx) : Kx := if buildE m = 0 then (buildG m).1 else ⟨[], []⟩
theorem sets_full {st : List Int} (h : chrF st = true) : setsF st (st.map full) = true := by
  refine sets_mk (by rw [List.length_map]) fun c n x h1 h2 => ?_
  rw [List.getElem?_map, h1] at h2
  simp at h2
  subst h2
  have h3 := (chr_ok h).2.2 c n h1
  obtain ⟨N, rfl⟩ : ∃ N : Nat, n = (N : Int) := ⟨n.toNat, by omega⟩
  rw [full_nat]
  have h4 : 2 ^ 1 ≤ 2 ^ N := Nat.pow_le_pow_right (by omega) (by omega)
  omega
theorem fits_full {st may : List Int} (hc : chrF st = true) (h : setsF st may = true) : fitsF may (st.map full) = true := by
  unfold fitsF
  refine List.all_eq_true.2 fun p hp => decide_eq_true ?_
  obtain ⟨i, hi, e⟩ := List.getElem_of_mem hp
  have h2 : (may.zip (st.map full))[i]? = some p := by rw [← e]; exact List.getElem?_eq_getElem hi
  have h3 := List.getElem?_zip_eq_some.1 h2
  have h4 := h3.2
  rw [List.getElem?_map] at h4
  cases hn : st[i]? with
  | none => rw [hn] at h4; cases h4
  | some n =>
    rw [hn] at h4
    simp at h4
    have h5 := sets_at h hn h3.1
    have h6 := (chr_ok hc).2.2 i n hn
    rw [← h4]
    obtain ⟨N, rfl⟩ : ∃ N : Nat, n = (N : Int) := ⟨n.toNat, by omega⟩
    rw [full_nat] at h5 ⊢
    obtain ⟨Y, hY⟩ : ∃ Y : Nat, p.1 = (Y : Int) := ⟨p.1.toNat, by omega⟩
    rw [hY] at h5 ⊢
    have h7 := pow16 (k := N) (by omega)
    have e2 : ((2 ^ N : Nat) : Int) - 1 = ((2 ^ N - 1 : Nat) : Int) := by omega
    unfold meetF
    rw [e2, and_i64 (by omega) (by omega), Nat.and_two_pow_sub_one_of_lt_two_pow (by omega)]
    omega
end Go.Ky
namespace Go.Proofs.YthfegbcbpeedbaaDoor
open Go.RowKit Go.Nm Go.Ky

theorem KgS.kyV {R : Nat → Prop} {W X : World} {gk : Nat} {k : Kx} {vn vl : Value} (h : KgS R W gk k vn vl X) : KyV X (.agg #[vn, vl]) k := by
  obtain ⟨nv, n1, n2⟩ := h.own
  obtain ⟨lv, l1, l2⟩ := h.lwn
  refine ⟨vn, vl, rfl, ?_, ?_⟩
  · rcases n1.2 with ⟨e, h0⟩ | ⟨g, cap, cur, e, hb, hg, h1, h2, h3, h4⟩
    · have hl := List.length_eq_zero_iff.1 h0
      rw [hl, e]
      exact IlSl.nil _ _
    · refine ⟨_, _, e, fun i x hx => ?_⟩
      obtain ⟨vm, c0, c1, hv⟩ := n2.2 i x hx
      have hc := n1.cells (g := g) (by rw [e]; rfl)
      refine ⟨⟨g, 0, none⟩, vm, rfl, (Array.getElem?_eq_some_iff.1 hg).1, ?_, ?_, hv.1⟩
      · exact hc (i * 2) _ c0
      · rw [add_zero_k]
        have := hc (i * 2 + 1) _ c1
        rw [add_zero_k] at this
        exact this
  · rcases l1.2 with ⟨e, h0⟩ | ⟨g, cap, cur, e, hb, hg, h1, h2, h3, h4⟩
    · have hl := List.length_eq_zero_iff.1 h0
      rw [hl, e]
      exact ⟨none, 0, [], rfl, ⟨rfl, fun i v L h => by simp at h⟩, fun i u hu => by simp at hu⟩
    · have hc := l1.cells (g := g) (by rw [e]; rfl)
      refine ⟨_, _, lv, e, ⟨l2.1, fun i v L h1 h2 => ?_⟩, fun i u hu => ⟨_, rfl, (Array.getElem?_eq_some_iff.1 hg).1, hc i u hu⟩⟩
      obtain ⟨u, hu, ha⟩ := l2.2 i L h2
      rw [hu] at h1; injection h1 with h1; subst h1
      exact ha.1
set_option maxRecDepth 100000 in
set_option maxHeartbeats 8000000 in
theorem Build_any (v : Value) (m : Mx) (w : World) (hv : MxV w v m) (hs : MSm m) :
    Calls Tryd.prog 47 #[v] w fun e w' => (∃ kv, e = .returned (.tuple #[kv, .int .i64 (buildE m)]) ∧ KyV w' kv (buildK m)) ∧ Below w.heap.size w w' := by
  have hv0 := hv
  obtain ⟨A1, c1, A2, c2, W0, rfl, hW0, hb0, hM, hS, hR, hX⟩ := mx_box hv
  have hz : W0.heap.size = w.heap.size + 1 := by rw [← hW0]; simp
  have hn0 : W0.heap[w.heap.size]? = some (.cells #[.slice A1 m.st.length c1, .slice A2 m.rows.length c2] 25) := by rw [← hW0]; exact World.alloc_heap_new w _
  have hb1 := below_new (w := W0) (.cells #[.slice none 0 0, .slice none 0 0] 53)
  have hn1 := World.alloc_heap_new W0 (.cells #[.slice none 0 0, .slice none 0 0] 53)
  obtain ⟨W1, hW1⟩ : ∃ W, W0.alloc (.cells #[.slice none 0 0, .slice none 0 0] 53) = W := ⟨_, rfl⟩
  rw [hW1, hz] at hn1
  rw [hW1] at hb1
  have hB1 := hb0.trans (hb1.mono hb0.size)
  have HB1 := Lib.hid hB1
  have HW := Lib.hid (And.intro hW0 hW1)
  have HX := Lib.hid (fun Y (h : Below W1.heap.size W1 Y) => And.intro (hX Y (hb1.trans (h.mono hb1.size))) ((h.block _ (Array.getElem?_eq_some_iff.1 hn1).1).trans hn1))
  have HOp := Lib.hid (Open_any _ m W1 (hM W1 hb1) hs)
  have hz1 : W1.heap.size = w.heap.size + 1 + 1 := by rw [← hW1]; simp [hz]
  have HSs := Lib.hid (show InSl w w.heap.size (.slice A1 m.st.length c1) m.st from by
    obtain ⟨v1, v2, e, h1, h2⟩ := hv0
    simp at e
    rw [e.1]; exact h1)
  have HRs := Lib.hid (show Il2 w w.heap.size (fun r vm => InSl w w.heap.size vm r.may) (.slice A2 m.rows.length c2) m.rows from by
    obtain ⟨v1, v2, e, h1, h2⟩ := hv0
    simp at e
    rw [e.2]; exact h2.il2)
  have HE := Lib.hid (show buildE m = (if mxF m = true then (buildG m).2.2 else 30) ∧ buildK m = (if buildE m = 0 then (buildG m).1 else ⟨[], []⟩) ∧ cmE m = (if mxF m = true then 0 else 30) ∧ openF m = (if mxF m = true then m.st.map full else []) from ⟨rfl, rfl, rfl, rfl⟩)
  obtain ⟨be, hbe⟩ : ∃ b, buildE m = b := ⟨_, rfl⟩
  obtain ⟨bk, hbk⟩ : ∃ b, buildK m = b := ⟨_, rfl⟩
  rw [hbe, hbk] at HE
  rw [hbe, hbk]
  rw [HE.out.2.2.1, HE.out.2.2.2] at HOp
  obtain ⟨⟨k0, k1⟩, hkr⟩ := HX.out W1 (Below.refl _ _)
  have HL4 := Lib.hid (fun h : mxF m = true => (mx_all h).2.1)
  cases hm : mxF m with
  | false =>
    have HF := Lib.hid (show be = 30 ∧ bk = ⟨[], []⟩ from by
      have h1 : be = 30 := by rw [HE.out.1, hm]; rfl
      exact ⟨h1, by rw [HE.out.2.1, h1]; rfl⟩)
    rw [hm] at HOp
    simp only [Bool.false_eq_true, if_false] at HOp
    generalize m.st.length = ns at *
    generalize m.rows.length = nr at *
    clear hv hv0 hs hW0 hb0 hM hS hR hX hz hn0 hb1 hn1 hW1 hB1 hz1 hbe hbk hm hkr HE HL4
    go_enter Tryd.func47, Tryd.ntmps47
    go_wp2_with fail
    rw [HW.out.1, HW.out.2]
    (try go_wp2_with fail)
    (with_reducible refine HOp.out.mono ?_)
    rintro e w1 ⟨⟨u, rfl, hu, _⟩, hb⟩
    have HB2 := Lib.hid (HB1.out.trans (hb.mono HB1.out.size))
    have hkr := (HX.out w1 hb).2
    obtain ⟨r0, r1⟩ := cells_two hkr
    have f0 := frozen_cells hkr 0
    have f1 := frozen_cells hkr 1
    obtain ⟨Au, cu, rfl, _⟩ := hu.form
    clear hu hb hkr k0 k1
    go_wp2_with fail
    refine bodyPost_ret (v := .tuple #[.agg #[.slice none 0 0, .slice none 0 0], .int .i64 30]) (by simp [results, Tryd.results47, go_sem, r0, r1]) rfl ?_
    refine ⟨⟨_, by rw [HF.out.1], ?_⟩, (HB2.out.setCell (by show _ ≤ _ + 1; omega) _).setCell (by show _ ≤ _ + 1; omega) _⟩
    rw [HF.out.2]
    exact ⟨_, _, rfl, IlSl.nil _ _, ⟨none, 0, [], rfl, ⟨rfl, fun i v L h => by simp at h⟩, fun i u hu => by simp at hu⟩⟩
  | true =>
    have HMx := Lib.hid hm
    have hchr := (mx_all hm).1
    rw [hm] at HOp
    simp only [if_true] at HOp
    have HBe := Lib.hid (show be = (buildG m).2.2 from by rw [HE.out.1, hm]; rfl)
    have HGr := Lib.hid (fun (u : Value) (X : World) (gk : Nat) (hX : Below w.heap.size w X) (hlo : w.heap.size ≤ gk) (hbx : X.heap[gk]? = some (.cells #[.slice none 0 0, .slice none 0 0] 53)) (hu : InSl X X.heap.size u (m.st.map full)) (hug : ∀ g, u.ownBlock = some g → g ≠ gk) (hsz : w.heap.size + 1 < X.heap.size) =>
      grow_any (W := w) (gk := gk) (m := m) (A1 := A1) (A2 := A2) (c1 := c1) (c2 := c2) HSs.out hm 65 (fun g => g = w.heap.size + 1) m.rows (m.st.map full) ⟨[], []⟩ (.slice none 0 0) (.slice none 0 0) (.slice A2 m.rows.length c2) u X 0
        ⟨hX, hlo, hbx, ⟨[], World.ownsRow_nil _ _ _ _, Els.nil _⟩, ⟨[], World.ownsRow_nil _ _ _ _, rfl, fun i l h => by simp at h⟩, (fun h => nomatch h), (fun h => nomatch h), (fun g h => nomatch h)⟩
        (fun g h => by omega) (HRs.out.chg (O := fun _ => False) (Chg.of_below hX) (fun _ _ _ h => h))
        (fun hne g e h => by
          obtain ⟨A, c, e1, h2⟩ := HRs.out
          obtain ⟨r, hr⟩ := List.exists_mem_of_ne_nil _ hne
          obtain ⟨i, hi, er⟩ := List.getElem_of_mem hr
          obtain ⟨ad, vm, e4, h3, _⟩ := h2 i r (by rw [← er]; exact List.getElem?_eq_getElem hi)
          rw [e1, e4] at e
          have e5 : ad.block = g := by simpa [Value.ownBlock] using e
          rcases h with h | h | h
          · omega
          · cases h
          · cases h)
        ⟨hu, fun _ g e h => by
          rcases h with h | h | h
          · exact hug g e h
          · cases h
          · cases h⟩
        (fun r hr => hr) (fun r hr => fits_full hchr ((mx_all hm).2.2 r hr)) (sets_full hchr) (mx_all hm).2.1 (by simp) (by have h1 := und_le (m.st.map full); have h2 := (chr_ok hchr).2.1; rw [List.length_map] at h1; omega) (by simp) (by have h1 := und_le (m.st.map full); have h2 := (chr_ok hchr).2.1; rw [List.length_map] at h1; omega))
    have HGg := Lib.hid (show growF m 65 m.rows (m.st.map full) ⟨[], []⟩ = buildG m from rfl)
    rw [HGg.out] at HGr
    obtain ⟨gg, hgg⟩ : ∃ g, buildG m = g := ⟨_, rfl⟩
    rw [hgg] at HGr HBe HE
    obtain ⟨ns, hns⟩ : ∃ n, m.st.length = n := ⟨_, rfl⟩
    obtain ⟨nr, hnr⟩ : ∃ n, m.rows.length = n := ⟨_, rfl⟩
    have HNn := Lib.hid (show (m.st.map full).length = ns from by rw [List.length_map, hns])
    rw [hns, hnr] at HW HX HOp HGr
    rw [hns] at k0
    rw [hnr] at k1
    rw [hns, hnr]
    clear hv hv0 hs hW0 hb0 hM hS hR hX hz hn0 hb1 hn1 hW1 hB1 hbe hbk hm hkr hchr hgg hns hnr
    go_enter Tryd.func47, Tryd.ntmps47
    go_wp2_with fail
    rw [HW.out.1, HW.out.2]
    (try go_wp2_with fail)
    (with_reducible refine HOp.out.mono ?_)
    rintro e w1 ⟨⟨u, rfl, hu, hug⟩, hb⟩
    have HB2 := Lib.hid hb
    have hb2 := below_new (w := w1) (.cells #[.slice none 0 0, .slice none 0 0] 53)
    have hn2 := World.alloc_heap_new w1 (.cells #[.slice none 0 0, .slice none 0 0] 53)
    obtain ⟨V, hV⟩ : ∃ V, w1.alloc (.cells #[.slice none 0 0, .slice none 0 0] 53) = V := ⟨_, rfl⟩
    rw [hV] at hb2 hn2
    have hneN : m.st.map full ≠ [] ∨ True := .inr trivial
    have hBV := HB2.out.trans (hb2.mono HB2.out.size)
    obtain ⟨Au, cu, e, _⟩ := hu.form
    subst e
    have hu1 := hu
    rw [HNn.out] at hu
    have hpos : 0 < ns := by
      have h1 := (chr_ok (mx_all HMx.out).1).1
      have h2 := HNn.out
      rw [List.length_map] at h2
      omega
    have HGr1 := Lib.hid (HGr.out (.slice Au ns cu) V w1.heap.size (HB1.out.trans (hBV.mono HB1.out.size)) (Nat.le_trans HB1.out.size HB2.out.size) hn2 (hu.step hb2) (fun g e h => by
      have h3 := hu.ownLt (fun h4 => by have := congrArg List.length h4; rw [HNn.out] at this; simp at this; omega) e
      omega) (by have := hb2.size; have := HB2.out.size; have h5 := (Array.getElem?_eq_some_iff.1 hn2).1; omega))
    have HBV := Lib.hid hBV
    have HVe := Lib.hid hV
    have hkr := (HX.out V hBV).2
    obtain ⟨⟨k2, k3⟩, _⟩ := HX.out V hBV
    obtain ⟨⟨k4, k5⟩, _⟩ := HX.out (w1.alloc (.cells #[.slice none 0 0, .slice none 0 0] 53)) (by rw [hV]; exact hBV)
    clear hu hu1 hug hb hb2 hn2 hV hBV k0 k1 hkr HGr HOp hneN
    rw [HNn.out]
    go_wp2_with fail
    rw [HVe.out]
    (with_reducible refine HGr1.out.mono ?_)
    rintro e w2 ⟨rfl, vn', vl', hK, hC, hF⟩
    have HK := Lib.hid hK
    obtain ⟨nvx, onx, _⟩ := hK.own
    obtain ⟨lvx, olx, _⟩ := hK.lwn
    obtain ⟨An, cn, rfl⟩ := own_slice_form onx
    obtain ⟨Al, cl, rfl⟩ := own_slice_form olx
    obtain ⟨g0, g1⟩ := cells_two hK.box
    have hkr : w2.heap[w.heap.size + 1]? = some (.cells #[.slice none 0 0, .slice none 0 0] 53) := hC.2 _ _ (HX.out V HBV.out).2 (fun h => by
      have h1 := HB2.out.size
      rcases h with h | h | h
      · omega
      · cases h
      · cases h)
    obtain ⟨r0, r1⟩ := cells_two hkr
    have f0 := frozen_cells hkr 0
    have f1 := frozen_cells hkr 1
    obtain ⟨ev, hev⟩ : ∃ e, gg.2.2 = e := ⟨_, rfl⟩
    have HEv := Lib.hid hev
    rw [hev]
    have HBw := Lib.hid (show Below w.heap.size w w2 from hK.bel)
    have hnO : ¬ Ob w1.heap.size (Value.ownBlock (.slice An gg.1.nd.length cn)) (Value.ownBlock (.slice Al gg.1.lv.length cl)) (w.heap.size + 1) := fun h => by
      have h1 := HB2.out.size
      have h2 := HBV.out.size
      rcases hF _ h with h3 | h3
      · rcases h3 with h3 | h3 | h3
        · omega
        · cases h3
        · cases h3
      · omega
    have hK1 := hK.outR (setCell_grown' w2 (w.heap.size + 1) 0 (.slice An gg.1.nd.length cn)) (fun g e => by cases e; exact ⟨rfl, by omega, hnO⟩)
    have hK2 := hK1.outR (setCell_grown' _ (w.heap.size + 1) 1 (.slice Al gg.1.lv.length cl)) (fun g e => by cases e; exact ⟨rfl, by omega, hnO⟩)
    have HKf := Lib.hid hK2.kyV
    clear hK1 hK2 hnO
    generalize gg.2.1 = x21 at *
    generalize hnl : gg.1.nd.length = nl1 at *
    generalize hll : gg.1.lv.length = ll1 at *
    clear hK hC hF onx olx hkr hev hnl hll k2 k3 k4 k5 HGr1
    by_cases he : ev = 0
    · subst he
      have HF := Lib.hid (show be = 0 ∧ bk = gg.1 from by
        have h1 : be = 0 := by rw [HBe.out, HEv.out]
        exact ⟨h1, by rw [HE.out.2.1, h1, if_pos rfl]⟩)
      have hbf := (HBw.out.setCell (p := ⟨w.heap.size + 1, 0, none⟩) (by show _ ≤ _ + 1; omega) (.slice An nl1 cn)).setCell (p := ⟨w.heap.size + 1, 1, none⟩) (by show _ ≤ _ + 1; omega) (.slice Al ll1 cl)
      have HBf := Lib.hid hbf
      clear hbf
      go_wp2_with fail
      refine bodyPost_ret (v := .tuple #[.agg #[.slice An nl1 cn, .slice Al ll1 cl], .int .i64 0]) (by simp [results, Tryd.results47, go_sem, r0, r1]) rfl ?_
      exact ⟨⟨_, by rw [HF.out.1], by rw [HF.out.2]; exact HKf.out⟩, HBf.out⟩
    · have hne : (ev != 0) = true := by simpa using he
      have HF := Lib.hid (show be = ev ∧ bk = ⟨[], []⟩ from by
        have h1 : be = ev := by rw [HBe.out, HEv.out]
        exact ⟨h1, by rw [HE.out.2.1, h1, if_neg he]⟩)
      clear he
      go_wp2_with fail
      refine bodyPost_ret (v := .tuple #[.agg #[.slice none 0 0, .slice none 0 0], .int .i64 ev]) (by simp [results, Tryd.results47, go_sem, r0, r1]) rfl ?_
      refine ⟨⟨_, by rw [HF.out.1], ?_⟩, (HBw.out.setCell (by show _ ≤ _ + 1; omega) _).setCell (by show _ ≤ _ + 1; omega) _⟩
      rw [HF.out.2]
      exact ⟨_, _, rfl, IlSl.nil _ _, ⟨none, 0, [], rfl, ⟨rfl, fun i v L h => by simp at h⟩, fun i u hu => by simp at hu⟩⟩
end Go.Proofs.YthfegbcbpeedbaaDoor
