/- fits, Open. -/
import Derived.Test.YthfegbcbpeedbaaDoorKyD
namespace Go.Ky
open Go.Nm
def seenE (m : Mx) (LL : List (List Int)) : Int := if mxF m = true then (if (LL.all fun l => setsF m.st l) = true then 0 else 32) else 30
theorem seenE_bad {m : Mx} {LL : List (List Int)} (h : mxF m = false) : seenE m LL = 30 := by unfold seenE; simp [h]
theorem seenE_ok {m : Mx} {LL : List (List Int)} (h : mxF m = true) : seenE m LL = if (LL.all fun l => setsF m.st l) = true then 0 else 32 := by unfold seenE; rw [if_pos h]
theorem mx_chr {m : Mx} (h : mxF m = true) : chrF m.st = true := by unfold mxF at h; rw [Bool.and_eq_true] at h; exact h.1
theorem mx_rows {m : Mx} (h : mxF m = true) : rowsF m = true := by unfold mxF at h; rw [Bool.and_eq_true] at h; exact h.2
theorem mx_may {m : Mx} (h : mxF m = true) {r : Rw} (hr : r ∈ m.rows) : r.may.length = m.st.length := by
  have h2 := mx_rows h
  unfold rowsF at h2
  rw [Bool.and_eq_true, Bool.and_eq_true] at h2
  have h3 := (List.all_eq_true.1 h2.2.2) r hr
  unfold setsF at h3
  rw [Bool.and_eq_true] at h3
  exact of_decide_eq_true h3.1
theorem sets_len {st l : List Int} (h : setsF st l = true) : l.length = st.length := by
  unfold setsF at h
  rw [Bool.and_eq_true] at h
  exact of_decide_eq_true h.1
/-- two sets, place by place -/
def meetF (a b : Int) : Int := bits BinOp.and IntKind.i64 a b
def fitsF (may seen : List Int) : Bool := (may.zip seen).all fun p => decide (meetF p.1 p.2 ≠ 0)
end Go.Ky
namespace Go.Proofs.YthfegbcbpeedbaaDoor
open Go.RowKit Go.Nm Go.Ky

set_option maxRecDepth 100000 in
set_option maxHeartbeats 8000000 in
theorem checkSeen_any (v u : Value) (m : Mx) (LL : List (List Int)) (w : World) (hv : MxV w v m) (hs : MSm m) (hu : VsSl w w.heap.size u LL) (hl : ∀ L ∈ LL, L.length ≤ 1000000) (hn : LL.length ≤ 1000) :
    Calls Tryd.prog 69 #[v, u] w fun e w' => e = .returned (.int .i64 (seenE m LL)) ∧ Below w.heap.size w w' := by
  obtain ⟨A1, c1, A2, c2, W0, rfl, hW0, hb0, hM, hS, hR, hX⟩ := mx_box hv
  have HB0 := Lib.hid hb0
  have HW0 := Lib.hid hW0
  have HM := Lib.hid hM
  obtain ⟨Au, cu, rfl⟩ := hu.form
  have HU := Lib.hid (fun Y (h : Below W0.heap.size W0 Y) => ((hu.below hb0).mono hb0.size |>.below h).mono h.size)
  have HL := Lib.hid hl
  have HC := Lib.hid (CheckMatrix_any _ m W0 (hM W0 (Below.refl _ _)) hs)
  have HAs := Lib.hid (fun Y (h : Below W0.heap.size W0 Y) (hc : chrF m.st = true) (u : Value) (l : List Int) (hu : InSl Y Y.heap.size u l) (hl : l.length ≤ 1000000) => areSets_any _ u m l Y (hM Y h) hc hu hl)
  have HX := Lib.hid hX
  obtain ⟨k0, k1⟩ := hX W0 (Below.refl _ _)
  obtain ⟨n, hn0⟩ : ∃ n, LL.length = n := ⟨_, rfl⟩
  have HN := Lib.hid hn0
  obtain ⟨r, hr⟩ : ∃ r, seenE m LL = r := ⟨_, rfl⟩
  rw [hr]
  have HR := Lib.hid hr
  rw [hn0] at HU hn ⊢
  generalize m.st.length = ns at *
  generalize m.rows.length = nr at *
  clear hv hu hW0 hb0 hM hS hR hX hl hn0 hr hs
  cases hm : mxF m with
  | false =>
    have HF := Lib.hid (show r = 30 from by rw [← HR.out, seenE_bad hm])
    rw [show cmE m = 30 from by unfold cmE; simp [hm]] at HC
    clear hm HR HAs
    go_enter Tryd.func69, Tryd.ntmps69
    go_wp2_with fail
    rw [HW0.out]
    (with_reducible refine HC.out.mono ?_)
    rintro e w1 ⟨rfl, hb⟩
    have HB1 := Lib.hid hb
    clear hb
    go_wp2_with fail
    go_ret
    exact ⟨by rw [HF.out]; rfl, HB0.out.trans (HB1.out.mono HB0.out.size)⟩
  | true =>
    have HT0 := Lib.hid (show r = if (LL.all fun l => setsF m.st l) = true then 0 else 32 from by rw [← HR.out, seenE_ok hm])
    have HAs1 := Lib.hid (fun Y (h : Below W0.heap.size W0 Y) => HAs.out Y h (mx_chr hm))
    rw [show cmE m = 0 from by unfold cmE; simp [hm]] at HC
    clear hm HR HAs
    go_enter Tryd.func69, Tryd.ntmps69
    go_wp2_with fail
    rw [HW0.out]
    (with_reducible refine HC.out.mono ?_)
    rintro e w1 ⟨rfl, hb⟩
    have HB1 := Lib.hid hb
    clear hb
    go_wp2_with fail
    clear k0 k1
    go_loopw [15] (fun iv wr => ∃ i : Nat, iv = .int .i64 (i : Int) ∧ i ≤ n ∧ Below W0.heap.size W0 wr ∧ ((LL.take i).all fun l => setsF m.st l) = true) (fun iv _ => n - (intOf iv).toNat)
    case atStart => exact ⟨0, rfl, by omega, HB1.out, rfl⟩
    case round =>
      obtain ⟨i, rfl, hin, hb, hg⟩ := hrel
      have HG := Lib.hid hg
      have HB := Lib.hid hb
      clear hb hg
      obtain ⟨k0, k1⟩ := HX.out wr HB.out
      by_cases hlt : i < n
      · obtain ⟨ad, lv, l, rfl, _, hq, hc, hi⟩ := (HU.out wr HB.out).at_ hlt
        obtain ⟨Al, cl, rfl, _⟩ := hi.form
        have HAs2 := Lib.hid (HAs1.out wr HB.out _ l hi (HL.out l (List.mem_of_getElem? hq)))
        have HQ := Lib.hid hq
        clear hq hi
        go_wp2_with fail
        (with_reducible refine HAs2.out.mono ?_)
        rintro e w3 ⟨rfl, hb⟩
        have HB3 := Lib.hid (HB.out.trans (hb.mono HB.out.size))
        clear hb k0 k1 hc HAs2
        cases hg : setsF m.st l with
        | false =>
          have HF := Lib.hid (show r = 32 from by rw [HT0.out, all_false HQ.out hg]; rfl)
          clear hg
          go_wp2_with fail
          go_ret
          exact ⟨by rw [HF.out]; rfl, HB0.out.trans (HB3.out.mono HB0.out.size)⟩
        | true =>
          have HT := Lib.hid (show ((LL.take (i + 1)).all fun l => setsF m.st l) = true from by rw [all_take HQ.out, HG.out]; exact hg)
          clear hg
          go_wp2_with fail
          go_roundw
          case rel => exact ⟨i + 1, by go_num, by omega, HB3.out, HT.out⟩
          case measure => simp [intOf]; omega
      · obtain rfl : n = i := by omega
        have HF := Lib.hid (show r = 0 from by rw [HT0.out, all_end HN.out HG.out]; rfl)
        go_wp2_with fail
        go_ret
        exact ⟨by rw [HF.out]; rfl, HB0.out.trans (HB.out.mono HB0.out.size)⟩
/-- a row of one list -/
theorem one_box {w : World} {v : Value} {l : List Int} (h : InSl w w.heap.size v l) : VsSl (w.alloc (.cells #[v] 22)) (w.alloc (.cells #[v] 22)).heap.size (.slice (some ⟨w.heap.size, 0, none⟩) 1 1) [l] := by
  have hb := below_new (w := w) (.cells #[v] 22)
  have hn := World.alloc_heap_new w (.cells #[v] 22)
  refine ⟨_, 1, [v], rfl, ⟨rfl, fun i u L h1 h2 => ?_⟩, fun i u h1 => ⟨_, rfl, (Array.getElem?_eq_some_iff.1 hn).1, ?_⟩⟩
  · obtain rfl : i = 0 := by have := (List.getElem?_eq_some_iff.1 h1).1; simp at this; omega
    simp at h1 h2
    subst h1; subst h2
    exact h.step hb
  · obtain rfl : i = 0 := by have := (List.getElem?_eq_some_iff.1 h1).1; simp at this; omega
    simp at h1
    subst h1
    rw [add_zero_k]
    simp only [World.cell?, hn]
    simp
set_option maxRecDepth 100000 in
set_option maxHeartbeats 8000000 in
theorem ValidSeen_any (v u : Value) (m : Mx) (l : List Int) (w : World) (hv : MxV w v m) (hs : MSm m) (hu : InSl w w.heap.size u l) (hl : l.length ≤ 1000000) :
    Calls Tryd.prog 23 #[v, u] w fun e w' => e = .returned (.bool (decide (seenE m [l] = 0))) ∧ Below w.heap.size w w' := by
  obtain ⟨A1, c1, A2, c2, W0, rfl, hW0, hb0, hM, hS, hR, hX⟩ := mx_box hv
  have HB0 := Lib.hid hb0
  have HW0 := Lib.hid hW0
  have hu0 := hu.step hb0
  obtain ⟨Au, cu, rfl, _⟩ := hu0.form
  have hb1 := below_new (w := W0) (.cells #[.slice Au l.length cu] 22)
  have HB1 := Lib.hid hb1
  have HC := Lib.hid (checkSeen_any _ _ m [l] _ (hM _ hb1) hs (one_box hu0) (by intro L hL; simp at hL; subst hL; exact hl) (by simp))
  obtain ⟨k0, k1⟩ := hX W0 (Below.refl _ _)
  obtain ⟨d0, d1⟩ := hX _ hb1
  obtain ⟨r, hr⟩ : ∃ r, seenE m [l] = r := ⟨_, rfl⟩
  have hz : W0.heap.size = w.heap.size + 1 := by rw [← hW0]; simp
  rw [hz] at HC
  have HE := Lib.hid (show r = 0 ∨ r = 30 ∨ r = 32 from by
    rw [← hr]; unfold seenE; split
    · split <;> simp
    · simp)
  rw [hr] at HC ⊢
  generalize m.st.length = ns at *
  generalize m.rows.length = nr at *
  generalize l.length = n at *
  clear hv hu hu0 hW0 hb0 hM hS hR hX hl hr hs hb1 hz
  go_enter Tryd.func23, Tryd.ntmps23
  go_wp2_with fail
  rw [HW0.out]
  go_wp2_with fail
  (with_reducible refine HC.out.mono ?_)
  rintro e w1 ⟨rfl, hb⟩
  have HB2 := Lib.hid (HB1.out.trans (hb.mono HB1.out.size))
  clear hb
  rcases HE.out with rfl | rfl | rfl
  · go_wp2_with fail
    go_ret
    exact ⟨rfl, HB0.out.trans (HB2.out.mono HB0.out.size)⟩
  · go_wp2_with fail
    go_ret
    exact ⟨rfl, HB0.out.trans (HB2.out.mono HB0.out.size)⟩
  · go_wp2_with fail
    go_ret
    exact ⟨rfl, HB0.out.trans (HB2.out.mono HB0.out.size)⟩
end Go.Proofs.YthfegbcbpeedbaaDoor
namespace Go.Ky
open Go.Nm
def openF (m : Mx) : List Int := if mxF m = true then m.st.map full else []
end Go.Ky
namespace Go.Proofs.YthfegbcbpeedbaaDoor
open Go.RowKit Go.Nm Go.Ky

/-- v is a row -/
def RwV (w : World) (v : Value) (r : Rw) : Prop := ∃ Am cm, v = .agg #[.int .i64 r.nm, .slice Am r.may.length cm] ∧ InSl w w.heap.size (.slice Am r.may.length cm) r.may
theorem RwV.step {w w' : World} {v : Value} {r : Rw} (h : RwV w v r) (hb : Below w.heap.size w w') : RwV w' v r := by
  obtain ⟨Am, cm, e, h⟩ := h
  exact ⟨Am, cm, e, h.step hb⟩
set_option maxRecDepth 100000 in
set_option maxHeartbeats 8000000 in
theorem fits_any (v u : Value) (r : Rw) (l : List Int) (w : World) (hv : RwV w v r) (hu : InSl w w.heap.size u l) (hl : l.length = r.may.length) (hn : l.length ≤ 1000000) :
    Calls Tryd.prog 70 #[v, u] w fun e w' => e = .returned (.bool (fitsF r.may l)) ∧ Below w.heap.size w w' := by
  obtain ⟨Am, cm, rfl, hm⟩ := hv
  obtain ⟨Au, cu, rfl, _⟩ := hu.form
  obtain ⟨n, h⟩ : ∃ n, l.length = n := ⟨_, rfl⟩
  rw [h] at hl hn
  rw [← hl, h]
  rw [← hl] at hm
  rw [h] at hu
  have hb := below_new (w := w) (.cells #[.int .i64 r.nm, .slice Am n cm] 35)
  have HB := Lib.hid hb
  have hx := cells_two (World.alloc_heap_new w (.cells #[.int .i64 r.nm, .slice Am n cm] 35))
  obtain ⟨W0, hW0⟩ : ∃ W0, w.alloc (.cells #[.int .i64 r.nm, .slice Am n cm] 35) = W0 := ⟨_, rfl⟩
  have HW0 := Lib.hid hW0
  have HA := Lib.hid (show InA W0 W0.heap.size Au l from by rw [← hW0]; obtain ⟨_, _, e, _, _, h⟩ := hu.step hb; cases e; exact h)
  have HM := Lib.hid (show InA W0 W0.heap.size Am r.may from by rw [← hW0]; obtain ⟨_, _, e, _, _, h⟩ := hm.step hb; cases e; exact h)
  rw [hW0] at hx HB
  obtain ⟨k0, k1⟩ := hx
  have HN := Lib.hid h
  have HNm := Lib.hid hl.symm
  have HZl := Lib.hid (show (r.may.zip l).length = n from by rw [List.length_zip, h, ← hl]; omega)
  obtain ⟨b, hb0⟩ : ∃ b, fitsF r.may l = b := ⟨_, rfl⟩
  have HR := Lib.hid hb0
  rw [hb0]
  clear hm hu hb hW0 h hl hb0
  go_enter Tryd.func70, Tryd.ntmps70
  go_wp2_with fail
  rw [HW0.out]
  go_wp2_with fail
  go_loopw [9] (fun iv wr => ∃ i : Nat, iv = .int .i64 (i : Int) ∧ i ≤ n ∧ W0 = wr ∧ (((r.may.zip l).take i).all fun p => decide (meetF p.1 p.2 ≠ 0)) = true) (fun iv _ => n - (intOf iv).toNat)
  case atStart => exact ⟨0, rfl, by omega, rfl, rfl⟩
  case round =>
    obtain ⟨i, rfl, hin, rfl, hg⟩ := hrel
    have HG := Lib.hid hg
    clear hg
    by_cases hlt : i < n
    · obtain ⟨x, ad, hx, rfl, _, hcx⟩ := HA.out.at_ HN.out hlt
      obtain ⟨y, ad1, hy, rfl, _, hcy⟩ := HM.out.at_ HNm.out hlt
      have HQ := Lib.hid (zip_get hy hx)
      clear hx hy
      obtain ⟨z, hz⟩ : ∃ z, bits BinOp.and IntKind.i64 y x = z := ⟨_, rfl⟩
      have HZ := Lib.hid hz
      by_cases h0 : z = 0
      · have HF := Lib.hid (show b = false from by rw [← HR.out]; exact all_false HQ.out (decide_eq_false (by show ¬ meetF y x ≠ 0; unfold meetF; rw [HZ.out, h0]; simp)))
        go_wp2_with fail
        go_ret
        exact ⟨by rw [HF.out]; rfl, HB.out⟩
      · have HT := Lib.hid (show (((r.may.zip l).take (i + 1)).all fun p => decide (meetF p.1 p.2 ≠ 0)) = true from by rw [all_take HQ.out, HG.out]; exact decide_eq_true (by show meetF y x ≠ 0; unfold meetF; rw [HZ.out]; exact h0))
        go_wp2_with fail
        go_roundw
        case rel => exact ⟨i + 1, by go_num, by omega, by first | trivial | rfl, HT.out⟩
        case measure => simp [intOf]; omega
    · obtain rfl : n = i := by omega
      have HF := Lib.hid (show b = true from by rw [← HR.out]; exact all_end HZl.out HG.out)
      go_wp2_with fail
      go_ret
      exact ⟨by rw [HF.out]; rfl, HB.out⟩
set_option maxRecDepth 100000 in
set_option maxHeartbeats 8000000 in
theorem Open_any (v : Value) (m : Mx) (w : World) (hv : MxV w v m) (hs : MSm m) :
    Calls Tryd.prog 17 #[v] w fun e w' => (∃ u, e = .returned (.tuple #[u, .int .i64 (cmE m)]) ∧ InSl w' w'.heap.size u (openF m) ∧ ∀ g, u.ownBlock = some g → w.heap.size ≤ g) ∧ Below w.heap.size w w' := by
  obtain ⟨A1, c1, A2, c2, W0, rfl, hW0, hb0, hM, hS, hR, hX⟩ := mx_box hv
  have HB0 := Lib.hid hb0
  have HW0 := Lib.hid hW0
  have HX := Lib.hid hX
  have HC := Lib.hid (CheckMatrix_any _ m W0 (hM W0 (Below.refl _ _)) hs)
  obtain ⟨k0, k1⟩ := hX W0 (Below.refl _ _)
  have HSl := Lib.hid hS
  obtain ⟨n, hn⟩ : ∃ n, m.st.length = n := ⟨_, rfl⟩
  have HN := Lib.hid hn
  have hn1 : n ≤ 1000 := by have := hs.1; omega
  rw [hn] at HX HSl HW0 HC k0 ⊢
  generalize m.rows.length = nr at *
  clear hv hW0 hb0 hM hS hR hX hs hn
  cases hm : mxF m with
  | false =>
    have HF := Lib.hid (show cmE m = 30 ∧ openF m = [] from ⟨by unfold cmE; simp [hm], by unfold openF; simp [hm]⟩)
    rw [HF.out.1] at HC ⊢
    rw [HF.out.2]
    clear hm HF
    go_enter Tryd.func17, Tryd.ntmps17
    go_wp2_with fail
    rw [HW0.out]
    (with_reducible refine HC.out.mono ?_)
    rintro e w1 ⟨rfl, hb⟩
    have HB1 := Lib.hid hb
    clear hb
    go_wp2_with fail
    go_ret2
    exact ⟨⟨_, rfl, InSl.nil _ _, fun g e => by cases e⟩, HB0.out.trans (HB1.out.mono HB0.out.size)⟩
  | true =>
    have HF := Lib.hid (show cmE m = 0 ∧ openF m = m.st.map full from ⟨by unfold cmE; simp [hm], by unfold openF; simp [hm]⟩)
    have HCh := Lib.hid (show ∀ x ∈ m.st, 2 ≤ x ∧ x ≤ 16 from fun x hx => by
      have hc := mx_chr hm
      unfold chrF at hc
      rw [Bool.and_eq_true] at hc
      exact of_decide_eq_true ((List.all_eq_true.1 hc.2) x hx))
    rw [HF.out.1] at HC ⊢
    rw [HF.out.2]
    clear hm HF
    go_enter Tryd.func17, Tryd.ntmps17
    go_wp2_with fail
    rw [HW0.out]
    (with_reducible refine HC.out.mono ?_)
    rintro e w1 ⟨rfl, hb⟩
    have HB1 := Lib.hid hb
    clear hb k0 k1
    obtain ⟨k0, k1⟩ := HX.out w1 HB1.out
    go_wp2_with (refine wpList_make_ints rfl _ _ rfl n rfl rfl (by omega) ?_; intro cs hcs1 hcs2; have HI0 := Lib.hid (IwI.start (W := w1) hcs1 hcs2); clear hcs1 hcs2; obtain ⟨k2, k3⟩ := HX.out _ (HB1.out.trans (HI0.out.bel.mono HB1.out.size)))
    obtain ⟨gw, hgw⟩ : ∃ gw, w1.heap.size = gw := ⟨_, rfl⟩
    have HGw := Lib.hid hgw
    rw [hgw] at HI0 ⊢
    clear hgw k0 k1 k2 k3
    go_loopw [20] (fun iv wr => ∃ (i : Nat) (f : Nat → Int), iv = .int .i64 (i : Int) ∧ i ≤ n ∧ IwI w1 gw n f wr ∧ ∀ k x, k < i → m.st[k]? = some x → f k = full x) (fun iv _ => n - (intOf iv).toNat)
    case atStart => exact ⟨0, _, rfl, by omega, HI0.out, fun k r hk => absurd hk (by omega)⟩
    case round =>
      obtain ⟨i, f, rfl, hin, hI, hf⟩ := hrel
      have HI := Lib.hid hI
      have HFk := Lib.hid hf
      clear hI hf
      by_cases hlt : i < n
      · have HA := Lib.hid (show InA wr wr.heap.size A1 m.st from by obtain ⟨_, _, e, _, _, h⟩ := HSl.out wr (HB1.out.trans (HI.out.bel.mono HB1.out.size)); cases e; exact h)
        obtain ⟨x, ad, hx, rfl, _, hcx⟩ := HA.out.at_ HN.out hlt
        obtain ⟨hq2, hq3⟩ := HCh.out x (List.mem_of_getElem? hx)
        obtain ⟨k, rfl⟩ : ∃ k : Nat, x = (k : Int) := ⟨x.toNat, by omega⟩
        have HFu := Lib.hid (fullSet_any k wr (by omega))
        obtain ⟨fu, hfu⟩ : ∃ fu, full (k : Int) = fu := ⟨_, rfl⟩
        have HFf := Lib.hid hfu
        rw [hfu] at HFu
        have hco := HI.out.cell hlt
        have hfz := HI.out.froz i
        have HXx := Lib.hid hx
        clear hx hfu
        go_wp2_with fail
        (with_reducible refine HFu.out.mono ?_)
        rintro e w2 ⟨rfl, rfl⟩
        go_wp2_with fail
        go_roundw
        case rel => exact ⟨i + 1, _, by go_num, by omega, HI.out.set i fu, fun j r' hk hr' => by
          by_cases e : j = i
          · subst e
            rw [HXx.out] at hr'; injection hr' with hr'; subst hr'
            rw [HFf.out]
            exact upd_same _ _ _
          · rw [upd_other _ _ e]; exact HFk.out j r' (by omega) hr'⟩
        case measure => simp [intOf]; omega
      · obtain rfl : n = i := by omega
        have HSx := Lib.hid (HI.out.sl (by omega) (L := m.st.map full) (by rw [List.length_map, HN.out]) (fun k x hx => by
          rw [List.getElem?_map] at hx
          cases hr : m.st[k]? with
          | none => rw [hr] at hx; cases hx
          | some r =>
            rw [hr] at hx
            simp only [Option.map_some, Option.some.injEq] at hx
            rw [HFk.out k r (by have := (List.getElem?_eq_some_iff.1 hr).1; have := HN.out; omega) hr, hx]))
        have HBe := Lib.hid (HB1.out.trans (HI.out.bel.mono HB1.out.size))
        go_wp2_with fail
        go_ret2
        exact ⟨⟨_, rfl, HSx.out, fun g e => by
          have : gw = g := by simpa [Value.ownBlock] using e
          have := HI.out.base
          have := HB1.out.size
          have := HB0.out.size
          omega⟩, HB0.out.trans (HBe.out.mono HB0.out.size)⟩
end Go.Proofs.YthfegbcbpeedbaaDoor
