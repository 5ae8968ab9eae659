/- NamesChanges: the walk. -/
import Derived.Test.YtplpogonkfnafaaNmWr
import Derived.Test.YtplpogonkfnafaaNmNa
import Derived.Test.YtplpogonkfnafaaNmNh
import Derived.Test.YtplpogonkfnafaaNmBe
namespace Go.Proofs.Ytplpogonkfnafaa
open Go.RowKit Go.Nm Go.Deep Go.Joins Go.ChangeShapes Go.WideShapes

section
variable {H : Type} {enc : TypeId × Value → H} {W : World}
set_option maxRecDepth 100000 in
/-- a change that came in -/
theorem open_change {v : Value} {d : DataW H} {p : List MemPlace} {base : Nat} (hval : Value.okWide Try.prog W .any base 52 v) (h : DataW.Trod enc Try.prog W 0 (fun _ => true) true 52 v d p) :
    ∃ (y : Ch) (vf vt : Value), v = .agg #[.int .i64 y.yr, vf, vt] ∧ InSl W W.heap.size vf y.fr ∧ InSl W W.heap.size vt y.to := by
  have hC : Try.prog.cellsOf 52 = 3 := by kernel_rfl
  have hCi : Try.prog.cellsOf 3 = 1 := by kernel_rfl
  have hCs : Try.prog.cellsOf 22 = 1 := by kernel_rfl
  obtain ⟨cs, rfl, hsz⟩ := okWide_struct Try.underlying52 hval
  rw [hC] at hsz
  obtain ⟨fuel, hf0⟩ := h
  obtain ⟨ys, j, _, _, _, hyl, hf⟩ := DataW.trod_struct Try.underlying52 hf0
  obtain ⟨cl⟩ := cs
  match cl, hsz, ys, hyl with
  | [c0, c1, c2], _, [y0, y1, y2], _ =>
    have g0 := hf 0 _ rfl
    have g1 := hf 1 _ rfl
    have g2 := hf 2 _ rfl
    simp [hCi, hCs, Value.cells] at g0 g1 g2
    obtain ⟨a0, e0, _, _⟩ := DataW.trod_int Try.underlying3 g0
    simp only [List.cons.injEq, and_true] at e0
    subst e0
    obtain ⟨L1, h1⟩ := open_list g1
    obtain ⟨L2, h2⟩ := open_list g2
    exact ⟨⟨a0, L1, L2⟩, c1, c2, rfl, h1, h2⟩
end
theorem apply_sm {b : Bk} {y : Ch} (hs : Sm b) (hf : y.fr.length ≤ 500) (ht : y.to.length ≤ 500) : Sm (applyOut b y).1 := by
  have h0 : Sm ⟨[], []⟩ := ⟨by simp, by simp, fun x hx => by simp at hx⟩
  unfold applyOut
  split
  · rename_i h
    split
    · exact h0
    · split
      · have := (openE_val h).1.1
        refine ⟨hs.1, by simp; omega, fun x hx => ?_⟩
        rcases List.mem_append.1 hx with hx | hx
        · exact hs.2.2 x hx
        · simp at hx; subst hx; omega
      · exact h0
  · exact h0
theorem chainOut_few (b : Bk) (n x : Int) (hs : Sm b) : (chainOut b n x).1.length ≤ 1000 := by
  unfold chainOut
  split
  · exact Nat.le_trans (chainT_len _ _ _ _) hs.2.1
  · simp
theorem new2 {w Y : World} {a b : Value} {t : TypeId} (h : Below (w.alloc (.cells #[a, b] t)).heap.size (w.alloc (.cells #[a, b] t)) Y) : Y.cell? ⟨w.heap.size, 0, none⟩ = some a ∧ Y.cell? ⟨w.heap.size, 1, none⟩ = some b := by
  have h1 := World.alloc_heap_new w (.cells #[a, b] t)
  exact cells_two ((h.block _ (Array.getElem?_eq_some_iff.1 h1).1).trans h1)
set_option maxRecDepth 100000 in
set_option maxHeartbeats 16000000 in
theorem NamesChanges_any (v vc u vf vt : Value) (b : Bk) (aV aW aX aY aR : Int) (L : List Int) (y : Ch) (w : World) (hv : BkV w v b vc) (hu : InSl w w.heap.size u L) (hf : InSl w w.heap.size vf y.fr) (ht : InSl w w.heap.size vt y.to) :
    Calls Try.prog 6 #[v, .agg #[.int .i64 aV, .int .i64 aW, .int .i64 aX, .int .i64 aY, .int .i64 aR, u], .agg #[.int .i64 y.yr, vf, vt]] w fun e w' => e = .returned (.bool true) ∧ Below w.heap.size w w' := by
  have hv0 := hv
  obtain ⟨v1, rfl, h1, h2⟩ := hv
  obtain ⟨A1, c1, rfl, _⟩ := h1.form
  obtain ⟨A2, c2, rfl⟩ := h2.form
  obtain ⟨Au, cu, rfl, _⟩ := hu.form
  obtain ⟨Af, cf, rfl, _⟩ := hf.form
  obtain ⟨At, ct, rfl, _⟩ := ht.form
  obtain ⟨W1, hW1⟩ : ∃ W1, (w.alloc (.cells #[.slice A1 b.first.length c1, .slice A2 b.chs.length c2] 25)).alloc (.cells #[.int .i64 aV, .int .i64 aW, .int .i64 aX, .int .i64 aY, .int .i64 aR, .slice Au L.length cu] 27) = W1 := ⟨_, rfl⟩
  obtain ⟨hb1, hcs⟩ := args_cells w _ _ _ _ _ _ _ _ W1 hW1
  have hs1 : W1.heap.size = w.heap.size + 2 := by rw [← hW1]; simp
  obtain ⟨W0, hW0⟩ : ∃ W0, W1.alloc (.cells #[.int .i64 y.yr, .slice Af y.fr.length cf, .slice At y.to.length ct] 52) = W0 := ⟨_, rfl⟩
  have hE := below_new (w := W1) (.cells #[.int .i64 y.yr, .slice Af y.fr.length cf, .slice At y.to.length ct] 52)
  have hnw := fun Y h => new3 (w := W1) (a := .int .i64 y.yr) (b := .slice Af y.fr.length cf) (c := .slice At y.to.length ct) (t := 52) (Y := Y) h
  rw [hs1] at hnw
  rw [hW0] at hE hnw
  have hb0 := hb1.trans (hE.mono hb1.size)
  have HCs := Lib.hid (fun Y (h : Below W0.heap.size W0 Y) => And.intro (hcs Y (hE.trans (h.mono hE.size))) (hnw Y h))
  have HB0 := Lib.hid hb0
  have HBk0 := Lib.hid (hv0.step hb0)
  have HF := Lib.hid (hf.step hb0)
  have HT := Lib.hid (ht.step hb0)
  have HAw := Lib.hid (awake_any W0)
  have HW := Lib.hid (And.intro hW1 hW0)
  clear hv0 h1 h2 hu hf ht hb0 hb1 hcs hE hnw hs1 hW1 hW0
  go_enter Try.func6, Try.ntmps6
  go_wp2_with fail
  rw [HW.out.1, HW.out.2]
  (with_reducible refine HAw.out.mono ?_)
  rintro e Y1 ⟨rfl, hb⟩
  have HB1 := Lib.hid hb
  have HBk1 := Lib.hid (HBk0.out.step hb)
  have HSm := Lib.hid (small_any _ _ b Y1 HBk1.out)
  obtain ⟨⟨⟨k0, k1⟩, q0, q1, q2, q3, q4, q5⟩, x0, x1, x2⟩ := HCs.out Y1 hb
  clear hb HBk0 HAw HW
  go_wp2_with fail
  (with_reducible refine HSm.out.mono ?_)
  rintro e Y2 ⟨⟨r, rfl, hs⟩, hb⟩
  have HB2 := Lib.hid (HB1.out.trans (hb.mono HB1.out.size))
  have HBk2 := Lib.hid (HBk1.out.step hb)
  have HS := Lib.hid hs
  clear k0 k1 q0 q1 q2 q3 q4 q5 x0 x1 x2 hb HSm HB1 HBk1 hs
  obtain ⟨⟨⟨k0, k1⟩, q0, q1, q2, q3, q4, q5⟩, x0, x1, x2⟩ := HCs.out Y2 HB2.out
  cases r with
  | false =>
    go_wp2_with fail
    go_ret
    exact ⟨rfl, HB0.out.trans (HB2.out.mono HB0.out.size)⟩
  | true =>
    by_cases hL : 500 < y.fr.length
    · have hLi : (500 : Int) < (y.fr.length : Int) := by omega
      go_wp2_with fail
      go_ret
      exact ⟨rfl, HB0.out.trans (HB2.out.mono HB0.out.size)⟩
    have hLi : ¬ (500 : Int) < (y.fr.length : Int) := by omega
    by_cases hM : 500 < y.to.length
    · have hMi : (500 : Int) < (y.to.length : Int) := by omega
      go_wp2_with fail
      go_ret
      exact ⟨rfl, HB0.out.trans (HB2.out.mono HB0.out.size)⟩
    have hMi : ¬ (500 : Int) < (y.to.length : Int) := by omega
    have HS1 := Lib.hid (HS.out rfl)
    obtain ⟨⟨oA, o1⟩, h1⟩ : ∃ o, applyOut b y = o := ⟨_, rfl⟩
    obtain ⟨⟨oC, o2⟩, h2⟩ : ∃ o, chainOut b aV aX = o := ⟨_, rfl⟩
    have HAs := Lib.hid (show Sm oA from by have h := apply_sm (y := y) (HS.out rfl) (by omega) (by omega); rw [h1] at h; exact h)
    have HCl := Lib.hid (show oC.length ≤ 1000000 from by have := chainOut_few b aV aX (HS.out rfl); rw [h2] at this; exact Nat.le_trans this (by omega))
    have HC1 := Lib.hid (fun Y (hb : Below Y2.heap.size Y2 Y) => Apply_any _ _ _ _ b y Y (HBk2.out.step hb) HS1.out ((HF.out.step HB2.out).step hb) ((HT.out.step HB2.out).step hb) ⟨by omega, by omega⟩)
    have HC2 := Lib.hid (fun Y (hb : Below Y2.heap.size Y2 Y) => rApply_any _ _ _ _ b y Y (HBk2.out.step hb) HS1.out ((HF.out.step HB2.out).step hb) ((HT.out.step HB2.out).step hb) ⟨by omega, by omega⟩)
    have HC3 := Lib.hid (fun Y (hb : Below Y2.heap.size Y2 Y) => Chain_any _ _ b aV aX Y (HBk2.out.step hb) HS1.out)
    have HC4 := Lib.hid (fun Y (hb : Below Y2.heap.size Y2 Y) => rChain_any _ _ b aV aX Y (HBk2.out.step hb) HS1.out)
    simp only [h1] at HC1 HC2
    simp only [h2] at HC3 HC4
    clear h1 h2 HS HBk2 HS1 hL hM HF HT
    have HCc := Lib.hid (HC1.out _ (Below.refl _ _))
    go_wp2_with fail
    (with_reducible refine HCc.out.mono ?_)
    rintro e Z1 ⟨un1, vc1, rfl, hn, hb⟩
    have hn0 := hn
    obtain ⟨v3, rfl, h3, h4⟩ := hn
    obtain ⟨A3, c3, rfl, _⟩ := h3.form
    obtain ⟨A4, c4, rfl⟩ := h4.form
    have hE := below_new (w := Z1) (.cells #[.slice A3 oA.first.length c3, .slice A4 oA.chs.length c4] 25)
    have HN1 := Lib.hid (hn0.step hE)
    have HX1 := Lib.hid (hb.trans (hE.mono hb.size))
    have HP1 := Lib.hid (fun Y h => new2 (w := Z1) (a := .slice A3 oA.first.length c3) (b := .slice A4 oA.chs.length c4) (t := 25) (Y := Y) h)
    clear k0 k1 q0 q1 q2 q3 q4 q5 x0 x1 x2 hb HCc HC1 hE hn0 h3 h4
    obtain ⟨⟨⟨k0, k1⟩, q0, q1, q2, q3, q4, q5⟩, x0, x1, x2⟩ := HCs.out _ (HB2.out.trans (HX1.out.mono HB2.out.size))
    have HCc := Lib.hid (HC2.out _ HX1.out)
    go_wp2_with fail
    obtain ⟨Q1, hQ1⟩ : ∃ Q, Z1.alloc (.cells #[.slice A3 oA.first.length c3, .slice A4 oA.chs.length c4] 25) = Q := ⟨_, rfl⟩
    rw [hQ1] at HN1 HX1 HP1 HCc ⊢
    clear hQ1
    (with_reducible refine HCc.out.mono ?_)
    rintro e Z2 ⟨un2, vc2, rfl, hn, hb⟩
    have hn0 := hn
    obtain ⟨v5, rfl, h5, h6⟩ := hn
    obtain ⟨A5, c5, rfl, _⟩ := h5.form
    obtain ⟨A6, c6, rfl⟩ := h6.form
    have hE := below_new (w := Z2) (.cells #[.slice A5 oA.first.length c5, .slice A6 oA.chs.length c6] 25)
    have HN2 := Lib.hid (hn0.step hE)
    have HN1 := Lib.hid ((HN1.out.step hb).step hE)
    have hX2 := hb.trans (hE.mono hb.size)
    have HX2 := Lib.hid (HX1.out.trans (hX2.mono HX1.out.size))
    have HP1 := Lib.hid (fun Y h => HP1.out Y (hX2.trans (Below.mono h hX2.size)))
    have HP2 := Lib.hid (fun Y h => new2 (w := Z2) (a := .slice A5 oA.first.length c5) (b := .slice A6 oA.chs.length c6) (t := 25) (Y := Y) h)
    clear k0 k1 q0 q1 q2 q3 q4 q5 x0 x1 x2 hb HCc HC2 hE hn0 h5 h6 hX2
    obtain ⟨⟨⟨k0, k1⟩, q0, q1, q2, q3, q4, q5⟩, x0, x1, x2⟩ := HCs.out _ (HB2.out.trans (HX2.out.mono HB2.out.size))
    have HCc := Lib.hid (HC3.out _ HX2.out)
    go_wp2_with fail
    obtain ⟨Q2, hQ2⟩ : ∃ Q, Z2.alloc (.cells #[.slice A5 oA.first.length c5, .slice A6 oA.chs.length c6] 25) = Q := ⟨_, rfl⟩
    rw [hQ2] at HN1 HN2 HX2 HP1 HP2 HCc ⊢
    clear hQ2
    (with_reducible refine HCc.out.mono ?_)
    rintro e Z3 ⟨⟨un3, rfl, hn⟩, hb⟩
    obtain ⟨An3, cn3, rfl, _⟩ := hn.form
    have HN3 := Lib.hid hn
    clear hn
    have HX3 := Lib.hid (HX2.out.trans (hb.mono HX2.out.size))
    have HG3 := Lib.hid hb
    clear k0 k1 q0 q1 q2 q3 q4 q5 x0 x1 x2 hb HCc HC3
    obtain ⟨⟨⟨k0, k1⟩, q0, q1, q2, q3, q4, q5⟩, x0, x1, x2⟩ := HCs.out Z3 (HB2.out.trans (HX3.out.mono HB2.out.size))
    have HCc := Lib.hid (HC4.out _ HX3.out)
    go_wp2_with fail
    (with_reducible refine HCc.out.mono ?_)
    rintro e Z4 ⟨⟨un4, rfl, hn⟩, hb⟩
    obtain ⟨An4, cn4, rfl, _⟩ := hn.form
    have HN4 := Lib.hid hn
    clear hn
    have HX4 := Lib.hid (HX3.out.trans (hb.mono HX3.out.size))
    have HG4 := Lib.hid (HG3.out.trans (hb.mono HG3.out.size))
    have HN3 := Lib.hid (HN3.out.step hb)
    clear k0 k1 q0 q1 q2 q3 q4 q5 x0 x1 x2 hb HCc HC4
    obtain ⟨k0, k1⟩ := HP1.out Z4 HG4.out
    obtain ⟨q0, q1⟩ := HP2.out Z4 HG4.out
    have HSb := Lib.hid (SameBook_same _ _ _ _ oA Z4 (HN1.out.step HG4.out) (HN2.out.step HG4.out) HAs.out)
    have HBe := Lib.hid (HB0.out.trans ((HB2.out.trans (HX4.out.mono HB2.out.size)).mono HB0.out.size))
    go_wp2_with fail
    (with_reducible refine HSb.out.mono ?_)
    rintro e Z5 ⟨rfl, hb⟩
    have HBf := Lib.hid (HBe.out.trans (hb.mono HBe.out.size))
    have HSj := Lib.hid (SameInts_any _ _ oC oC _ (HN3.out.step hb) (HN4.out.step hb) HCl.out HCl.out)
    rw [decide_eq_true rfl] at HSj
    clear hb k0 k1 q0 q1
    go_wp2_with fail
    (with_reducible refine HSj.out.mono ?_)
    rintro e Z6 ⟨rfl, hb⟩
    have HBg := Lib.hid (HBf.out.trans (hb.mono HBf.out.size))
    clear hb
    go_wp2_with fail
    go_ret
    exact ⟨by simp, HBg.out⟩
end Go.Proofs.Ytplpogonkfnafaa
