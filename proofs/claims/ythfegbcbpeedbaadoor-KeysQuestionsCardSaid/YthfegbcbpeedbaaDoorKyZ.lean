/- The reference: Row. -/
import Derived.Test.YthfegbcbpeedbaaDoorKyW
namespace Go.Proofs.YthfegbcbpeedbaaDoor
open Go.RowKit Go.Nm Go.Ky

set_option maxRecDepth 100000 in
set_option maxHeartbeats 8000000 in
theorem rFits_any (v u : Value) (m : Mx) (name : Int) (l : List Int) (w : World) (hv : MxV w v m) (hs : MSm m) (hu : InSl w w.heap.size u l) (hl : l.length ≤ 1000000) :
    Calls Tryd.prog 27 #[v, .int .i64 name, u] w fun e w' => e = .returned (.tuple #[.bool (fitB m name l), .int .i64 (fitE m name l)]) ∧ Below w.heap.size w w' := by
  obtain ⟨A1, c1, A2, c2, W0, rfl, hW0, hb0, hM, hS, hR, hX⟩ := mx_box hv
  have HB0 := Lib.hid hb0
  have HW0 := Lib.hid hW0
  have HX := Lib.hid hX
  have hu0 := hu.step hb0
  have HU := Lib.hid hu0
  have HRr := Lib.hid (hR W0 (Below.refl _ _))
  obtain ⟨Au, cu, rfl, _⟩ := hu0.form
  have HC := Lib.hid (rseenError_any _ _ m l W0 (hM W0 (Below.refl _ _)) hs hu0 hl)
  have HAt := Lib.hid (fun Y (h : Below W0.heap.size W0 Y) => rat_any _ m name Y (hM Y h) hs)
  obtain ⟨k0, k1⟩ := hX W0 (Below.refl _ _)
  obtain ⟨er, hr⟩ : ∃ r, seenE m [l] = r := ⟨_, rfl⟩
  have HE := Lib.hid (show er = 0 ∨ er = 30 ∨ er = 32 from by rw [← hr]; exact seen_cases m [l])
  have HO := Lib.hid (show fitE m name l = (if er = 0 then rowE m name else er) ∧ fitB m name l = (if er = 0 ∧ rowE m name = 0 then fitsF (rowF m name).may l else false) from ⟨by unfold fitE; rw [hr], by unfold fitB; rw [hr]⟩)
  have HG := Lib.hid (show er = 0 → mxF m = true ∧ setsF m.st l = true from fun h => seen_ok (by rw [hr]; exact h))
  have HLl := Lib.hid hl
  have HRo := Lib.hid (fun h : mxF m = true => (show rowE m name = (if (rowO m name).isSome = true then 0 else 1) ∧ rowF m name = (rowO m name).getD ⟨0, []⟩ from ⟨by unfold rowE; rw [if_pos h], by unfold rowF; rw [if_pos h]⟩))
  have HMl := Lib.hid (fun (h : mxF m = true ∧ setsF m.st l = true) (r : Rw) (hr : r ∈ m.rows) => (show l.length = r.may.length from by rw [mx_may h.1 hr]; exact sets_len h.2))
  rw [hr] at HC
  rw [HO.out.1, HO.out.2]
  obtain ⟨rf, hrf⟩ : ∃ rf, rowF m name = rf := ⟨_, rfl⟩
  obtain ⟨re, hre⟩ : ∃ re, rowE m name = re := ⟨_, rfl⟩
  obtain ⟨ro, hro⟩ : ∃ ro, rowO m name = ro := ⟨_, rfl⟩
  rw [hrf, hre, hro] at HRo
  rw [hrf, hre]
  rw [hro] at HAt
  obtain ⟨n, hn⟩ : ∃ n, l.length = n := ⟨_, rfl⟩
  rw [hn] at HC HU HMl ⊢
  have HNn := Lib.hid hn
  generalize m.st.length = ns at *
  obtain ⟨nr, hnr⟩ : ∃ n, m.rows.length = n := ⟨_, rfl⟩
  rw [hnr] at HC HW0 HX HAt HRr k1 ⊢
  clear hv hu hu0 hW0 hb0 hM hS hR hX hl hr hs HO hn hnr hrf hre hro
  go_enter Tryd.func27, Tryd.ntmps27
  go_wp2_with fail
  rw [HW0.out]
  (try go_wp2_with fail)
  (with_reducible refine HC.out.mono ?_)
  rintro e w1 ⟨rfl, hb⟩
  have HB2 := Lib.hid hb
  clear hb k0 k1 HC
  rcases HE.out with rfl | rfl | rfl
  · obtain ⟨k0, k1⟩ := HX.out w1 HB2.out
    have HG1 := Lib.hid (HG.out rfl)
    have HA1 := Lib.hid (HAt.out w1 HB2.out)
    have HRo1 := Lib.hid (HRo.out HG1.out.1)
    have HMl1 := Lib.hid (HMl.out HG1.out)
    clear HRo HG HE HAt HMl
    go_wp2_with fail
    (with_reducible refine HA1.out.mono ?_)
    rintro e w2 ⟨hcase, hb⟩
    have HB3 := Lib.hid (HB2.out.trans (hb.mono HB2.out.size))
    clear hb k0 k1 HA1
    rcases hcase with ⟨i, r, rfl, hri, hin, rfl⟩ | ⟨rfl, rfl⟩
    · obtain ⟨r', ad, Am, cm, hr', rfl, hY⟩ := HRr.out.at_ hin
      rw [hri] at hr'; injection hr' with hr'; subst hr'
      have HF := Lib.hid (show re = 0 ∧ rf = r from HRo1.out)
      have HMe := Lib.hid (rmeet_any _ _ r.may l w2 (hY w2 HB3.out).2 (HU.out.step HB3.out) (HNn.out.trans (HMl1.out r (List.mem_of_getElem? hri))) (by have := HMl1.out r (List.mem_of_getElem? hri); have := HNn.out; have := HLl.out; omega))
      obtain ⟨d0, d1⟩ := (hY w2 HB3.out).1
      obtain ⟨k0, k1⟩ := HX.out w2 HB3.out
      clear hY hri
      go_wp2_with fail
      (with_reducible refine HMe.out.mono ?_)
      rintro e w3 ⟨rfl, hb⟩
      have HB4 := Lib.hid (HB3.out.trans (hb.mono HB3.out.size))
      clear hb k0 k1 d0 d1 HMe
      go_wp2_with fail
      go_ret2
      exact ⟨by rw [HF.out.1, HF.out.2]; simp, HB0.out.trans (HB4.out.mono HB0.out.size)⟩
    · have HF := Lib.hid (show re = 1 ∧ rf = ⟨0, []⟩ from HRo1.out)
      go_wp2_with fail
      go_ret2
      exact ⟨by rw [HF.out.1, HF.out.2]; simp, HB0.out.trans (HB3.out.mono HB0.out.size)⟩
  · go_wp2_with fail
    go_ret2
    exact ⟨by simp, HB0.out.trans (HB2.out.mono HB0.out.size)⟩
  · go_wp2_with fail
    go_ret2
    exact ⟨by simp, HB0.out.trans (HB2.out.mono HB0.out.size)⟩
end Go.Proofs.YthfegbcbpeedbaaDoor
namespace Go.Proofs.YthfegbcbpeedbaaDoor
open Go.RowKit Go.Nm Go.Ky

set_option maxRecDepth 100000 in
set_option maxHeartbeats 8000000 in
theorem rRow_any (v : Value) (m : Mx) (name : Int) (w : World) (hv : MxV w v m) (hs : MSm m) :
    Calls Tryd.prog 20 #[v, .int .i64 name] w fun e w' => (∃ rv, e = .returned (.tuple #[.agg #[.int .i64 (rowF m name).nm, rv], .int .i64 (rowE m name)]) ∧ Fr w.heap.size w' rv (rowF m name).may) ∧ Below w.heap.size w w' := by
  obtain ⟨A1, c1, A2, c2, W0, rfl, hW0, hb0, hM, hS, hR, hX⟩ := mx_box hv
  have hz : W0.heap.size = w.heap.size + 1 := by rw [← hW0]; simp
  have hbb := below_new (w := W0) (.cells #[.int .i64 0, .slice none 0 0] 35)
  have hnb := World.alloc_heap_new W0 (.cells #[.int .i64 0, .slice none 0 0] 35)
  obtain ⟨W1, hW1⟩ : ∃ W1, W0.alloc (.cells #[.int .i64 0, .slice none 0 0] 35) = W1 := ⟨_, rfl⟩
  rw [hW1] at hbb hnb
  rw [hz] at hnb
  have HB1 := Lib.hid hbb
  have HW := Lib.hid (And.intro hW0 hW1)
  have HB0 := Lib.hid hb0
  have HX := Lib.hid (fun Y (h : Below W1.heap.size W1 Y) => And.intro (hX Y (hbb.trans (h.mono hbb.size))) ((h.block _ (Array.getElem?_eq_some_iff.1 hnb).1).trans hnb))
  have HC := Lib.hid (rCheckMatrix_any _ m W1 (hM W1 hbb) hs)
  have HAt := Lib.hid (fun Y (h : Below W1.heap.size W1 Y) => rat_any _ m name Y (hM Y (hbb.trans (h.mono hbb.size))) hs)
  have HRr := Lib.hid (hR W1 hbb)
  have HM3 := Lib.hid hs.2.2
  obtain ⟨⟨k0, k1⟩, hr⟩ := HX.out W1 (Below.refl _ _)
  have hW2 : w.heap.size + 2 ≤ W1.heap.size := by rw [← hW1]; simp [hz]
  generalize m.st.length = ns at *
  obtain ⟨nr, hnr⟩ : ∃ n, m.rows.length = n := ⟨_, rfl⟩
  rw [hnr] at HC HW HX HAt HRr k1 ⊢
  clear hv hs hW0 hb0 hM hS hR hX hbb hnb hW1 hz hr hnr
  cases hm : mxF m with
  | false =>
    have HF := Lib.hid (show cmE m = 30 ∧ rowE m name = 30 ∧ rowF m name = ⟨0, []⟩ from ⟨by unfold cmE; simp [hm], by unfold rowE; simp [hm], by unfold rowF; simp [hm]⟩)
    rw [HF.out.1] at HC
    rw [HF.out.2.1, HF.out.2.2]
    clear hm HF HAt
    go_enter Tryd.func20, Tryd.ntmps20
    go_wp2_with fail
    rw [HW.out.1, HW.out.2]
    (try go_wp2_with fail)
    (with_reducible refine HC.out.mono ?_)
    rintro e w1 ⟨rfl, hb⟩
    have HB2 := Lib.hid (HB0.out.trans ((HB1.out.trans (hb.mono HB1.out.size)).mono HB0.out.size))
    obtain ⟨_, hr⟩ := HX.out w1 hb
    obtain ⟨r0, r1⟩ := cells_two hr
    have f0 := frozen_cells hr 0
    have f1 := frozen_cells hr 1
    clear hb hr k0 k1
    go_wp2_with fail
    exact bodyPost_ret (v := .tuple #[.agg #[.int .i64 0, .slice none 0 0], .int .i64 30]) (by simp [results, Tryd.results20, go_sem, r0, r1]) rfl ⟨⟨_, rfl, Fr.nil _ _⟩, (HB2.out.setCell (by simp) _).setCell (by simp) _⟩
  | true =>
    have HF := Lib.hid (show cmE m = 0 ∧ rowE m name = (if (rowO m name).isSome = true then 0 else 1) ∧ rowF m name = (rowO m name).getD ⟨0, []⟩ from ⟨by unfold cmE; simp [hm], by unfold rowE; simp [hm], by unfold rowF; simp [hm]⟩)
    rw [HF.out.1] at HC
    rw [HF.out.2.1, HF.out.2.2]
    have HO := Lib.hid (show ∀ r, rowO m name = some r → r.nm = name from fun r h => by have := List.find?_some h; simpa using this)
    obtain ⟨ro, hro⟩ : ∃ ro, rowO m name = ro := ⟨_, rfl⟩
    rw [hro] at HO HAt ⊢
    clear hm HF hro
    go_enter Tryd.func20, Tryd.ntmps20
    go_wp2_with fail
    rw [HW.out.1, HW.out.2]
    (try go_wp2_with fail)
    (with_reducible refine HC.out.mono ?_)
    rintro e w1 ⟨rfl, hb⟩
    have HB2 := Lib.hid hb
    have HA1 := Lib.hid (HAt.out w1 hb)
    clear hb k0 k1 HC HAt
    obtain ⟨⟨k0, k1⟩, _⟩ := HX.out w1 HB2.out
    go_wp2_with fail
    (with_reducible refine HA1.out.mono ?_)
    rintro e w2 ⟨hcase, hb⟩
    have HB3 := Lib.hid (HB2.out.trans (hb.mono HB2.out.size))
    clear hb k0 k1 HA1
    rcases hcase with ⟨i, r, rfl, hri, hin, rfl⟩ | ⟨rfl, rfl⟩
    · obtain ⟨r', ad, Am, cm, hr', rfl, hY⟩ := HRr.out.at_ hin
      rw [hri] at hr'; injection hr' with hr'; subst hr'
      have HN := Lib.hid (And.intro (HO.out r rfl) (HM3.out r (List.mem_of_getElem? hri)))
      have HY := Lib.hid hY
      have HL0 := Lib.hid (OwN.lit w2)
      have HB4 := Lib.hid (HB3.out.trans (HL0.out.bel.mono HB3.out.size))
      obtain ⟨d0, d1⟩ := (hY _ HB4.out).1
      obtain ⟨⟨k0, k1⟩, hr⟩ := HX.out _ HB4.out
      have HIm := Lib.hid ((hY _ HB4.out).2)
      have HLe := Lib.hid (show ([] : List Int).length + r.may.length ≤ 3000000 from by have := HM3.out r (List.mem_of_getElem? hri); simp; omega)
      have hw2 : w.heap.size + 2 ≤ w2.heap.size := by have := HB3.out.size; omega
      clear hY hri hr
      go_wp2_with (at_builtin; refine wpList_appN rfl _ _ rfl HL0.out rfl rfl HIm.out HLe.out ?_; intro v6 w6 hI6 hg6; obtain ⟨A6, n6, c6, e6⟩ := hI6.slice; subst e6; have HI6 := Lib.hid hI6; have HW6 := Lib.hid (HX.out w6 (HB3.out.trans (hI6.bel.mono HB3.out.size))).2; have f0 := frozen_cells HW6.out 0; have f1 := frozen_cells HW6.out 1; obtain ⟨r0, r1⟩ := cells_two HW6.out; clear hI6 hg6)
      have hst0 := setCell_grown' w6 (w.heap.size + 1) 0 (.int .i64 name)
      have hst1 := setCell_grown' (w6.setCell ⟨w.heap.size + 1, 0, none⟩ (.int .i64 name)) (w.heap.size + 1) 1 (.slice A6 n6 c6)
      have hfr : ∀ {u : Value} {M : List Int} {vv : Value} {k : Nat} {Z : World}, Fr w2.heap.size Z u M → Fr w2.heap.size (Z.setCell ⟨w.heap.size + 1, k, none⟩ vv) u M := fun {u M vv k Z} h => by
        have hst := setCell_grown' Z (w.heap.size + 1) k vv
        exact ⟨(h.1.keepOwn (w' := Z.setCell ⟨w.heap.size + 1, k, none⟩ vv) fun p hp => by
          have := h.2 _ hp
          exact World.cell?_of_block (hst.block _ this.2 fun e => by injection e with e; omega)).mono hst.size, fun g e => ⟨(h.2 g e).1, Nat.lt_of_lt_of_le (h.2 g e).2 hst.size⟩⟩
      have HFr := Lib.hid ((hfr (k := 1) (vv := .slice A6 n6 c6) (hfr (k := 0) (vv := .int .i64 name) HI6.out.fr)).low (show w.heap.size ≤ w2.heap.size by omega))
      have HBf := Lib.hid (HB0.out.trans ((HB1.out.trans ((HB3.out.trans (HI6.out.bel.mono HB3.out.size)).mono HB1.out.size)).mono HB0.out.size))
      exact bodyPost_ret (v := .tuple #[.agg #[.int .i64 name, .slice A6 n6 c6], .int .i64 0]) (by simp [results, Tryd.results20, go_sem, r0, r1]) rfl ⟨⟨_, by rw [HN.out.1], by simpa using HFr.out⟩, (HBf.out.setCell (by simp) _).setCell (by simp) _⟩
    · have HB4 := Lib.hid (HB0.out.trans ((HB1.out.trans (HB3.out.mono HB1.out.size)).mono HB0.out.size))
      obtain ⟨_, hr⟩ := HX.out _ HB3.out
      obtain ⟨r0, r1⟩ := cells_two hr
      have f0 := frozen_cells hr 0
      have f1 := frozen_cells hr 1
      clear hr
      go_wp2_with fail
      exact bodyPost_ret (v := .tuple #[.agg #[.int .i64 0, .slice none 0 0], .int .i64 1]) (by simp [results, Tryd.results20, go_sem, r0, r1]) rfl ⟨⟨_, rfl, Fr.nil _ _⟩, (HB4.out.setCell (by simp) _).setCell (by simp) _⟩
end Go.Proofs.YthfegbcbpeedbaaDoor
