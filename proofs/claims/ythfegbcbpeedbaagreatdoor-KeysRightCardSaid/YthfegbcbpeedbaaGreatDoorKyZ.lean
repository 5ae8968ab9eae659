
/- The reference: Row. -/
import Derived.Test.YthfegbcbpeedbaaGreatDoorKyQ
namespace Go.Proofs.YthfegbcbpeedbaaGreatDoor
open Go.RowKit Go.Nm Go.Ky

end Go.Proofs.YthfegbcbpeedbaaGreatDoor
namespace Go.Proofs.YthfegbcbpeedbaaGreatDoor
open Go.RowKit Go.Nm Go.Ky

set_option maxRecDepth 100000 in
set_option maxHeartbeats 4000000 in
theorem rsets_any (u v : Value) (st l : List Int) (w : World) (hu : InSl w w.heap.size u st) (hv : InSl w w.heap.size v l) (hc : ∀ q ∈ st, 2 ≤ q ∧ q ≤ 16) (hn : st.length ≤ 1000000) (hm : l.length ≤ 1000000) :
    Calls Tryz.prog 90 #[u, v] w fun e w' => e = .returned (.bool (setsF st l)) ∧ Below w.heap.size w w' := by
  obtain ⟨A, c, rfl, _⟩ := hu.form
  obtain ⟨B, d, rfl, _⟩ := hv.form
  have HA := Lib.hid (show InA w w.heap.size A st from by obtain ⟨_, _, e, _, _, h⟩ := hu; cases e; exact h)
  have HB := Lib.hid (show InA w w.heap.size B l from by obtain ⟨_, _, e, _, _, h⟩ := hv; cases e; exact h)
  have HC := Lib.hid hc
  obtain ⟨n, h⟩ : ∃ n, st.length = n := ⟨_, rfl⟩
  obtain ⟨nl, h2⟩ : ∃ n, l.length = n := ⟨_, rfl⟩
  obtain ⟨r, hr⟩ : ∃ r, setsF st l = r := ⟨_, rfl⟩
  have HR := Lib.hid (show r = (decide (nl = n) && (st.zip l).all fun p => decide (1 ≤ p.2 ∧ p.2 ≤ full p.1)) from by rw [← hr]; unfold setsF; rw [h, h2])
  have HN := Lib.hid (And.intro h h2)
  rw [hr]
  rw [h] at hn ⊢
  rw [h2] at hm ⊢
  clear hu hv h h2 hr hc
  by_cases hq : nl = n
  case neg =>
    have hq2 : ((nl : Int) != (n : Int)) = true := by simp; omega
    have HF := Lib.hid (show r = false from by rw [HR.out, decide_eq_false hq, Bool.false_and])
    clear hq
    go_enter Tryz.func90, Tryz.ntmps90
    go_wp2_with fail
    go_ret
    exact ⟨ret_b HF.out.symm, Below.refl _ _⟩
  case pos =>
  subst hq
  have hq2 : ((nl : Int) != (nl : Int)) = false := by simp
  have HT0 := Lib.hid (show r = (st.zip l).all fun p => decide (1 ≤ p.2 ∧ p.2 ≤ full p.1) from by rw [HR.out]; simp)
  have HZl := Lib.hid (show (st.zip l).length = nl from by rw [List.length_zip, HN.out.1, HN.out.2]; omega)
  clear HR
  go_enter Tryz.func90, Tryz.ntmps90
  go_wp2_with fail
  go_loopw [5] (fun iv wr => ∃ i : Nat, iv = .int .i64 (i : Int) ∧ i ≤ nl ∧ Below w.heap.size w wr ∧ (((st.zip l).take i).all fun p => decide (1 ≤ p.2 ∧ p.2 ≤ full p.1)) = true) (fun iv _ => nl - (intOf iv).toNat)
  case atStart => exact ⟨0, rfl, by omega, Below.refl _ _, rfl⟩
  case round =>
    obtain ⟨i, rfl, hin, hb, hg⟩ := hrel
    have HBl := Lib.hid hb
    have HG := Lib.hid hg
    clear hb hg
    by_cases hlt : i < nl
    · obtain ⟨q, ad, hx, rfl, _, hcx⟩ := (HA.out.below HBl.out).at_ HN.out.1 hlt
      obtain ⟨y, bd, hy, rfl, _, hcy⟩ := (HB.out.below HBl.out).at_ HN.out.2 hlt
      have HQ := Lib.hid (zip_get hx hy)
      obtain ⟨hq3, hq4⟩ := HC.out q (List.mem_of_getElem? hx)
      obtain ⟨k, rfl⟩ : ∃ k : Nat, q = (k : Int) := ⟨q.toNat, by omega⟩
      obtain ⟨p1, p2⟩ := pow16 (k := k) (by omega)
      have HP := Lib.hid (show IntKind.i64.wrap (2 ^ k) = ((2 ^ k : Nat) : Int) from by rw [show ((2 : Int) ^ k) = ((2 ^ k : Nat) : Int) from by simp, IntKind.wrap_i64]; omega)
      have HFu := Lib.hid (full_nat k)
      obtain ⟨mm, hmm⟩ : ∃ mm, 2 ^ k = mm := ⟨_, rfl⟩
      have hw := HP.out
      rw [hmm] at hw p1 p2 HFu
      obtain ⟨fu, hfu⟩ : ∃ fu, (mm : Int) - 1 = fu := ⟨_, rfl⟩
      have hwm : IntKind.i64.wrap ((mm : Int) - 1) = fu := by rw [IntKind.wrap_i64]; omega
      rw [hfu] at HFu
      have hW := rwithin_any y 1 fu
      have ss := fun z => And.intro (Wb.cell hcx z) (Wb.cell hcy z)
      clear hx hy HP hmm hfu
      by_cases h1 : 1 ≤ y ∧ y ≤ fu
      · simp only [decide_eq_true h1] at hW
        have HW := Lib.hid hW
        clear hW
        have HT := Lib.hid (show (((st.zip l).take (i + 1)).all fun p => decide (1 ≤ p.2 ∧ p.2 ≤ full p.1)) = true from by rw [all_take HQ.out, HG.out]; exact decide_eq_true (by simp only [HFu.out]; exact h1))
        clear h1
        go_wp2_with fail
        refine wp_region_wb (by kernel_rfl) (by kernel_rfl) ?_; (repeat ((with_reducible refine wpQuiet_step ?_); intro K hK; go_simp; (try (refine ite_neg_of (by simp [undef]) ?_)); first | (with_reducible refine hK _ ?_; clear hK K) | (apply Exists.intro; (with_reducible refine ⟨fun _ => ?_, hK _ ?_⟩); ((go_at_call 63; exact Calls.wb (HW.out _))); clear hK K))); (with_reducible refine wpQuiet_nil ?_); rintro w1 ⟨⟨_, hb1⟩, rfl⟩; (try dsimp only)
        go_wp2_with fail
        have HB2 := Lib.hid (HBl.out.trans (hb1.mono HBl.out.size))
        clear hb1 ss
        go_roundw
        case rel => exact ⟨i + 1, by go_num, by omega, HB2.out, HT.out⟩
        case measure => simp [intOf]; omega
      · simp only [decide_eq_false h1] at hW
        have HW := Lib.hid hW
        clear hW
        have HF := Lib.hid (show r = false from by rw [HT0.out]; exact all_false HQ.out (decide_eq_false (by simp only [HFu.out]; exact h1)))
        clear h1
        go_wp2_with fail
        refine wp_region_wb (by kernel_rfl) (by kernel_rfl) ?_; (repeat ((with_reducible refine wpQuiet_step ?_); intro K hK; go_simp; (try (refine ite_neg_of (by simp [undef]) ?_)); first | (with_reducible refine hK _ ?_; clear hK K) | (apply Exists.intro; (with_reducible refine ⟨fun _ => ?_, hK _ ?_⟩); ((go_at_call 63; exact Calls.wb (HW.out _))); clear hK K))); (with_reducible refine wpQuiet_nil ?_); rintro w1 ⟨⟨_, hb1⟩, rfl⟩; (try dsimp only)
        go_wp2_with fail
        go_ret
        exact ⟨ret_b HF.out.symm, HBl.out.trans (hb1.mono HBl.out.size)⟩
    · obtain rfl : nl = i := by omega
      have HF := Lib.hid (show r = true from by rw [HT0.out]; exact all_end HZl.out HG.out)
      go_wp2_with fail
      go_ret
      exact ⟨ret_b HF.out.symm, HBl.out⟩
end Go.Proofs.YthfegbcbpeedbaaGreatDoor
namespace Go.Proofs.YthfegbcbpeedbaaGreatDoor
open Go.RowKit Go.Nm Go.Ky

end Go.Proofs.YthfegbcbpeedbaaGreatDoor
namespace Go.Proofs.YthfegbcbpeedbaaGreatDoor
open Go.RowKit Go.Nm Go.Ky

set_option maxRecDepth 100000 in
set_option maxHeartbeats 8000000 in
theorem rCheckMatrix_any (v : Value) (m : Mx) (w : World) (hv : MxV w v m) (hs : MSm m) :
    Calls Tryz.prog 62 #[v] w fun e w' => e = .returned (.int .i64 (cmE m)) ∧ Below w.heap.size w w' := by
  obtain ⟨A1, c1, A2, c2, W0, rfl, hW0, hb0, hM, hS, hR, hX⟩ := mx_box hv
  have HB0 := Lib.hid hb0
  have HW0 := Lib.hid hW0
  have HX := Lib.hid hX
  have HSl := Lib.hid hS
  have HU := Lib.hid (hR W0 (Below.refl _ _))
  have HSm := Lib.hid hs
  obtain ⟨k0, k1⟩ := hX W0 (Below.refl _ _)
  obtain ⟨ns, hns⟩ : ∃ n, m.st.length = n := ⟨_, rfl⟩
  obtain ⟨n, hn⟩ : ∃ n, m.rows.length = n := ⟨_, rfl⟩
  have HN := Lib.hid (And.intro hns hn)
  have hn1 : n ≤ 1000 := by have := hs.2.1; omega
  have hns1 : ns ≤ 1000 := by have := hs.1; omega
  have HE := Lib.hid (show cmE m = if (chrF m.st && rowsF m) = true then 0 else 30 from rfl)
  have HCh := Lib.hid (show chrF m.st = (decide (0 < ns ∧ ns ≤ 64) && m.st.all fun n => decide (2 ≤ n ∧ n ≤ 16)) from by unfold chrF; rw [hns])
  have HRo := Lib.hid (show rowsF m = (decide (n ≤ 400) && (decide (Nms (m.rows.map (·.nm))) && m.rows.all fun r => setsF m.st r.may)) from by unfold rowsF; rw [hn])
  obtain ⟨er, her⟩ : ∃ er, cmE m = er := ⟨_, rfl⟩
  rw [her] at HE ⊢
  rw [hns, hn] at HX HW0
  rw [hns] at HSl k0 ⊢
  rw [hn] at HU k1 ⊢
  have HWn := Lib.hid (rwithin_any (ns : Int) 1 64)
  clear hv hs hW0 hb0 hM hS hR hX hns hn her
  by_cases hA : 0 < ns ∧ ns ≤ 64
  case neg =>
    have HF := Lib.hid (show er = 30 from by rw [HE.out, HCh.out, decide_eq_false hA]; simp)
    have hd : decide ((1 : Int) ≤ (ns : Int) ∧ (ns : Int) ≤ 64) = false := decide_eq_false (by omega)
    have HW1 := Lib.hid (HWn.out W0)
    rw [hd] at HW1
    clear hA hd HWn
    go_enter Tryz.func62, Tryz.ntmps62
    go_wp2_with fail
    rw [HW0.out]
    (try go_wp2_with fail)
    (with_reducible refine HW1.out.mono ?_)
    rintro e w1 ⟨rfl, hb⟩
    have HB1 := Lib.hid (HB0.out.trans (hb.mono HB0.out.size))
    clear hb
    go_wp2_with fail
    go_ret
    exact ⟨by rw [HF.out]; rfl, HB1.out⟩
  case pos =>
  have hd : decide ((1 : Int) ≤ (ns : Int) ∧ (ns : Int) ≤ 64) = true := decide_eq_true (by omega)
  have HW1 := Lib.hid (HWn.out W0)
  rw [hd] at HW1
  have HT1 := Lib.hid (show chrF m.st = (m.st.all fun n => decide (2 ≤ n ∧ n ≤ 16)) from by rw [HCh.out, decide_eq_true hA]; simp)
  clear hA hd HWn HCh
  by_cases hB : 400 < n
  · have hBi : (400 : Int) < (n : Int) := by omega
    have HF := Lib.hid (show er = 30 from by rw [HE.out, HRo.out, decide_eq_false (by omega)]; simp)
    clear hB
    go_enter Tryz.func62, Tryz.ntmps62
    go_wp2_with fail
    rw [HW0.out]
    (try go_wp2_with fail)
    (with_reducible refine HW1.out.mono ?_)
    rintro e w1 ⟨rfl, hb⟩
    have HB1 := Lib.hid (HB0.out.trans (hb.mono HB0.out.size))
    have HBl := Lib.hid hb
    clear hb k0 k1
    obtain ⟨k0, k1⟩ := HX.out w1 HBl.out
    go_wp2_with fail
    go_ret
    exact ⟨by rw [HF.out]; rfl, HB1.out⟩
  have hBi : ¬ (400 : Int) < (n : Int) := by omega
  have HT2 := Lib.hid (show rowsF m = (decide (Nms (m.rows.map (·.nm))) && m.rows.all fun r => setsF m.st r.may) from by rw [HRo.out, decide_eq_true (by omega)]; simp)
  clear hB HRo
  go_enter Tryz.func62, Tryz.ntmps62
  go_wp2_with fail
  rw [HW0.out]
  (try go_wp2_with fail)
  (with_reducible refine HW1.out.mono ?_)
  rintro e w1 ⟨rfl, hb⟩
  have HBl := Lib.hid hb
  clear hb k0 k1 HW1
  obtain ⟨k0, k1⟩ := HX.out w1 HBl.out
  go_wp2_with fail
  clear k0 k1
  go_loopw [3] (fun iv wr => ∃ i : Nat, iv = .int .i64 (i : Int) ∧ i ≤ ns ∧ Below W0.heap.size W0 wr ∧ ((m.st.take i).all fun n => decide (2 ≤ n ∧ n ≤ 16)) = true) (fun iv _ => ns - (intOf iv).toNat)
  case atStart => exact ⟨0, rfl, by omega, HBl.out, rfl⟩
  case round =>
    obtain ⟨i, rfl, hin, hb, hg⟩ := hrel
    have HB := Lib.hid hb
    have HG := Lib.hid hg
    clear hb hg
    obtain ⟨k0, k1⟩ := HX.out wr HB.out
    by_cases hlt : i < ns
    · have HA := Lib.hid (show InA wr wr.heap.size A1 m.st from by obtain ⟨_, _, e, _, _, h⟩ := HSl.out wr HB.out; cases e; exact h)
      obtain ⟨q, ad, hq, rfl, _, hcq⟩ := HA.out.at_ HN.out.1 hlt
      have HQ := Lib.hid hq
      have HWq := Lib.hid (rwithin_any q 2 16 wr)
      clear hq
      cases hp : decide ((2 : Int) ≤ q ∧ q ≤ 16) with
      | false =>
        rw [hp] at HWq
        have HF := Lib.hid (show er = 30 from by rw [HE.out, HT1.out, all_false HQ.out hp]; simp)
        clear hp
        go_wp2_with fail
        (with_reducible refine HWq.out.mono ?_)
        rintro e w2 ⟨rfl, hb⟩
        have HB2 := Lib.hid (HB0.out.trans ((HB.out.trans (hb.mono HB.out.size)).mono HB0.out.size))
        clear hb k0 k1
        go_wp2_with fail
        go_ret
        exact ⟨by rw [HF.out]; rfl, HB2.out⟩
      | true =>
        rw [hp] at HWq
        have HT := Lib.hid (show ((m.st.take (i + 1)).all fun n => decide (2 ≤ n ∧ n ≤ 16)) = true from by rw [all_take HQ.out, HG.out]; exact hp)
        clear hp
        go_wp2_with fail
        (with_reducible refine HWq.out.mono ?_)
        rintro e w2 ⟨rfl, hb⟩
        have HB2 := Lib.hid (HB.out.trans (hb.mono HB.out.size))
        clear hb k0 k1
        go_wp2_with fail
        go_roundw
        case rel => exact ⟨i + 1, by go_num, by omega, HB2.out, HT.out⟩
        case measure => simp [intOf]; omega
    · obtain rfl : ns = i := by omega
      have HCt := Lib.hid (show (m.st.all fun n => decide (2 ≤ n ∧ n ≤ 16)) = true from all_end HN.out.1 HG.out)
      have HE2 := Lib.hid (show er = if rowsF m = true then 0 else 30 from by rw [HE.out, HT1.out, HCt.out]; simp)
      have HCq := Lib.hid (show ∀ q ∈ m.st, 2 ≤ q ∧ q ≤ 16 from fun q hq => of_decide_eq_true ((List.all_eq_true.1 HCt.out) q hq))
      go_wp2_with fail
      clear k0 k1
      have HBad := Lib.hid (show ¬ Nms (m.rows.map (·.nm)) → er = 30 from fun h => by rw [HE2.out, HT2.out, decide_eq_false h]; simp)
      have HBadS := Lib.hid (show ∀ (i : Nat) (r : Rw), m.rows[i]? = some r → setsF m.st r.may = false → er = 30 from fun i r hr h => by rw [HE2.out, HT2.out, all_false hr h]; simp)
      have HGd := Lib.hid (show Nms (m.rows.map (·.nm)) → (m.rows.all fun r => setsF m.st r.may) = true → er = 0 from fun h h2 => by rw [HE2.out, HT2.out, decide_eq_true h, h2]; simp)
      have HNm := Lib.hid (show ∀ (j : Nat) (r : Rw), m.rows[j]? = some r → (m.rows.map (·.nm))[j]? = some r.nm from fun j r h => by rw [List.getElem?_map, h]; rfl)
      clear HE2 HT2 HE HT1 HG HCt
      go_loopw [4] (fun iv wr => ∃ i : Nat, iv = .int .i64 (i : Int) ∧ i ≤ n ∧ Below W0.heap.size W0 wr ∧ (∀ (j : Nat) (r : Rw), j < i → m.rows[j]? = some r → 1 ≤ r.nm ∧ r.nm ≤ 65535) ∧ (∀ (j : Nat) (r t : Rw), j + 1 < i → m.rows[j]? = some r → m.rows[j + 1]? = some t → r.nm < t.nm) ∧ ((m.rows.take i).all fun r => setsF m.st r.may) = true) (fun iv _ => n - (intOf iv).toNat)
      case atStart => exact ⟨0, rfl, by omega, HB.out, fun j r h => absurd h (by omega), fun j r t h => absurd h (by omega), rfl⟩
      case round =>
        clear HB
        obtain ⟨i, rfl, hin2, hb, hg⟩ := hrel
        have HB := Lib.hid hb
        have HG := Lib.hid hg
        clear hb hg
        obtain ⟨k0, k1⟩ := HX.out _ HB.out
        by_cases hlt2 : i < n
        · obtain ⟨r, ad, Am, cm, hr, rfl, hY⟩ := HU.out.at_ hlt2
          have HY := Lib.hid hY
          have HR := Lib.hid hr
          have hz : ∀ z : Wb wr, Below W0.heap.size W0 z.v := fun z => HB.out.trans (z.h.mono HB.out.size)
          have hSe := fun z : Wb wr => rsets_any (.slice A1 ns c1) (.slice Am r.may.length cm) m.st r.may z.v (HSl.out z.v (hz z)) (HY.out z.v (hz z)).2 HCq.out (by have := HN.out.1; omega) (by have := HSm.out.2.2 r (List.mem_of_getElem? hr); omega)
          have hW := rwithin_any r.nm 1 65535
          have HZ := Lib.hid hz
          obtain ⟨d0, d1⟩ := (HY.out _ HB.out).1
          obtain ⟨b, hbs⟩ : ∃ b, setsF m.st r.may = b := ⟨_, rfl⟩
          have HBs := Lib.hid hbs
          rw [hbs] at hSe
          obtain ⟨y, hy⟩ : ∃ y, r.nm = y := ⟨_, rfl⟩
          have HYn := Lib.hid hy
          rw [hy] at hW d0
          obtain ⟨q, hq⟩ : ∃ q, r.may.length = q := ⟨_, rfl⟩
          rw [hq] at hSe d1
          have HQl := Lib.hid hq
          clear hr hY hz hbs hy hq
          by_cases hyw : 1 ≤ y ∧ y ≤ 65535
          case neg =>
            simp only [decide_eq_false hyw] at hW
            have HW := Lib.hid hW
            have HSe := Lib.hid hSe
            have HNy := Lib.hid hyw
            have ss := fun z : Wb wr => And.intro (HX.out z.v (HZ.out z)) (show z.v.cell? (ad.add (i * 2)) = some (.int .i64 y) ∧ z.v.cell? ⟨(ad.add (i * 2)).block, (ad.add (i * 2)).off + 1, none⟩ = some (.slice Am q cm) from by rw [← HYn.out, ← HQl.out]; exact (HY.out z.v (HZ.out z)).1)
            clear hW hSe hyw d0 d1
            have HF := Lib.hid (show er = 30 from HBad.out fun h => HNy.out (by have := h.2 _ (List.mem_of_getElem? (HNm.out i r HR.out)); rw [HYn.out] at this; exact this))
            go_wp2_with fail
            refine wp_region_wb (by kernel_rfl) (by kernel_rfl) ?_; (repeat ((with_reducible refine wpQuiet_step ?_); intro K hK; go_simp; (try (refine ite_neg_of (by simp [undef]) ?_)); first | (with_reducible refine hK _ ?_; clear hK K) | (apply Exists.intro; (with_reducible refine ⟨fun _ => ?_, hK _ ?_⟩); ((first | (go_at_call 63; exact Calls.wb (HW.out _)) | (go_at_call 90; exact Calls.wb (HSe.out _)))); clear hK K))); (with_reducible refine wpQuiet_nil ?_); rintro w1 ⟨⟨_, hb1⟩, rfl⟩; (try dsimp only)
            go_wp2_with fail
            go_ret
            exact ⟨by rw [HF.out]; rfl, HB0.out.trans ((HB.out.trans (hb1.mono HB.out.size)).mono HB0.out.size)⟩
          case pos =>
          simp only [decide_eq_true hyw] at hW
          have HW := Lib.hid hW
          have HWy := Lib.hid hyw
          clear hW hyw d0 d1
          by_cases h0 : i = 0
          · subst h0
            have ss := fun z : Wb wr => And.intro (HX.out z.v (HZ.out z)) (show z.v.cell? ad = some (.int .i64 y) ∧ z.v.cell? ⟨ad.block, ad.off + 1, none⟩ = some (.slice Am q cm) from by
              have h := (HY.out z.v (HZ.out z)).1
              rw [HYn.out, HQl.out] at h
              simpa [Addr.add] using h)
            cases b with
            | false =>
              have HSe := Lib.hid hSe
              clear hSe
              have HF := Lib.hid (show er = 30 from HBadS.out 0 r HR.out HBs.out)
              go_wp2_with fail
              refine wp_region_wb (by kernel_rfl) (by kernel_rfl) ?_; (repeat ((with_reducible refine wpQuiet_step ?_); intro K hK; go_simp; (try (refine ite_neg_of (by simp [undef]) ?_)); first | (with_reducible refine hK _ ?_; clear hK K) | (apply Exists.intro; (with_reducible refine ⟨fun _ => ?_, hK _ ?_⟩); ((first | (go_at_call 63; exact Calls.wb (HW.out _)) | (go_at_call 90; exact Calls.wb (HSe.out _)))); clear hK K))); (with_reducible refine wpQuiet_nil ?_); rintro w1 ⟨⟨_, hb1⟩, rfl⟩; (try dsimp only)
              go_wp2_with fail
              go_ret
              exact ⟨by rw [HF.out]; rfl, HB0.out.trans ((HB.out.trans (hb1.mono HB.out.size)).mono HB0.out.size)⟩
            | true =>
              have HSe := Lib.hid hSe
              clear hSe
              have HN3 := Lib.hid (show (∀ (j : Nat) (r : Rw), j < 0 + 1 → m.rows[j]? = some r → 1 ≤ r.nm ∧ r.nm ≤ 65535) ∧ (∀ (j : Nat) (r t : Rw), j + 1 < 0 + 1 → m.rows[j]? = some r → m.rows[j + 1]? = some t → r.nm < t.nm) ∧ ((m.rows.take (0 + 1)).all fun r => setsF m.st r.may) = true from
                ⟨fun j r' hj hr' => by
                  obtain rfl : j = 0 := by omega
                  rw [HR.out] at hr'; injection hr' with hr'; subst hr'
                  rw [HYn.out]; exact HWy.out, fun j r t h => absurd h (by omega), by rw [all_take HR.out, HG.out.2.2]; exact HBs.out⟩)
              go_wp2_with fail
              refine wp_region_wb (by kernel_rfl) (by kernel_rfl) ?_; (repeat ((with_reducible refine wpQuiet_step ?_); intro K hK; go_simp; (try (refine ite_neg_of (by simp [undef]) ?_)); first | (with_reducible refine hK _ ?_; clear hK K) | (apply Exists.intro; (with_reducible refine ⟨fun _ => ?_, hK _ ?_⟩); ((first | (go_at_call 63; exact Calls.wb (HW.out _)) | (go_at_call 90; exact Calls.wb (HSe.out _)))); clear hK K))); (with_reducible refine wpQuiet_nil ?_); rintro w1 ⟨⟨_, hb1⟩, rfl⟩; (try dsimp only)
              go_wp2_with fail
              have HB2 := Lib.hid (HB.out.trans (hb1.mono HB.out.size))
              clear hb1 ss
              go_roundw
              case rel => exact ⟨1, by go_num, by omega, HB2.out, HN3.out⟩
              case measure => simp [intOf]; omega
          · obtain ⟨k, hk⟩ : ∃ k, i - 1 = k := ⟨_, rfl⟩
            have hkn : k < n := by omega
            have hik : (i : Int) = (k : Int) + 1 := by omega
            obtain ⟨p, ad', Ap, cp, hpr, e, hYp⟩ := HU.out.at_ hkn
            injection e with e
            subst e
            have HP := Lib.hid (And.intro hpr (show k + 1 = i by omega))
            have HYp := Lib.hid hYp
            have hi0 : (0 : Int) < (i : Int) := by omega
            have hi1 : 0 < i := by omega
            have hiw : IntKind.i64.wrap ((i : Int) - 1) = (k : Int) := by rw [IntWalk.i64_in _ (by omega)]; omega
            obtain ⟨x, hx⟩ : ∃ x, p.nm = x := ⟨_, rfl⟩
            have HXn := Lib.hid hx
            clear hpr hYp hk hik hx
            have ss := fun z : Wb wr => And.intro (HX.out z.v (HZ.out z)) (And.intro (show z.v.cell? (ad.add (i * 2)) = some (.int .i64 y) ∧ z.v.cell? ⟨(ad.add (i * 2)).block, (ad.add (i * 2)).off + 1, none⟩ = some (.slice Am q cm) from by rw [← HYn.out, ← HQl.out]; exact (HY.out z.v (HZ.out z)).1) (show z.v.cell? (ad.add (k * 2)) = some (.int .i64 x) from by rw [← HXn.out]; exact (HYp.out z.v (HZ.out z)).1.1))
            by_cases hge : y ≤ x
            · have HSe := Lib.hid hSe
              have HGe := Lib.hid hge
              clear hSe
              have hBadI : ¬ Nms (m.rows.map (·.nm)) := fun h => by
                have h1 := next_of_inc h.1 (HNm.out k p HP.out.1) (by rw [HP.out.2]; exact HNm.out i r HR.out)
                rw [HXn.out, HYn.out] at h1
                have := HGe.out
                omega
              have HBi := Lib.hid hBadI
              clear hBadI
              have HF := Lib.hid (show er = 30 from HBad.out HBi.out)
              go_wp2_with fail
              refine wp_region_wb (by kernel_rfl) (by kernel_rfl) ?_; (repeat ((with_reducible refine wpQuiet_step ?_); intro K hK; go_simp; (try (refine ite_neg_of (by simp [undef]) ?_)); first | (with_reducible refine hK _ ?_; clear hK K) | (apply Exists.intro; (with_reducible refine ⟨fun _ => ?_, hK _ ?_⟩); ((first | (go_at_call 63; exact Calls.wb (HW.out _)) | (go_at_call 90; exact Calls.wb (HSe.out _)))); clear hK K))); (with_reducible refine wpQuiet_nil ?_); rintro w1 ⟨⟨_, hb1⟩, rfl⟩; (try dsimp only)
              go_wp2_with fail
              go_ret
              exact ⟨by rw [HF.out]; rfl, HB0.out.trans ((HB.out.trans (hb1.mono HB.out.size)).mono HB0.out.size)⟩
            · have HNe := Lib.hid hge
              cases b with
              | false =>
                have HSe := Lib.hid hSe
                clear hSe
                have HF := Lib.hid (show er = 30 from HBadS.out i r HR.out HBs.out)
                go_wp2_with fail
                refine wp_region_wb (by kernel_rfl) (by kernel_rfl) ?_; (repeat ((with_reducible refine wpQuiet_step ?_); intro K hK; go_simp; (try (refine ite_neg_of (by simp [undef]) ?_)); first | (with_reducible refine hK _ ?_; clear hK K) | (apply Exists.intro; (with_reducible refine ⟨fun _ => ?_, hK _ ?_⟩); ((first | (go_at_call 63; exact Calls.wb (HW.out _)) | (go_at_call 90; exact Calls.wb (HSe.out _)))); clear hK K))); (with_reducible refine wpQuiet_nil ?_); rintro w1 ⟨⟨_, hb1⟩, rfl⟩; (try dsimp only)
                go_wp2_with fail
                go_ret
                exact ⟨by rw [HF.out]; rfl, HB0.out.trans ((HB.out.trans (hb1.mono HB.out.size)).mono HB0.out.size)⟩
              | true =>
                have HSe := Lib.hid hSe
                clear hSe
                have HN3 := Lib.hid (show (∀ (j : Nat) (r : Rw), j < i + 1 → m.rows[j]? = some r → 1 ≤ r.nm ∧ r.nm ≤ 65535) ∧ (∀ (j : Nat) (r t : Rw), j + 1 < i + 1 → m.rows[j]? = some r → m.rows[j + 1]? = some t → r.nm < t.nm) ∧ ((m.rows.take (i + 1)).all fun r => setsF m.st r.may) = true from
                  ⟨fun j r' hj hr' => by
                    by_cases e : j = i
                    · subst e
                      rw [HR.out] at hr'; injection hr' with hr'; subst hr'
                      rw [HYn.out]; exact HWy.out
                    · exact HG.out.1 j r' (by omega) hr', fun j r' t h hr' ht => by
                    by_cases e : j = k
                    · subst e
                      rw [HP.out.1] at hr'; injection hr' with hr'; subst hr'
                      rw [HP.out.2, HR.out] at ht; injection ht with ht; subst ht
                      rw [HXn.out, HYn.out]; have := HNe.out; omega
                    · exact HG.out.2.1 j r' t (by have := HP.out.2; omega) hr' ht, by rw [all_take HR.out, HG.out.2.2]; exact HBs.out⟩)
                go_wp2_with fail
                refine wp_region_wb (by kernel_rfl) (by kernel_rfl) ?_; (repeat ((with_reducible refine wpQuiet_step ?_); intro K hK; go_simp; (try (refine ite_neg_of (by simp [undef]) ?_)); first | (with_reducible refine hK _ ?_; clear hK K) | (apply Exists.intro; (with_reducible refine ⟨fun _ => ?_, hK _ ?_⟩); ((first | (go_at_call 63; exact Calls.wb (HW.out _)) | (go_at_call 90; exact Calls.wb (HSe.out _)))); clear hK K))); (with_reducible refine wpQuiet_nil ?_); rintro w1 ⟨⟨_, hb1⟩, rfl⟩; (try dsimp only)
                go_wp2_with fail
                have HB2 := Lib.hid (HB.out.trans (hb1.mono HB.out.size))
                clear hb1 ss
                go_roundw
                case rel => exact ⟨i + 1, by go_num, by omega, HB2.out, HN3.out⟩
                case measure => simp [intOf]; omega
        · obtain rfl : n = i := by omega
          have hInc : Nms (m.rows.map (·.nm)) := by
            refine ⟨inc_of_next fun j x y h1 h2 => ?_, fun x hx => ?_⟩
            · rw [List.getElem?_map] at h1 h2
              cases hr : m.rows[j]? with
              | none => rw [hr] at h1; cases h1
              | some r =>
                cases ht : m.rows[j + 1]? with
                | none => rw [ht] at h2; cases h2
                | some t =>
                  rw [hr] at h1; rw [ht] at h2
                  simp only [Option.map_some, Option.some.injEq] at h1 h2
                  have := HG.out.2.1 j r t (by have := (List.getElem?_eq_some_iff.1 ht).1; have := HN.out.2; omega) hr ht
                  omega
            · obtain ⟨r, hr, rfl⟩ := List.mem_map.1 hx
              obtain ⟨j, hj, e⟩ := List.getElem_of_mem hr
              exact HG.out.1 j r (by have := HN.out.2; omega) (by rw [← e]; exact List.getElem?_eq_getElem hj)
          have HF := Lib.hid (HGd.out hInc (all_end HN.out.2 HG.out.2.2))
          clear hInc
          go_wp2_with fail
          go_ret
          exact ⟨by rw [HF.out]; rfl, HB0.out.trans (HB.out.mono HB0.out.size)⟩
end Go.Proofs.YthfegbcbpeedbaaGreatDoor
namespace Go.Proofs.YthfegbcbpeedbaaGreatDoor
open Go.RowKit Go.Nm Go.Ky

theorem OwN.slice {W X : World} {v : Value} {L : List Int} (h : OwN W v L X) : ∃ A n c, v = .slice A n c := by
  obtain ⟨A, c, e, _⟩ := h.sl.form
  exact ⟨A, _, c, e⟩
end Go.Proofs.YthfegbcbpeedbaaGreatDoor
namespace Go.Proofs.YthfegbcbpeedbaaGreatDoor
open Go.RowKit Go.Nm Go.Ky

end Go.Proofs.YthfegbcbpeedbaaGreatDoor
namespace Go.Proofs.YthfegbcbpeedbaaGreatDoor
open Go.RowKit Go.Nm Go.Ky

end Go.Proofs.YthfegbcbpeedbaaGreatDoor
namespace Go.Proofs.YthfegbcbpeedbaaGreatDoor
open Go.RowKit Go.Nm Go.Ky

end Go.Proofs.YthfegbcbpeedbaaGreatDoor
