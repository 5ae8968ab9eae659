/- The reference: Row. -/
import Derived.Test.YthfegbcbpeedbaaDoorKyQ
namespace Go.Proofs.YthfegbcbpeedbaaDoor
open Go.RowKit Go.Nm Go.Ky

set_option maxRecDepth 100000 in
set_option maxHeartbeats 4000000 in
theorem rmeet_any (u v : Value) (a b : List Int) (w : World) (hu : InSl w w.heap.size u a) (hv : InSl w w.heap.size v b) (hl : b.length = a.length) (hn : a.length ≤ 1000000) :
    Calls Tryd.prog 72 #[u, v] w fun e w' => e = .returned (.bool (fitsF a b)) ∧ Below w.heap.size w w' := by
  obtain ⟨A, c, rfl, _⟩ := hu.form
  obtain ⟨B, d, rfl, _⟩ := hv.form
  have HA := Lib.hid (show InA w w.heap.size A a from by obtain ⟨_, _, e, _, _, h⟩ := hu; cases e; exact h)
  have HB := Lib.hid (show InA w w.heap.size B b from by obtain ⟨_, _, e, _, _, h⟩ := hv; cases e; exact h)
  obtain ⟨n, h⟩ : ∃ n, a.length = n := ⟨_, rfl⟩
  have HN := Lib.hid (And.intro h (hl.trans h))
  have HZl := Lib.hid (show (a.zip b).length = n from by rw [List.length_zip, hl, h]; omega)
  obtain ⟨r, hr⟩ : ∃ r, fitsF a b = r := ⟨_, rfl⟩
  have HR := Lib.hid (show (a.zip b).all (fun p => decide (meetF p.1 p.2 ≠ 0)) = r from hr)
  rw [hr]
  rw [h] at hn ⊢
  rw [hl.trans h]
  clear hu hv h hl hr
  go_enter Tryd.func72, Tryd.ntmps72
  go_wp2_with fail
  go_loopw [5] (fun iv wr => ∃ i : Nat, iv = .int .i64 (i : Int) ∧ i ≤ n ∧ Below w.heap.size w wr ∧ (((a.zip b).take i).all fun p => decide (meetF p.1 p.2 ≠ 0)) = true) (fun iv _ => n - (intOf iv).toNat)
  case atStart => exact ⟨0, rfl, by omega, Below.refl _ _, rfl⟩
  case round =>
    obtain ⟨i, rfl, hin, hb, hg⟩ := hrel
    have HBl := Lib.hid hb
    have HG := Lib.hid hg
    clear hb hg
    by_cases hlt : i < n
    · obtain ⟨x, ad, hx, rfl, _, hcx⟩ := (HA.out.below HBl.out).at_ HN.out.1 hlt
      obtain ⟨y, bd, hy, rfl, _, hcy⟩ := (HB.out.below HBl.out).at_ HN.out.2 hlt
      have HQ := Lib.hid (zip_get hx hy)
      obtain ⟨z, hz⟩ : ∃ z, bits BinOp.and IntKind.i64 x y = z := ⟨_, rfl⟩
      have HZ := Lib.hid hz
      have ss := fun z => And.intro (Wb.cell hcx z) (Wb.cell hcy z)
      clear hx hy
      by_cases h0 : z = 0
      · have HF := Lib.hid (show r = false from by rw [← HR.out]; exact all_false HQ.out (decide_eq_false (by show ¬ meetF x y ≠ 0; unfold meetF; rw [HZ.out, h0]; simp)))
        go_wp2_with fail
        refine wp_region_wb (by kernel_rfl) (by kernel_rfl) ?_; (repeat ((with_reducible refine wpQuiet_step ?_); intro K hK; go_simp; (try (refine ite_neg_of (by simp [undef]) ?_)); first | (with_reducible refine hK _ ?_; clear hK K) | (apply Exists.intro; (with_reducible refine ⟨fun _ => ?_, hK _ ?_⟩); (fail); clear hK K))); (with_reducible refine wpQuiet_nil ?_); rintro w1 ⟨⟨_, hb1⟩, rfl⟩; (try dsimp only)
        go_wp2_with fail
        go_ret
        exact ⟨ret_b HF.out.symm, HBl.out.trans (hb1.mono HBl.out.size)⟩
      · have HT := Lib.hid (show (((a.zip b).take (i + 1)).all fun p => decide (meetF p.1 p.2 ≠ 0)) = true from by rw [all_take HQ.out, HG.out]; exact decide_eq_true (by show meetF x y ≠ 0; unfold meetF; rw [HZ.out]; exact h0))
        go_wp2_with fail
        refine wp_region_wb (by kernel_rfl) (by kernel_rfl) ?_; (repeat ((with_reducible refine wpQuiet_step ?_); intro K hK; go_simp; (try (refine ite_neg_of (by simp [undef]) ?_)); first | (with_reducible refine hK _ ?_; clear hK K) | (apply Exists.intro; (with_reducible refine ⟨fun _ => ?_, hK _ ?_⟩); (fail); clear hK K))); (with_reducible refine wpQuiet_nil ?_); rintro w1 ⟨⟨_, hb1⟩, rfl⟩; (try dsimp only)
        go_wp2_with fail
        have HB2 := Lib.hid (HBl.out.trans (hb1.mono HBl.out.size))
        clear hb1 ss
        go_roundw
        case rel => exact ⟨i + 1, by go_num, by omega, HB2.out, HT.out⟩
        case measure => simp [intOf]; omega
    · obtain rfl : n = i := by omega
      have HF := Lib.hid (show r = true from by rw [← HR.out]; exact all_end HZl.out HG.out)
      go_wp2_with fail
      go_ret
      exact ⟨ret_b HF.out.symm, HBl.out⟩
end Go.Proofs.YthfegbcbpeedbaaDoor
namespace Go.Proofs.YthfegbcbpeedbaaDoor
open Go.RowKit Go.Nm Go.Ky

set_option maxRecDepth 100000 in
set_option maxHeartbeats 4000000 in
theorem rsets_any (u v : Value) (st l : List Int) (w : World) (hu : InSl w w.heap.size u st) (hv : InSl w w.heap.size v l) (hc : ∀ q ∈ st, 2 ≤ q ∧ q ≤ 16) (hn : st.length ≤ 1000000) (hm : l.length ≤ 1000000) :
    Calls Tryd.prog 68 #[u, v] w fun e w' => e = .returned (.bool (setsF st l)) ∧ Below w.heap.size w w' := by
  obtain ⟨A, c, rfl, _⟩ := hu.form
  obtain ⟨B, d, rfl, _⟩ := hv.form
  have HA := Lib.hid (show InA w w.heap.size A st from by obtain ⟨_, _, e, _, _, h⟩ := hu; cases e; exact h)
  have HB := Lib.hid (show InA w w.heap.size B l from by obtain ⟨_, _, e, _, _, h⟩ := hv; cases e; exact h)
  have HC := Lib.hid hc
  obtain ⟨n, h⟩ : ∃ n, st.length = n := ⟨_, rfl⟩
  obtain ⟨nl, h2⟩ : ∃ n, l.length = n := ⟨_, rfl⟩
  obtain ⟨r, hr⟩ : ∃ r, setsF st l = r := ⟨_, rfl⟩
  have HR := Lib.hid (show r = (decide (nl = n) && (st.zip l).all fun p => decide (1 ≤ p.2 ∧ p.2 ≤ full p.1)) from by rw [← hr]; unfold setsF; rw [h, h2])
  have HN := Lib.hid (And.intro h h2)
  rw [hr]
  rw [h] at hn ⊢
  rw [h2] at hm ⊢
  clear hu hv h h2 hr hc
  by_cases hq : nl = n
  case neg =>
    have hq2 : ((nl : Int) != (n : Int)) = true := by simp; omega
    have HF := Lib.hid (show r = false from by rw [HR.out, decide_eq_false hq, Bool.false_and])
    clear hq
    go_enter Tryd.func68, Tryd.ntmps68
    go_wp2_with fail
    go_ret
    exact ⟨ret_b HF.out.symm, Below.refl _ _⟩
  case pos =>
  subst hq
  have hq2 : ((nl : Int) != (nl : Int)) = false := by simp
  have HT0 := Lib.hid (show r = (st.zip l).all fun p => decide (1 ≤ p.2 ∧ p.2 ≤ full p.1) from by rw [HR.out]; simp)
  have HZl := Lib.hid (show (st.zip l).length = nl from by rw [List.length_zip, HN.out.1, HN.out.2]; omega)
  clear HR
  go_enter Tryd.func68, Tryd.ntmps68
  go_wp2_with fail
  go_loopw [5] (fun iv wr => ∃ i : Nat, iv = .int .i64 (i : Int) ∧ i ≤ nl ∧ Below w.heap.size w wr ∧ (((st.zip l).take i).all fun p => decide (1 ≤ p.2 ∧ p.2 ≤ full p.1)) = true) (fun iv _ => nl - (intOf iv).toNat)
  case atStart => exact ⟨0, rfl, by omega, Below.refl _ _, rfl⟩
  case round =>
    obtain ⟨i, rfl, hin, hb, hg⟩ := hrel
    have HBl := Lib.hid hb
    have HG := Lib.hid hg
    clear hb hg
    by_cases hlt : i < nl
    · obtain ⟨q, ad, hx, rfl, _, hcx⟩ := (HA.out.below HBl.out).at_ HN.out.1 hlt
      obtain ⟨y, bd, hy, rfl, _, hcy⟩ := (HB.out.below HBl.out).at_ HN.out.2 hlt
      have HQ := Lib.hid (zip_get hx hy)
      obtain ⟨hq3, hq4⟩ := HC.out q (List.mem_of_getElem? hx)
      obtain ⟨k, rfl⟩ : ∃ k : Nat, q = (k : Int) := ⟨q.toNat, by omega⟩
      obtain ⟨p1, p2⟩ := pow16 (k := k) (by omega)
      have HP := Lib.hid (show IntKind.i64.wrap (2 ^ k) = ((2 ^ k : Nat) : Int) from by rw [show ((2 : Int) ^ k) = ((2 ^ k : Nat) : Int) from by simp, IntKind.wrap_i64]; omega)
      have HFu := Lib.hid (full_nat k)
      obtain ⟨mm, hmm⟩ : ∃ mm, 2 ^ k = mm := ⟨_, rfl⟩
      have hw := HP.out
      rw [hmm] at hw p1 p2 HFu
      obtain ⟨fu, hfu⟩ : ∃ fu, (mm : Int) - 1 = fu := ⟨_, rfl⟩
      have hwm : IntKind.i64.wrap ((mm : Int) - 1) = fu := by rw [IntKind.wrap_i64]; omega
      rw [hfu] at HFu
      have hW := rwithin_any y 1 fu
      have ss := fun z => And.intro (Wb.cell hcx z) (Wb.cell hcy z)
      clear hx hy HP hmm hfu
      by_cases h1 : 1 ≤ y ∧ y ≤ fu
      · simp only [decide_eq_true h1] at hW
        have HW := Lib.hid hW
        clear hW
        have HT := Lib.hid (show (((st.zip l).take (i + 1)).all fun p => decide (1 ≤ p.2 ∧ p.2 ≤ full p.1)) = true from by rw [all_take HQ.out, HG.out]; exact decide_eq_true (by simp only [HFu.out]; exact h1))
        clear h1
        go_wp2_with fail
        refine wp_region_wb (by kernel_rfl) (by kernel_rfl) ?_; (repeat ((with_reducible refine wpQuiet_step ?_); intro K hK; go_simp; (try (refine ite_neg_of (by simp [undef]) ?_)); first | (with_reducible refine hK _ ?_; clear hK K) | (apply Exists.intro; (with_reducible refine ⟨fun _ => ?_, hK _ ?_⟩); ((go_at_call 67; exact Calls.wb (HW.out _))); clear hK K))); (with_reducible refine wpQuiet_nil ?_); rintro w1 ⟨⟨_, hb1⟩, rfl⟩; (try dsimp only)
        go_wp2_with fail
        have HB2 := Lib.hid (HBl.out.trans (hb1.mono HBl.out.size))
        clear hb1 ss
        go_roundw
        case rel => exact ⟨i + 1, by go_num, by omega, HB2.out, HT.out⟩
        case measure => simp [intOf]; omega
      · simp only [decide_eq_false h1] at hW
        have HW := Lib.hid hW
        clear hW
        have HF := Lib.hid (show r = false from by rw [HT0.out]; exact all_false HQ.out (decide_eq_false (by simp only [HFu.out]; exact h1)))
        clear h1
        go_wp2_with fail
        refine wp_region_wb (by kernel_rfl) (by kernel_rfl) ?_; (repeat ((with_reducible refine wpQuiet_step ?_); intro K hK; go_simp; (try (refine ite_neg_of (by simp [undef]) ?_)); first | (with_reducible refine hK _ ?_; clear hK K) | (apply Exists.intro; (with_reducible refine ⟨fun _ => ?_, hK _ ?_⟩); ((go_at_call 67; exact Calls.wb (HW.out _))); clear hK K))); (with_reducible refine wpQuiet_nil ?_); rintro w1 ⟨⟨_, hb1⟩, rfl⟩; (try dsimp only)
        go_wp2_with fail
        go_ret
        exact ⟨ret_b HF.out.symm, HBl.out.trans (hb1.mono HBl.out.size)⟩
    · obtain rfl : nl = i := by omega
      have HF := Lib.hid (show r = true from by rw [HT0.out]; exact all_end HZl.out HG.out)
      go_wp2_with fail
      go_ret
      exact ⟨ret_b HF.out.symm, HBl.out⟩
end Go.Proofs.YthfegbcbpeedbaaDoor
namespace Go.Proofs.YthfegbcbpeedbaaDoor
open Go.RowKit Go.Nm Go.Ky

set_option maxRecDepth 100000 in
set_option maxHeartbeats 4000000 in
theorem rat_any (v : Value) (m : Mx) (name : Int) (w : World) (hv : MxV w v m) (hs : MSm m) :
    Calls Tryd.prog 64 #[v, .int .i64 name] w fun e w' =>
      ((∃ (i : Nat) (r : Rw), e = .returned (.int .i64 (i : Int)) ∧ m.rows[i]? = some r ∧ i < m.rows.length ∧ rowO m name = some r) ∨ (e = .returned (.int .i64 (-1)) ∧ rowO m name = none)) ∧ Below w.heap.size w w' := by
  obtain ⟨A1, c1, A2, c2, W0, rfl, hW0, hb0, hM, hS, hR, hX⟩ := mx_box hv
  have HB0 := Lib.hid hb0
  have HW0 := Lib.hid hW0
  have HU := Lib.hid (hR W0 (Below.refl _ _))
  obtain ⟨k0, k1⟩ := hX W0 (Below.refl _ _)
  generalize m.st.length = ns at *
  obtain ⟨n, h⟩ : ∃ n, m.rows.length = n := ⟨_, rfl⟩
  have HN := Lib.hid h
  have hn : n ≤ 1000 := by have := hs.2.1; omega
  have HO := Lib.hid (show rowO m name = m.rows.find? (fun r => decide (r.nm = name)) from rfl)
  rw [h] at HU HW0 k1 ⊢
  obtain ⟨ro, hro⟩ : ∃ ro, rowO m name = ro := ⟨_, rfl⟩
  rw [hro] at HO ⊢
  clear hv hs hW0 hb0 hM hS hR hX h hro
  go_enter Tryd.func64, Tryd.ntmps64
  go_wp2_with fail
  rw [HW0.out]
  (try go_wp2_with fail)
  go_loopw [5] (fun iv wr => ∃ i : Nat, iv = .int .i64 (i : Int) ∧ i ≤ n ∧ W0 = wr ∧ ∀ x ∈ m.rows.take i, decide (x.nm = name) = false) (fun iv _ => n - (intOf iv).toNat)
  case atStart => exact ⟨0, rfl, by omega, rfl, fun x hx => by simp at hx⟩
  case round =>
    obtain ⟨i, rfl, hin, rfl, hno⟩ := hrel
    have HNo := Lib.hid hno
    clear hno
    by_cases hlt : i < n
    · obtain ⟨r, ad, Am, cm, hr, rfl, hY⟩ := HU.out.at_ hlt
      obtain ⟨⟨d0, d1⟩, _⟩ := hY W0 (Below.refl _ _)
      have HR := Lib.hid hr
      clear hr hY
      cases hp : decide (r.nm = name) with
      | true =>
        have HF := Lib.hid (show ro = some r from by rw [HO.out]; exact find_at (p := fun r => decide (r.nm = name)) HR.out hp HNo.out)
        have hpe : r.nm = name := of_decide_eq_true hp
        clear hp
        go_wp2_with fail
        go_ret
        exact ⟨.inl ⟨i, r, rfl, HR.out, hlt, HF.out⟩, HB0.out⟩
      | false =>
        have HP := Lib.hid hp
        have hpe : ¬ r.nm = name := of_decide_eq_false hp
        clear hp
        go_wp2_with fail
        go_roundw
        case rel => exact ⟨i + 1, by go_num, by omega, by first | trivial | rfl, fun x hx => by
          rw [show m.rows.take (i + 1) = m.rows.take i ++ [r] from by rw [List.take_add_one, HR.out]; rfl] at hx
          rcases List.mem_append.1 hx with hx | hx
          · exact HNo.out x hx
          · simp at hx; subst hx; exact HP.out⟩
        case measure => simp [intOf]; omega
    · obtain rfl : n = i := by omega
      have hf : m.rows.find? (fun r => decide (r.nm = name)) = none := List.find?_eq_none.2 fun x hx => by
        have h := HNo.out x (by rw [List.take_of_length_le (by have := HN.out; omega)]; exact hx)
        simpa using h
      have HF := Lib.hid (HO.out.trans hf)
      clear hf
      go_wp2_with fail
      go_ret
      exact ⟨.inr ⟨rfl, HF.out⟩, HB0.out⟩
end Go.Proofs.YthfegbcbpeedbaaDoor
namespace Go.Proofs.YthfegbcbpeedbaaDoor
open Go.RowKit Go.Nm Go.Ky

set_option maxRecDepth 100000 in
set_option maxHeartbeats 8000000 in
theorem rCheckMatrix_any (v : Value) (m : Mx) (w : World) (hv : MxV w v m) (hs : MSm m) :
    Calls Tryd.prog 22 #[v] w fun e w' => e = .returned (.int .i64 (cmE m)) ∧ Below w.heap.size w w' := by
  obtain ⟨A1, c1, A2, c2, W0, rfl, hW0, hb0, hM, hS, hR, hX⟩ := mx_box hv
  have HB0 := Lib.hid hb0
  have HW0 := Lib.hid hW0
  have HX := Lib.hid hX
  have HSl := Lib.hid hS
  have HU := Lib.hid (hR W0 (Below.refl _ _))
  have HSm := Lib.hid hs
  obtain ⟨k0, k1⟩ := hX W0 (Below.refl _ _)
  obtain ⟨ns, hns⟩ : ∃ n, m.st.length = n := ⟨_, rfl⟩
  obtain ⟨n, hn⟩ : ∃ n, m.rows.length = n := ⟨_, rfl⟩
  have HN := Lib.hid (And.intro hns hn)
  have hn1 : n ≤ 1000 := by have := hs.2.1; omega
  have hns1 : ns ≤ 1000 := by have := hs.1; omega
  have HE := Lib.hid (show cmE m = if (chrF m.st && rowsF m) = true then 0 else 30 from rfl)
  have HCh := Lib.hid (show chrF m.st = (decide (0 < ns ∧ ns ≤ 64) && m.st.all fun n => decide (2 ≤ n ∧ n ≤ 16)) from by unfold chrF; rw [hns])
  have HRo := Lib.hid (show rowsF m = (decide (n ≤ 400) && (decide (Nms (m.rows.map (·.nm))) && m.rows.all fun r => setsF m.st r.may)) from by unfold rowsF; rw [hn])
  obtain ⟨er, her⟩ : ∃ er, cmE m = er := ⟨_, rfl⟩
  rw [her] at HE ⊢
  rw [hns, hn] at HX HW0
  rw [hns] at HSl k0 ⊢
  rw [hn] at HU k1 ⊢
  have HWn := Lib.hid (rwithin_any (ns : Int) 1 64)
  clear hv hs hW0 hb0 hM hS hR hX hns hn her
  by_cases hA : 0 < ns ∧ ns ≤ 64
  case neg =>
    have HF := Lib.hid (show er = 30 from by rw [HE.out, HCh.out, decide_eq_false hA]; simp)
    have hd : decide ((1 : Int) ≤ (ns : Int) ∧ (ns : Int) ≤ 64) = false := decide_eq_false (by omega)
    have HW1 := Lib.hid (HWn.out W0)
    rw [hd] at HW1
    clear hA hd HWn
    go_enter Tryd.func22, Tryd.ntmps22
    go_wp2_with fail
    rw [HW0.out]
    (try go_wp2_with fail)
    (with_reducible refine HW1.out.mono ?_)
    rintro e w1 ⟨rfl, hb⟩
    have HB1 := Lib.hid (HB0.out.trans (hb.mono HB0.out.size))
    clear hb
    go_wp2_with fail
    go_ret
    exact ⟨by rw [HF.out]; rfl, HB1.out⟩
  case pos =>
  have hd : decide ((1 : Int) ≤ (ns : Int) ∧ (ns : Int) ≤ 64) = true := decide_eq_true (by omega)
  have HW1 := Lib.hid (HWn.out W0)
  rw [hd] at HW1
  have HT1 := Lib.hid (show chrF m.st = (m.st.all fun n => decide (2 ≤ n ∧ n ≤ 16)) from by rw [HCh.out, decide_eq_true hA]; simp)
  clear hA hd HWn HCh
  by_cases hB : 400 < n
  · have hBi : (400 : Int) < (n : Int) := by omega
    have HF := Lib.hid (show er = 30 from by rw [HE.out, HRo.out, decide_eq_false (by omega)]; simp)
    clear hB
    go_enter Tryd.func22, Tryd.ntmps22
    go_wp2_with fail
    rw [HW0.out]
    (try go_wp2_with fail)
    (with_reducible refine HW1.out.mono ?_)
    rintro e w1 ⟨rfl, hb⟩
    have HB1 := Lib.hid (HB0.out.trans (hb.mono HB0.out.size))
    have HBl := Lib.hid hb
    clear hb k0 k1
    obtain ⟨k0, k1⟩ := HX.out w1 HBl.out
    go_wp2_with fail
    go_ret
    exact ⟨by rw [HF.out]; rfl, HB1.out⟩
  have hBi : ¬ (400 : Int) < (n : Int) := by omega
  have HT2 := Lib.hid (show rowsF m = (decide (Nms (m.rows.map (·.nm))) && m.rows.all fun r => setsF m.st r.may) from by rw [HRo.out, decide_eq_true (by omega)]; simp)
  clear hB HRo
  go_enter Tryd.func22, Tryd.ntmps22
  go_wp2_with fail
  rw [HW0.out]
  (try go_wp2_with fail)
  (with_reducible refine HW1.out.mono ?_)
  rintro e w1 ⟨rfl, hb⟩
  have HBl := Lib.hid hb
  clear hb k0 k1 HW1
  obtain ⟨k0, k1⟩ := HX.out w1 HBl.out
  go_wp2_with fail
  clear k0 k1
  go_loopw [3] (fun iv wr => ∃ i : Nat, iv = .int .i64 (i : Int) ∧ i ≤ ns ∧ Below W0.heap.size W0 wr ∧ ((m.st.take i).all fun n => decide (2 ≤ n ∧ n ≤ 16)) = true) (fun iv _ => ns - (intOf iv).toNat)
  case atStart => exact ⟨0, rfl, by omega, HBl.out, rfl⟩
  case round =>
    obtain ⟨i, rfl, hin, hb, hg⟩ := hrel
    have HB := Lib.hid hb
    have HG := Lib.hid hg
    clear hb hg
    obtain ⟨k0, k1⟩ := HX.out wr HB.out
    by_cases hlt : i < ns
    · have HA := Lib.hid (show InA wr wr.heap.size A1 m.st from by obtain ⟨_, _, e, _, _, h⟩ := HSl.out wr HB.out; cases e; exact h)
      obtain ⟨q, ad, hq, rfl, _, hcq⟩ := HA.out.at_ HN.out.1 hlt
      have HQ := Lib.hid hq
      have HWq := Lib.hid (rwithin_any q 2 16 wr)
      clear hq
      cases hp : decide ((2 : Int) ≤ q ∧ q ≤ 16) with
      | false =>
        rw [hp] at HWq
        have HF := Lib.hid (show er = 30 from by rw [HE.out, HT1.out, all_false HQ.out hp]; simp)
        clear hp
        go_wp2_with fail
        (with_reducible refine HWq.out.mono ?_)
        rintro e w2 ⟨rfl, hb⟩
        have HB2 := Lib.hid (HB0.out.trans ((HB.out.trans (hb.mono HB.out.size)).mono HB0.out.size))
        clear hb k0 k1
        go_wp2_with fail
        go_ret
        exact ⟨by rw [HF.out]; rfl, HB2.out⟩
      | true =>
        rw [hp] at HWq
        have HT := Lib.hid (show ((m.st.take (i + 1)).all fun n => decide (2 ≤ n ∧ n ≤ 16)) = true from by rw [all_take HQ.out, HG.out]; exact hp)
        clear hp
        go_wp2_with fail
        (with_reducible refine HWq.out.mono ?_)
        rintro e w2 ⟨rfl, hb⟩
        have HB2 := Lib.hid (HB.out.trans (hb.mono HB.out.size))
        clear hb k0 k1
        go_wp2_with fail
        go_roundw
        case rel => exact ⟨i + 1, by go_num, by omega, HB2.out, HT.out⟩
        case measure => simp [intOf]; omega
    · obtain rfl : ns = i := by omega
      have HCt := Lib.hid (show (m.st.all fun n => decide (2 ≤ n ∧ n ≤ 16)) = true from all_end HN.out.1 HG.out)
      have HE2 := Lib.hid (show er = if rowsF m = true then 0 else 30 from by rw [HE.out, HT1.out, HCt.out]; simp)
      have HCq := Lib.hid (show ∀ q ∈ m.st, 2 ≤ q ∧ q ≤ 16 from fun q hq => of_decide_eq_true ((List.all_eq_true.1 HCt.out) q hq))
      go_wp2_with fail
      clear k0 k1
      have HBad := Lib.hid (show ¬ Nms (m.rows.map (·.nm)) → er = 30 from fun h => by rw [HE2.out, HT2.out, decide_eq_false h]; simp)
      have HBadS := Lib.hid (show ∀ (i : Nat) (r : Rw), m.rows[i]? = some r → setsF m.st r.may = false → er = 30 from fun i r hr h => by rw [HE2.out, HT2.out, all_false hr h]; simp)
      have HGd := Lib.hid (show Nms (m.rows.map (·.nm)) → (m.rows.all fun r => setsF m.st r.may) = true → er = 0 from fun h h2 => by rw [HE2.out, HT2.out, decide_eq_true h, h2]; simp)
      have HNm := Lib.hid (show ∀ (j : Nat) (r : Rw), m.rows[j]? = some r → (m.rows.map (·.nm))[j]? = some r.nm from fun j r h => by rw [List.getElem?_map, h]; rfl)
      clear HE2 HT2 HE HT1 HG HCt
      go_loopw [4] (fun iv wr => ∃ i : Nat, iv = .int .i64 (i : Int) ∧ i ≤ n ∧ Below W0.heap.size W0 wr ∧ (∀ (j : Nat) (r : Rw), j < i → m.rows[j]? = some r → 1 ≤ r.nm ∧ r.nm ≤ 65535) ∧ (∀ (j : Nat) (r t : Rw), j + 1 < i → m.rows[j]? = some r → m.rows[j + 1]? = some t → r.nm < t.nm) ∧ ((m.rows.take i).all fun r => setsF m.st r.may) = true) (fun iv _ => n - (intOf iv).toNat)
      case atStart => exact ⟨0, rfl, by omega, HB.out, fun j r h => absurd h (by omega), fun j r t h => absurd h (by omega), rfl⟩
      case round =>
        clear HB
        obtain ⟨i, rfl, hin2, hb, hg⟩ := hrel
        have HB := Lib.hid hb
        have HG := Lib.hid hg
        clear hb hg
        obtain ⟨k0, k1⟩ := HX.out _ HB.out
        by_cases hlt2 : i < n
        · obtain ⟨r, ad, Am, cm, hr, rfl, hY⟩ := HU.out.at_ hlt2
          have HY := Lib.hid hY
          have HR := Lib.hid hr
          have hz : ∀ z : Wb wr, Below W0.heap.size W0 z.v := fun z => HB.out.trans (z.h.mono HB.out.size)
          have hSe := fun z : Wb wr => rsets_any (.slice A1 ns c1) (.slice Am r.may.length cm) m.st r.may z.v (HSl.out z.v (hz z)) (HY.out z.v (hz z)).2 HCq.out (by have := HN.out.1; omega) (by have := HSm.out.2.2 r (List.mem_of_getElem? hr); omega)
          have hW := rwithin_any r.nm 1 65535
          have HZ := Lib.hid hz
          obtain ⟨d0, d1⟩ := (HY.out _ HB.out).1
          obtain ⟨b, hbs⟩ : ∃ b, setsF m.st r.may = b := ⟨_, rfl⟩
          have HBs := Lib.hid hbs
          rw [hbs] at hSe
          obtain ⟨y, hy⟩ : ∃ y, r.nm = y := ⟨_, rfl⟩
          have HYn := Lib.hid hy
          rw [hy] at hW d0
          obtain ⟨q, hq⟩ : ∃ q, r.may.length = q := ⟨_, rfl⟩
          rw [hq] at hSe d1
          have HQl := Lib.hid hq
          clear hr hY hz hbs hy hq
          by_cases hyw : 1 ≤ y ∧ y ≤ 65535
          case neg =>
            simp only [decide_eq_false hyw] at hW
            have HW := Lib.hid hW
            have HSe := Lib.hid hSe
            have HNy := Lib.hid hyw
            have ss := fun z : Wb wr => And.intro (HX.out z.v (HZ.out z)) (show z.v.cell? (ad.add (i * 2)) = some (.int .i64 y) ∧ z.v.cell? ⟨(ad.add (i * 2)).block, (ad.add (i * 2)).off + 1, none⟩ = some (.slice Am q cm) from by rw [← HYn.out, ← HQl.out]; exact (HY.out z.v (HZ.out z)).1)
            clear hW hSe hyw d0 d1
            have HF := Lib.hid (show er = 30 from HBad.out fun h => HNy.out (by have := h.2 _ (List.mem_of_getElem? (HNm.out i r HR.out)); rw [HYn.out] at this; exact this))
            go_wp2_with fail
            refine wp_region_wb (by kernel_rfl) (by kernel_rfl) ?_; (repeat ((with_reducible refine wpQuiet_step ?_); intro K hK; go_simp; (try (refine ite_neg_of (by simp [undef]) ?_)); first | (with_reducible refine hK _ ?_; clear hK K) | (apply Exists.intro; (with_reducible refine ⟨fun _ => ?_, hK _ ?_⟩); ((first | (go_at_call 67; exact Calls.wb (HW.out _)) | (go_at_call 68; exact Calls.wb (HSe.out _)))); clear hK K))); (with_reducible refine wpQuiet_nil ?_); rintro w1 ⟨⟨_, hb1⟩, rfl⟩; (try dsimp only)
            go_wp2_with fail
            go_ret
            exact ⟨by rw [HF.out]; rfl, HB0.out.trans ((HB.out.trans (hb1.mono HB.out.size)).mono HB0.out.size)⟩
          case pos =>
          simp only [decide_eq_true hyw] at hW
          have HW := Lib.hid hW
          have HWy := Lib.hid hyw
          clear hW hyw d0 d1
          by_cases h0 : i = 0
          · subst h0
            have ss := fun z : Wb wr => And.intro (HX.out z.v (HZ.out z)) (show z.v.cell? ad = some (.int .i64 y) ∧ z.v.cell? ⟨ad.block, ad.off + 1, none⟩ = some (.slice Am q cm) from by
              have h := (HY.out z.v (HZ.out z)).1
              rw [HYn.out, HQl.out] at h
              simpa [Addr.add] using h)
            cases b with
            | false =>
              have HSe := Lib.hid hSe
              clear hSe
              have HF := Lib.hid (show er = 30 from HBadS.out 0 r HR.out HBs.out)
              go_wp2_with fail
              refine wp_region_wb (by kernel_rfl) (by kernel_rfl) ?_; (repeat ((with_reducible refine wpQuiet_step ?_); intro K hK; go_simp; (try (refine ite_neg_of (by simp [undef]) ?_)); first | (with_reducible refine hK _ ?_; clear hK K) | (apply Exists.intro; (with_reducible refine ⟨fun _ => ?_, hK _ ?_⟩); ((first | (go_at_call 67; exact Calls.wb (HW.out _)) | (go_at_call 68; exact Calls.wb (HSe.out _)))); clear hK K))); (with_reducible refine wpQuiet_nil ?_); rintro w1 ⟨⟨_, hb1⟩, rfl⟩; (try dsimp only)
              go_wp2_with fail
              go_ret
              exact ⟨by rw [HF.out]; rfl, HB0.out.trans ((HB.out.trans (hb1.mono HB.out.size)).mono HB0.out.size)⟩
            | true =>
              have HSe := Lib.hid hSe
              clear hSe
              have HN3 := Lib.hid (show (∀ (j : Nat) (r : Rw), j < 0 + 1 → m.rows[j]? = some r → 1 ≤ r.nm ∧ r.nm ≤ 65535) ∧ (∀ (j : Nat) (r t : Rw), j + 1 < 0 + 1 → m.rows[j]? = some r → m.rows[j + 1]? = some t → r.nm < t.nm) ∧ ((m.rows.take (0 + 1)).all fun r => setsF m.st r.may) = true from
                ⟨fun j r' hj hr' => by
                  obtain rfl : j = 0 := by omega
                  rw [HR.out] at hr'; injection hr' with hr'; subst hr'
                  rw [HYn.out]; exact HWy.out, fun j r t h => absurd h (by omega), by rw [all_take HR.out, HG.out.2.2]; exact HBs.out⟩)
              go_wp2_with fail
              refine wp_region_wb (by kernel_rfl) (by kernel_rfl) ?_; (repeat ((with_reducible refine wpQuiet_step ?_); intro K hK; go_simp; (try (refine ite_neg_of (by simp [undef]) ?_)); first | (with_reducible refine hK _ ?_; clear hK K) | (apply Exists.intro; (with_reducible refine ⟨fun _ => ?_, hK _ ?_⟩); ((first | (go_at_call 67; exact Calls.wb (HW.out _)) | (go_at_call 68; exact Calls.wb (HSe.out _)))); clear hK K))); (with_reducible refine wpQuiet_nil ?_); rintro w1 ⟨⟨_, hb1⟩, rfl⟩; (try dsimp only)
              go_wp2_with fail
              have HB2 := Lib.hid (HB.out.trans (hb1.mono HB.out.size))
              clear hb1 ss
              go_roundw
              case rel => exact ⟨1, by go_num, by omega, HB2.out, HN3.out⟩
              case measure => simp [intOf]; omega
          · obtain ⟨k, hk⟩ : ∃ k, i - 1 = k := ⟨_, rfl⟩
            have hkn : k < n := by omega
            have hik : (i : Int) = (k : Int) + 1 := by omega
            obtain ⟨p, ad', Ap, cp, hpr, e, hYp⟩ := HU.out.at_ hkn
            injection e with e
            subst e
            have HP := Lib.hid (And.intro hpr (show k + 1 = i by omega))
            have HYp := Lib.hid hYp
            have hi0 : (0 : Int) < (i : Int) := by omega
            have hi1 : 0 < i := by omega
            have hiw : IntKind.i64.wrap ((i : Int) - 1) = (k : Int) := by rw [IntWalk.i64_in _ (by omega)]; omega
            obtain ⟨x, hx⟩ : ∃ x, p.nm = x := ⟨_, rfl⟩
            have HXn := Lib.hid hx
            clear hpr hYp hk hik hx
            have ss := fun z : Wb wr => And.intro (HX.out z.v (HZ.out z)) (And.intro (show z.v.cell? (ad.add (i * 2)) = some (.int .i64 y) ∧ z.v.cell? ⟨(ad.add (i * 2)).block, (ad.add (i * 2)).off + 1, none⟩ = some (.slice Am q cm) from by rw [← HYn.out, ← HQl.out]; exact (HY.out z.v (HZ.out z)).1) (show z.v.cell? (ad.add (k * 2)) = some (.int .i64 x) from by rw [← HXn.out]; exact (HYp.out z.v (HZ.out z)).1.1))
            by_cases hge : y ≤ x
            · have HSe := Lib.hid hSe
              have HGe := Lib.hid hge
              clear hSe
              have hBadI : ¬ Nms (m.rows.map (·.nm)) := fun h => by
                have h1 := next_of_inc h.1 (HNm.out k p HP.out.1) (by rw [HP.out.2]; exact HNm.out i r HR.out)
                rw [HXn.out, HYn.out] at h1
                have := HGe.out
                omega
              have HBi := Lib.hid hBadI
              clear hBadI
              have HF := Lib.hid (show er = 30 from HBad.out HBi.out)
              go_wp2_with fail
              refine wp_region_wb (by kernel_rfl) (by kernel_rfl) ?_; (repeat ((with_reducible refine wpQuiet_step ?_); intro K hK; go_simp; (try (refine ite_neg_of (by simp [undef]) ?_)); first | (with_reducible refine hK _ ?_; clear hK K) | (apply Exists.intro; (with_reducible refine ⟨fun _ => ?_, hK _ ?_⟩); ((first | (go_at_call 67; exact Calls.wb (HW.out _)) | (go_at_call 68; exact Calls.wb (HSe.out _)))); clear hK K))); (with_reducible refine wpQuiet_nil ?_); rintro w1 ⟨⟨_, hb1⟩, rfl⟩; (try dsimp only)
              go_wp2_with fail
              go_ret
              exact ⟨by rw [HF.out]; rfl, HB0.out.trans ((HB.out.trans (hb1.mono HB.out.size)).mono HB0.out.size)⟩
            · have HNe := Lib.hid hge
              cases b with
              | false =>
                have HSe := Lib.hid hSe
                clear hSe
                have HF := Lib.hid (show er = 30 from HBadS.out i r HR.out HBs.out)
                go_wp2_with fail
                refine wp_region_wb (by kernel_rfl) (by kernel_rfl) ?_; (repeat ((with_reducible refine wpQuiet_step ?_); intro K hK; go_simp; (try (refine ite_neg_of (by simp [undef]) ?_)); first | (with_reducible refine hK _ ?_; clear hK K) | (apply Exists.intro; (with_reducible refine ⟨fun _ => ?_, hK _ ?_⟩); ((first | (go_at_call 67; exact Calls.wb (HW.out _)) | (go_at_call 68; exact Calls.wb (HSe.out _)))); clear hK K))); (with_reducible refine wpQuiet_nil ?_); rintro w1 ⟨⟨_, hb1⟩, rfl⟩; (try dsimp only)
                go_wp2_with fail
                go_ret
                exact ⟨by rw [HF.out]; rfl, HB0.out.trans ((HB.out.trans (hb1.mono HB.out.size)).mono HB0.out.size)⟩
              | true =>
                have HSe := Lib.hid hSe
                clear hSe
                have HN3 := Lib.hid (show (∀ (j : Nat) (r : Rw), j < i + 1 → m.rows[j]? = some r → 1 ≤ r.nm ∧ r.nm ≤ 65535) ∧ (∀ (j : Nat) (r t : Rw), j + 1 < i + 1 → m.rows[j]? = some r → m.rows[j + 1]? = some t → r.nm < t.nm) ∧ ((m.rows.take (i + 1)).all fun r => setsF m.st r.may) = true from
                  ⟨fun j r' hj hr' => by
                    by_cases e : j = i
                    · subst e
                      rw [HR.out] at hr'; injection hr' with hr'; subst hr'
                      rw [HYn.out]; exact HWy.out
                    · exact HG.out.1 j r' (by omega) hr', fun j r' t h hr' ht => by
                    by_cases e : j = k
                    · subst e
                      rw [HP.out.1] at hr'; injection hr' with hr'; subst hr'
                      rw [HP.out.2, HR.out] at ht; injection ht with ht; subst ht
                      rw [HXn.out, HYn.out]; have := HNe.out; omega
                    · exact HG.out.2.1 j r' t (by have := HP.out.2; omega) hr' ht, by rw [all_take HR.out, HG.out.2.2]; exact HBs.out⟩)
                go_wp2_with fail
                refine wp_region_wb (by kernel_rfl) (by kernel_rfl) ?_; (repeat ((with_reducible refine wpQuiet_step ?_); intro K hK; go_simp; (try (refine ite_neg_of (by simp [undef]) ?_)); first | (with_reducible refine hK _ ?_; clear hK K) | (apply Exists.intro; (with_reducible refine ⟨fun _ => ?_, hK _ ?_⟩); ((first | (go_at_call 67; exact Calls.wb (HW.out _)) | (go_at_call 68; exact Calls.wb (HSe.out _)))); clear hK K))); (with_reducible refine wpQuiet_nil ?_); rintro w1 ⟨⟨_, hb1⟩, rfl⟩; (try dsimp only)
                go_wp2_with fail
                have HB2 := Lib.hid (HB.out.trans (hb1.mono HB.out.size))
                clear hb1 ss
                go_roundw
                case rel => exact ⟨i + 1, by go_num, by omega, HB2.out, HN3.out⟩
                case measure => simp [intOf]; omega
        · obtain rfl : n = i := by omega
          have hInc : Nms (m.rows.map (·.nm)) := by
            refine ⟨inc_of_next fun j x y h1 h2 => ?_, fun x hx => ?_⟩
            · rw [List.getElem?_map] at h1 h2
              cases hr : m.rows[j]? with
              | none => rw [hr] at h1; cases h1
              | some r =>
                cases ht : m.rows[j + 1]? with
                | none => rw [ht] at h2; cases h2
                | some t =>
                  rw [hr] at h1; rw [ht] at h2
                  simp only [Option.map_some, Option.some.injEq] at h1 h2
                  have := HG.out.2.1 j r t (by have := (List.getElem?_eq_some_iff.1 ht).1; have := HN.out.2; omega) hr ht
                  omega
            · obtain ⟨r, hr, rfl⟩ := List.mem_map.1 hx
              obtain ⟨j, hj, e⟩ := List.getElem_of_mem hr
              exact HG.out.1 j r (by have := HN.out.2; omega) (by rw [← e]; exact List.getElem?_eq_getElem hj)
          have HF := Lib.hid (HGd.out hInc (all_end HN.out.2 HG.out.2.2))
          clear hInc
          go_wp2_with fail
          go_ret
          exact ⟨by rw [HF.out]; rfl, HB0.out.trans (HB.out.mono HB0.out.size)⟩
end Go.Proofs.YthfegbcbpeedbaaDoor
namespace Go.Proofs.YthfegbcbpeedbaaDoor
open Go.RowKit Go.Nm Go.Ky

theorem OwN.slice {W X : World} {v : Value} {L : List Int} (h : OwN W v L X) : ∃ A n c, v = .slice A n c := by
  obtain ⟨A, c, e, _⟩ := h.sl.form
  exact ⟨A, _, c, e⟩
set_option maxRecDepth 100000 in
set_option maxHeartbeats 8000000 in
theorem rseenError_any (v u : Value) (m : Mx) (l : List Int) (w : World) (hv : MxV w v m) (hs : MSm m) (hu : InSl w w.heap.size u l) (hl : l.length ≤ 1000000) :
    Calls Tryd.prog 71 #[v, u] w fun e w' => e = .returned (.int .i64 (seenE m [l])) ∧ Below w.heap.size w w' := by
  obtain ⟨A1, c1, A2, c2, W0, rfl, hW0, hb0, hM, hS, hR, hX⟩ := mx_box hv
  have HB0 := Lib.hid hb0
  have HW0 := Lib.hid hW0
  have HX := Lib.hid hX
  have hu0 := hu.step hb0
  obtain ⟨Au, cu, rfl, _⟩ := hu0.form
  have HC := Lib.hid (rCheckMatrix_any _ m W0 (hM W0 (Below.refl _ _)) hs)
  have HSe := Lib.hid (fun (h : mxF m = true) Y (hb : Below W0.heap.size W0 Y) => rsets_any _ _ m.st l Y (hS Y hb) (hu0.step hb) (fun q hq => st_range h hq) (by have := hs.1; omega) hl)
  obtain ⟨k0, k1⟩ := hX W0 (Below.refl _ _)
  have HO := Lib.hid (show seenE m [l] = if mxF m = true then (if setsF m.st l = true then 0 else 32) else 30 from by unfold seenE; simp)
  obtain ⟨er, hr⟩ : ∃ r, seenE m [l] = r := ⟨_, rfl⟩
  rw [hr] at HO ⊢
  generalize m.st.length = ns at *
  generalize m.rows.length = nr at *
  generalize l.length = n at *
  clear hv hu hu0 hW0 hb0 hM hS hR hX hl hr hs
  cases hm : mxF m with
  | false =>
    have HF := Lib.hid (show er = 30 from by rw [HO.out, hm]; simp)
    rw [show cmE m = 30 from by unfold cmE; simp [hm]] at HC
    clear hm HO HSe
    go_enter Tryd.func71, Tryd.ntmps71
    go_wp2_with fail
    rw [HW0.out]
    (try go_wp2_with fail)
    (with_reducible refine HC.out.mono ?_)
    rintro e w1 ⟨rfl, hb⟩
    have HB1 := Lib.hid (HB0.out.trans (hb.mono HB0.out.size))
    clear hb
    go_wp2_with fail
    go_ret
    exact ⟨by rw [HF.out]; rfl, HB1.out⟩
  | true =>
    have HT := Lib.hid (show er = if setsF m.st l = true then 0 else 32 from by rw [HO.out, hm]; simp)
    have HSe1 := Lib.hid (HSe.out hm)
    rw [show cmE m = 0 from by unfold cmE; simp [hm]] at HC
    obtain ⟨b, hb⟩ : ∃ b, setsF m.st l = b := ⟨_, rfl⟩
    rw [hb] at HT HSe1
    clear hm HO HSe hb
    go_enter Tryd.func71, Tryd.ntmps71
    go_wp2_with fail
    rw [HW0.out]
    (try go_wp2_with fail)
    (with_reducible refine HC.out.mono ?_)
    rintro e w1 ⟨rfl, hb⟩
    have HBl := Lib.hid hb
    have HB1 := Lib.hid (HB0.out.trans (hb.mono HB0.out.size))
    have HSe2 := Lib.hid (HSe1.out w1 hb)
    clear hb k0 k1 HSe1
    obtain ⟨k0, k1⟩ := HX.out w1 HBl.out
    go_wp2_with fail
    (with_reducible refine HSe2.out.mono ?_)
    rintro e w2 ⟨rfl, hb⟩
    have HB2 := Lib.hid (HB1.out.trans (hb.mono HB1.out.size))
    clear hb k0 k1 HSe2
    cases b with
    | false =>
      have HF := Lib.hid (show er = 32 from by rw [HT.out]; simp)
      go_wp2_with fail
      go_ret
      exact ⟨by rw [HF.out]; rfl, HB2.out⟩
    | true =>
      have HF := Lib.hid (show er = 0 from by rw [HT.out]; simp)
      go_wp2_with fail
      go_ret
      exact ⟨by rw [HF.out]; rfl, HB2.out⟩
set_option maxRecDepth 100000 in
set_option maxHeartbeats 8000000 in
theorem rValidSeen_any (v u : Value) (m : Mx) (l : List Int) (w : World) (hv : MxV w v m) (hs : MSm m) (hu : InSl w w.heap.size u l) (hl : l.length ≤ 1000000) :
    Calls Tryd.prog 24 #[v, u] w fun e w' => e = .returned (.bool (decide (seenE m [l] = 0))) ∧ Below w.heap.size w w' := by
  obtain ⟨A1, c1, A2, c2, W0, rfl, hW0, hb0, hM, hS, hR, hX⟩ := mx_box hv
  have HB0 := Lib.hid hb0
  have HW0 := Lib.hid hW0
  have HX := Lib.hid hX
  have hu0 := hu.step hb0
  obtain ⟨Au, cu, rfl, _⟩ := hu0.form
  have HC := Lib.hid (rCheckMatrix_any _ m W0 (hM W0 (Below.refl _ _)) hs)
  have HSe := Lib.hid (fun (h : mxF m = true) Y (hb : Below W0.heap.size W0 Y) => rsets_any _ _ m.st l Y (hS Y hb) (hu0.step hb) (fun q hq => st_range h hq) (by have := hs.1; omega) hl)
  obtain ⟨k0, k1⟩ := hX W0 (Below.refl _ _)
  have HO := Lib.hid (show decide (seenE m [l] = 0) = (mxF m && setsF m.st l) from by
    unfold seenE
    cases mxF m <;> cases h : setsF m.st l <;> simp [h])
  rw [HO.out]
  generalize m.st.length = ns at *
  generalize m.rows.length = nr at *
  generalize l.length = n at *
  clear hv hu hu0 hW0 hb0 hM hS hR hX hl hs HO
  cases hm : mxF m with
  | false =>
    rw [show cmE m = 30 from by unfold cmE; simp [hm]] at HC
    clear hm HSe
    go_enter Tryd.func24, Tryd.ntmps24
    go_wp2_with fail
    rw [HW0.out]
    (try go_wp2_with fail)
    (with_reducible refine HC.out.mono ?_)
    rintro e w1 ⟨rfl, hb⟩
    have HB1 := Lib.hid (HB0.out.trans (hb.mono HB0.out.size))
    clear hb
    go_wp2_with fail
    go_ret
    exact ⟨by first | rfl | simp, HB1.out⟩
  | true =>
    have HSe1 := Lib.hid (HSe.out hm)
    rw [show cmE m = 0 from by unfold cmE; simp [hm]] at HC
    obtain ⟨b, hb⟩ : ∃ b, setsF m.st l = b := ⟨_, rfl⟩
    rw [hb] at HSe1 ⊢
    clear hm HSe hb
    go_enter Tryd.func24, Tryd.ntmps24
    go_wp2_with fail
    rw [HW0.out]
    (try go_wp2_with fail)
    (with_reducible refine HC.out.mono ?_)
    rintro e w1 ⟨rfl, hb⟩
    have HBl := Lib.hid hb
    have HB1 := Lib.hid (HB0.out.trans (hb.mono HB0.out.size))
    have HSe2 := Lib.hid (HSe1.out w1 hb)
    clear hb k0 k1 HSe1
    obtain ⟨k0, k1⟩ := HX.out w1 HBl.out
    go_wp2_with fail
    (with_reducible refine HSe2.out.mono ?_)
    rintro e w2 ⟨rfl, hb⟩
    have HB2 := Lib.hid (HB1.out.trans (hb.mono HB1.out.size))
    clear hb k0 k1 HSe2
    go_wp2_with fail
    go_ret
    exact ⟨by first | rfl | simp, HB2.out⟩
set_option maxRecDepth 100000 in
set_option maxHeartbeats 8000000 in
theorem ropen_any (v : Value) (m : Mx) (w : World) (hv : MxV w v m) (hs : MSm m) (hc : ∀ q ∈ m.st, 2 ≤ q ∧ q ≤ 16) :
    Calls Tryd.prog 60 #[v] w fun e w' => (∃ u, e = .returned u ∧ InSl w' w'.heap.size u (m.st.map full) ∧ ∀ g, u.ownBlock = some g → w.heap.size ≤ g) ∧ Below w.heap.size w w' := by
  obtain ⟨A1, c1, A2, c2, W0, rfl, hW0, hb0, hM, hS, hR, hX⟩ := mx_box hv
  have HB0 := Lib.hid hb0
  have HW0 := Lib.hid hW0
  have HX := Lib.hid hX
  have HSl := Lib.hid hS
  have HCh := Lib.hid hc
  obtain ⟨k0, k1⟩ := hX W0 (Below.refl _ _)
  obtain ⟨ns, hns⟩ : ∃ n, m.st.length = n := ⟨_, rfl⟩
  have HN := Lib.hid hns
  have hns1 : ns ≤ 1000 := by have := hs.1; omega
  rw [hns] at HX HW0 HSl k0 ⊢
  generalize m.rows.length = nr at *
  have HI0 := Lib.hid (OwN.start W0)
  clear hv hs hW0 hb0 hM hS hR hX hns hc
  go_enter Tryd.func60, Tryd.ntmps60
  go_wp2_with fail
  rw [HW0.out]
  (try go_wp2_with fail)
  clear k0 k1
  go_loopw [3, 4] (fun ov iv wr => ∃ (i : Nat) (Ao : Option Addr) (no co : Nat), ov = .slice Ao no co ∧ iv = .int .i64 (i : Int) ∧ i ≤ ns ∧ OwN W0 ov ((m.st.take i).map full) wr) (fun _ iv _ => ns - (intOf iv).toNat)
  case atStart => exact ⟨0, _, _, _, rfl, rfl, by omega, HI0.out⟩
  case round =>
    obtain ⟨i, Ao, no, co, rfl, rfl, hin, hI⟩ := hrel
    have HI := Lib.hid hI
    clear hI
    obtain ⟨k0, k1⟩ := HX.out wr HI.out.bel
    by_cases hlt : i < ns
    · have HA := Lib.hid (show InA wr wr.heap.size A1 m.st from by obtain ⟨_, _, e, _, _, h⟩ := HSl.out wr HI.out.bel; cases e; exact h)
      obtain ⟨q, ad, hq, rfl, _, hcq⟩ := HA.out.at_ HN.out hlt
      obtain ⟨hq3, hq4⟩ := HCh.out q (List.mem_of_getElem? hq)
      obtain ⟨k, rfl⟩ : ∃ k : Nat, q = (k : Int) := ⟨q.toNat, by omega⟩
      obtain ⟨p1, p2⟩ := pow16 (k := k) (by omega)
      have HP := Lib.hid (show IntKind.i64.wrap (2 ^ k) = ((2 ^ k : Nat) : Int) from by rw [show ((2 : Int) ^ k) = ((2 ^ k : Nat) : Int) from by simp, IntKind.wrap_i64]; omega)
      have HFu := Lib.hid (full_nat k)
      obtain ⟨mm, hmm⟩ : ∃ mm, 2 ^ k = mm := ⟨_, rfl⟩
      have hw := HP.out
      rw [hmm] at hw p1 p2 HFu
      obtain ⟨fu, hfu⟩ : ∃ fu, (mm : Int) - 1 = fu := ⟨_, rfl⟩
      have hwm : IntKind.i64.wrap ((mm : Int) - 1) = fu := by rw [IntKind.wrap_i64]; omega
      rw [hfu] at HFu
      have HQ := Lib.hid (show (m.st.take (i + 1)).map full = (m.st.take i).map full ++ [fu] from by
        rw [show m.st.take (i + 1) = m.st.take i ++ [(k : Int)] from by rw [List.take_add_one, hq]; rfl, List.map_append, List.map_cons, List.map_nil, HFu.out])
      have HLn := Lib.hid (show ((m.st.take i).map full).length + [fu].length ≤ 3000000 from by
        have h1 := List.length_take_le i m.st
        rw [List.length_map]
        simp only [List.length_cons, List.length_nil]
        omega)
      clear hq HP hmm hfu
      go_wp2_with (at_builtin; refine wpList_appN rfl _ _ rfl (HI.out.step (below_new _)) rfl rfl (box_sl (y := fu) (World.alloc_heap_new _ _)) HLn.out ?_; intro v6 w6 hI6 _; obtain ⟨A6, n6, c6, e6⟩ := hI6.slice; subst e6; have HI6 := Lib.hid hI6; clear hI6)
      go_roundw
      case rel => exact ⟨i + 1, _, _, _, rfl, by go_num, by omega, by rw [HQ.out]; exact HI6.out⟩
      case measure => simp [intOf]; omega
    · obtain rfl : ns = i := by omega
      have HI2 := Lib.hid HI.out
      rw [show m.st.take ns = m.st from List.take_of_length_le (by have := HN.out; omega)] at HI2
      go_wp2_with fail
      go_ret
      exact ⟨⟨_, rfl, HI2.out.sl, fun g e => Nat.le_trans HB0.out.size (HI2.out.own.lt g e).1⟩, HB0.out.trans (HI2.out.bel.mono HB0.out.size)⟩
set_option maxRecDepth 100000 in
set_option maxHeartbeats 8000000 in
theorem rOpen_any (v : Value) (m : Mx) (w : World) (hv : MxV w v m) (hs : MSm m) :
    Calls Tryd.prog 18 #[v] w fun e w' => (∃ u, e = .returned (.tuple #[u, .int .i64 (cmE m)]) ∧ InSl w' w'.heap.size u (openF m) ∧ ∀ g, u.ownBlock = some g → w.heap.size ≤ g) ∧ Below w.heap.size w w' := by
  obtain ⟨A1, c1, A2, c2, W0, rfl, hW0, hb0, hM, hS, hR, hX⟩ := mx_box hv
  have HB0 := Lib.hid hb0
  have HW0 := Lib.hid hW0
  have HX := Lib.hid hX
  have HC := Lib.hid (rCheckMatrix_any _ m W0 (hM W0 (Below.refl _ _)) hs)
  have HOp := Lib.hid (fun (h : mxF m = true) Y (hb : Below W0.heap.size W0 Y) => ropen_any _ m Y (hM Y hb) hs (fun q hq => st_range h hq))
  obtain ⟨k0, k1⟩ := hX W0 (Below.refl _ _)
  generalize m.st.length = ns at *
  generalize m.rows.length = nr at *
  clear hv hW0 hb0 hM hS hR hX hs
  cases hm : mxF m with
  | false =>
    have HF := Lib.hid (show cmE m = 30 ∧ openF m = [] from ⟨by unfold cmE; simp [hm], by unfold openF; simp [hm]⟩)
    rw [HF.out.1] at HC ⊢
    rw [HF.out.2]
    clear hm HF HOp
    go_enter Tryd.func18, Tryd.ntmps18
    go_wp2_with fail
    rw [HW0.out]
    (try go_wp2_with fail)
    (with_reducible refine HC.out.mono ?_)
    rintro e w1 ⟨rfl, hb⟩
    have HB1 := Lib.hid (HB0.out.trans (hb.mono HB0.out.size))
    clear hb
    go_wp2_with fail
    go_ret2
    exact ⟨⟨_, rfl, InSl.nil _ _, fun g e => by cases e⟩, HB1.out⟩
  | true =>
    have HF := Lib.hid (show cmE m = 0 ∧ openF m = m.st.map full from ⟨by unfold cmE; simp [hm], by unfold openF; simp [hm]⟩)
    have HOp1 := Lib.hid (HOp.out hm)
    rw [HF.out.1] at HC ⊢
    rw [HF.out.2]
    clear hm HF HOp
    go_enter Tryd.func18, Tryd.ntmps18
    go_wp2_with fail
    rw [HW0.out]
    (try go_wp2_with fail)
    (with_reducible refine HC.out.mono ?_)
    rintro e w1 ⟨rfl, hb⟩
    have HBl := Lib.hid hb
    have HO2 := Lib.hid (HOp1.out w1 hb)
    clear hb k0 k1 HOp1
    obtain ⟨k0, k1⟩ := HX.out w1 HBl.out
    go_wp2_with fail
    (with_reducible refine HO2.out.mono ?_)
    rintro e w2 ⟨⟨u, rfl, hu, ho⟩, hb⟩
    have HR := Lib.hid (And.intro hu ho)
    have HB2 := Lib.hid (HBl.out.trans (hb.mono HBl.out.size))
    clear hu ho hb k0 k1 HO2
    go_wp2_with fail
    go_ret2
    exact ⟨⟨_, rfl, HR.out.1, fun g e => Nat.le_trans (Nat.le_trans HB0.out.size HBl.out.size) (HR.out.2 g e)⟩, HB0.out.trans (HB2.out.mono HB0.out.size)⟩
end Go.Proofs.YthfegbcbpeedbaaDoor
namespace Go.Proofs.YthfegbcbpeedbaaDoor
open Go.RowKit Go.Nm Go.Ky

set_option maxRecDepth 100000 in
set_option maxHeartbeats 8000000 in
theorem rremain_any (v u : Value) (m : Mx) (l : List Int) (w : World) (hv : MxV w v m) (hs : MSm m) (hu : InSl w w.heap.size u l) (hlen : ∀ r ∈ m.rows, l.length = r.may.length) (hl : l.length ≤ 1000000) :
    Calls Tryd.prog 75 #[v, u] w fun e w' => (∃ r, e = .returned r ∧ InSl w' w'.heap.size r ((remL m.rows l).map (·.nm)) ∧ ∀ g, r.ownBlock = some g → w.heap.size ≤ g) ∧ Below w.heap.size w w' := by
  obtain ⟨A1, c1, A2, c2, W0, rfl, hW0, hb0, hM, hS, hR, hX⟩ := mx_box hv
  have HB0 := Lib.hid hb0
  have HW0 := Lib.hid hW0
  have HX := Lib.hid hX
  have HU := Lib.hid (hR W0 (Below.refl _ _))
  have hu0 := hu.step hb0
  have HT := Lib.hid hu0
  obtain ⟨Au, cu, rfl, _⟩ := hu0.form
  have HLn := Lib.hid hlen
  have HLl := Lib.hid hl
  obtain ⟨k0, k1⟩ := hX W0 (Below.refl _ _)
  generalize m.st.length = ns at *
  obtain ⟨n, hn⟩ : ∃ n, m.rows.length = n := ⟨_, rfl⟩
  have HN := Lib.hid hn
  have hn1 : n ≤ 1000 := by have := hs.2.1; omega
  rw [hn] at HX HW0 HU k1 ⊢
  obtain ⟨nl, hnl⟩ : ∃ n, l.length = n := ⟨_, rfl⟩
  rw [hnl] at HT ⊢
  have HRem := Lib.hid (show remL m.rows l = m.rows.filter (fun r => fitsF r.may l) from rfl)
  obtain ⟨res, hres⟩ : ∃ res, remL m.rows l = res := ⟨_, rfl⟩
  rw [hres] at HRem ⊢
  have HI0 := Lib.hid (OwN.start W0)
  clear hv hs hu hu0 hW0 hb0 hM hS hR hX hn hnl hlen hl hres
  go_enter Tryd.func75, Tryd.ntmps75
  go_wp2_with fail
  rw [HW0.out]
  (try go_wp2_with fail)
  clear k0 k1
  go_loopw [5, 6] (fun ov iv wr => ∃ (i : Nat) (Ao : Option Addr) (no co : Nat), ov = .slice Ao no co ∧ iv = .int .i64 (i : Int) ∧ i ≤ n ∧ OwN W0 ov (((m.rows.take i).filter fun r => fitsF r.may l).map (·.nm)) wr) (fun _ iv _ => n - (intOf iv).toNat)
  case atStart => exact ⟨0, _, _, _, rfl, rfl, by omega, HI0.out⟩
  case round =>
    obtain ⟨i, Ao, no, co, rfl, rfl, hin, hI⟩ := hrel
    have HI := Lib.hid hI
    clear hI
    obtain ⟨k0, k1⟩ := HX.out wr HI.out.bel
    by_cases hlt : i < n
    · obtain ⟨r, ad, Am, cm, hr, rfl, hY⟩ := HU.out.at_ hlt
      have HY := Lib.hid hY
      obtain ⟨d0, d1⟩ := (HY.out wr HI.out.bel).1
      have HMe := Lib.hid (rmeet_any _ _ r.may l wr (HY.out wr HI.out.bel).2 (HT.out.step HI.out.bel) (HLn.out r (List.mem_of_getElem? hr)) (by have := HLn.out r (List.mem_of_getElem? hr); have := HLl.out; omega))
      have HQ := Lib.hid hr
      have HLq := Lib.hid (show (((m.rows.take i).filter fun r => fitsF r.may l).map (·.nm)).length + [r.nm].length ≤ 3000000 from by
        have h1 := List.length_filter_le (fun r : Rw => fitsF r.may l) (m.rows.take i)
        have h2 := List.length_take_le i m.rows
        rw [List.length_map]
        simp only [List.length_cons, List.length_nil]
        omega)
      clear hr hY
      go_wp2_with fail
      (with_reducible refine HMe.out.mono ?_)
      rintro e w3 ⟨rfl, hb⟩
      have HI3 := Lib.hid (HI.out.step hb)
      clear hb HMe d0 d1 k0 k1
      obtain ⟨k0, k1⟩ := HX.out w3 HI3.out.bel
      obtain ⟨d0, d1⟩ := (HY.out w3 HI3.out.bel).1
      cases hf : fitsF r.may l with
      | true =>
        have HP := Lib.hid (show ((m.rows.take (i + 1)).filter (fun r => fitsF r.may l)).map (·.nm) = ((m.rows.take i).filter (fun r => fitsF r.may l)).map (·.nm) ++ [r.nm] from by rw [filter_take HQ.out, if_pos hf, List.map_append]; rfl)
        clear hf
        go_wp2_with (at_builtin; refine wpList_appN rfl _ _ rfl (HI3.out.step (below_new _)) rfl rfl (box_sl (y := r.nm) (World.alloc_heap_new _ _)) HLq.out ?_; intro v6 w6 hI6 _; obtain ⟨A6, n6, c6, e6⟩ := hI6.slice; subst e6; have HI6 := Lib.hid hI6; clear hI6)
        go_roundw
        case rel => exact ⟨i + 1, _, _, _, rfl, by go_num, by omega, by rw [HP.out]; exact HI6.out⟩
        case measure => simp [intOf]; omega
      | false =>
        have HP := Lib.hid (show ((m.rows.take (i + 1)).filter (fun r => fitsF r.may l)).map (·.nm) = ((m.rows.take i).filter (fun r => fitsF r.may l)).map (·.nm) from by rw [filter_take HQ.out, if_neg (by rw [hf]; simp), List.append_nil])
        clear hf
        go_wp2_with fail
        go_roundw
        case rel => exact ⟨i + 1, _, _, _, rfl, by go_num, by omega, by rw [HP.out]; exact HI3.out⟩
        case measure => simp [intOf]; omega
    · obtain rfl : n = i := by omega
      have HI2 := Lib.hid HI.out
      rw [show (m.rows.take n).filter (fun r => fitsF r.may l) = res from by rw [HRem.out, List.take_of_length_le (by have := HN.out; omega)]] at HI2
      go_wp2_with fail
      go_ret
      exact ⟨⟨_, rfl, HI2.out.sl, fun g e => Nat.le_trans HB0.out.size (HI2.out.own.lt g e).1⟩, HB0.out.trans (HI2.out.bel.mono HB0.out.size)⟩
set_option maxRecDepth 100000 in
set_option maxHeartbeats 8000000 in
theorem rRemain_any (v u : Value) (m : Mx) (l : List Int) (w : World) (hv : MxV w v m) (hs : MSm m) (hu : InSl w w.heap.size u l) (hl : l.length ≤ 1000000) :
    Calls Tryd.prog 29 #[v, u] w fun e w' => (∃ r, e = .returned (.tuple #[r, .int .i64 (seenE m [l])]) ∧ InSl w' w'.heap.size r (remO m l) ∧ ∀ g, r.ownBlock = some g → w.heap.size ≤ g) ∧ Below w.heap.size w w' := by
  obtain ⟨A1, c1, A2, c2, W0, rfl, hW0, hb0, hM, hS, hR, hX⟩ := mx_box hv
  have HB0 := Lib.hid hb0
  have HW0 := Lib.hid hW0
  have HX := Lib.hid hX
  have hu0 := hu.step hb0
  obtain ⟨Au, cu, rfl, _⟩ := hu0.form
  have HC := Lib.hid (rseenError_any _ _ m l W0 (hM W0 (Below.refl _ _)) hs hu0 hl)
  obtain ⟨k0, k1⟩ := hX W0 (Below.refl _ _)
  have HRm := Lib.hid (fun (hm : mxF m = true ∧ setsF m.st l = true) Y (h : Below W0.heap.size W0 Y) => rremain_any _ _ m l Y (hM Y h) hs (hu0.step h) (fun r hr => by rw [mx_may hm.1 hr]; exact sets_len hm.2) hl)
  obtain ⟨er, hr⟩ : ∃ r, seenE m [l] = r := ⟨_, rfl⟩
  have HE := Lib.hid (show er = 0 ∨ er = 30 ∨ er = 32 from by rw [← hr]; exact seen_cases m [l])
  have HO := Lib.hid (show remO m l = if er = 0 then (remL m.rows l).map (·.nm) else [] from by unfold remO; rw [hr])
  have HG := Lib.hid (show er = 0 → mxF m = true ∧ setsF m.st l = true from fun h => seen_ok (by rw [hr]; exact h))
  rw [hr] at HC ⊢
  rw [HO.out]
  generalize m.st.length = ns at *
  generalize m.rows.length = nr at *
  generalize l.length = n at *
  clear hv hu hu0 hW0 hb0 hM hS hR hX hl hr hs HO
  go_enter Tryd.func29, Tryd.ntmps29
  go_wp2_with fail
  rw [HW0.out]
  (try go_wp2_with fail)
  (with_reducible refine HC.out.mono ?_)
  rintro e w1 ⟨rfl, hb⟩
  have HB2 := Lib.hid hb
  clear hb k0 k1 HC
  rcases HE.out with rfl | rfl | rfl
  · obtain ⟨k0, k1⟩ := HX.out w1 HB2.out
    have HR1 := Lib.hid (HRm.out (HG.out rfl) w1 HB2.out)
    clear HRm HG HE
    go_wp2_with fail
    (with_reducible refine HR1.out.mono ?_)
    rintro e w2 ⟨⟨vs, rfl, hvs, ho⟩, hb⟩
    have HB3 := Lib.hid (HB2.out.trans (hb.mono HB2.out.size))
    have HR := Lib.hid (And.intro hvs ho)
    clear hvs ho hb k0 k1 HR1
    go_wp2_with fail
    go_ret2
    exact ⟨⟨_, rfl, HR.out.1, fun g e => Nat.le_trans (Nat.le_trans HB0.out.size HB2.out.size) (HR.out.2 g e)⟩, HB0.out.trans (HB3.out.mono HB0.out.size)⟩
  · go_wp2_with fail
    go_ret2
    exact ⟨⟨_, rfl, InSl.nil _ _, fun g e => by cases e⟩, HB0.out.trans (HB2.out.mono HB0.out.size)⟩
  · go_wp2_with fail
    go_ret2
    exact ⟨⟨_, rfl, InSl.nil _ _, fun g e => by cases e⟩, HB0.out.trans (HB2.out.mono HB0.out.size)⟩
end Go.Proofs.YthfegbcbpeedbaaDoor
namespace Go.Proofs.YthfegbcbpeedbaaDoor
open Go.RowKit Go.Nm Go.Ky

set_option maxRecDepth 100000 in
set_option maxHeartbeats 8000000 in
theorem rFits_any (v u : Value) (m : Mx) (name : Int) (l : List Int) (w : World) (hv : MxV w v m) (hs : MSm m) (hu : InSl w w.heap.size u l) (hl : l.length ≤ 1000000) :
    Calls Tryd.prog 27 #[v, .int .i64 name, u] w fun e w' => e = .returned (.tuple #[.bool (fitB m name l), .int .i64 (fitE m name l)]) ∧ Below w.heap.size w w' := by
  obtain ⟨A1, c1, A2, c2, W0, rfl, hW0, hb0, hM, hS, hR, hX⟩ := mx_box hv
  have HB0 := Lib.hid hb0
  have HW0 := Lib.hid hW0
  have HX := Lib.hid hX
  have hu0 := hu.step hb0
  have HU := Lib.hid hu0
  have HRr := Lib.hid (hR W0 (Below.refl _ _))
  obtain ⟨Au, cu, rfl, _⟩ := hu0.form
  have HC := Lib.hid (rseenError_any _ _ m l W0 (hM W0 (Below.refl _ _)) hs hu0 hl)
  have HAt := Lib.hid (fun Y (h : Below W0.heap.size W0 Y) => rat_any _ m name Y (hM Y h) hs)
  obtain ⟨k0, k1⟩ := hX W0 (Below.refl _ _)
  obtain ⟨er, hr⟩ : ∃ r, seenE m [l] = r := ⟨_, rfl⟩
  have HE := Lib.hid (show er = 0 ∨ er = 30 ∨ er = 32 from by rw [← hr]; exact seen_cases m [l])
  have HO := Lib.hid (show fitE m name l = (if er = 0 then rowE m name else er) ∧ fitB m name l = (if er = 0 ∧ rowE m name = 0 then fitsF (rowF m name).may l else false) from ⟨by unfold fitE; rw [hr], by unfold fitB; rw [hr]⟩)
  have HG := Lib.hid (show er = 0 → mxF m = true ∧ setsF m.st l = true from fun h => seen_ok (by rw [hr]; exact h))
  have HLl := Lib.hid hl
  have HRo := Lib.hid (fun h : mxF m = true => (show rowE m name = (if (rowO m name).isSome = true then 0 else 1) ∧ rowF m name = (rowO m name).getD ⟨0, []⟩ from ⟨by unfold rowE; rw [if_pos h], by unfold rowF; rw [if_pos h]⟩))
  have HMl := Lib.hid (fun (h : mxF m = true ∧ setsF m.st l = true) (r : Rw) (hr : r ∈ m.rows) => (show l.length = r.may.length from by rw [mx_may h.1 hr]; exact sets_len h.2))
  rw [hr] at HC
  rw [HO.out.1, HO.out.2]
  obtain ⟨rf, hrf⟩ : ∃ rf, rowF m name = rf := ⟨_, rfl⟩
  obtain ⟨re, hre⟩ : ∃ re, rowE m name = re := ⟨_, rfl⟩
  obtain ⟨ro, hro⟩ : ∃ ro, rowO m name = ro := ⟨_, rfl⟩
  rw [hrf, hre, hro] at HRo
  rw [hrf, hre]
  rw [hro] at HAt
  obtain ⟨n, hn⟩ : ∃ n, l.length = n := ⟨_, rfl⟩
  rw [hn] at HC HU HMl ⊢
  have HNn := Lib.hid hn
  generalize m.st.length = ns at *
  obtain ⟨nr, hnr⟩ : ∃ n, m.rows.length = n := ⟨_, rfl⟩
  rw [hnr] at HC HW0 HX HAt HRr k1 ⊢
  clear hv hu hu0 hW0 hb0 hM hS hR hX hl hr hs HO hn hnr hrf hre hro
  go_enter Tryd.func27, Tryd.ntmps27
  go_wp2_with fail
  rw [HW0.out]
  (try go_wp2_with fail)
  (with_reducible refine HC.out.mono ?_)
  rintro e w1 ⟨rfl, hb⟩
  have HB2 := Lib.hid hb
  clear hb k0 k1 HC
  rcases HE.out with rfl | rfl | rfl
  · obtain ⟨k0, k1⟩ := HX.out w1 HB2.out
    have HG1 := Lib.hid (HG.out rfl)
    have HA1 := Lib.hid (HAt.out w1 HB2.out)
    have HRo1 := Lib.hid (HRo.out HG1.out.1)
    have HMl1 := Lib.hid (HMl.out HG1.out)
    clear HRo HG HE HAt HMl
    go_wp2_with fail
    (with_reducible refine HA1.out.mono ?_)
    rintro e w2 ⟨hcase, hb⟩
    have HB3 := Lib.hid (HB2.out.trans (hb.mono HB2.out.size))
    clear hb k0 k1 HA1
    rcases hcase with ⟨i, r, rfl, hri, hin, rfl⟩ | ⟨rfl, rfl⟩
    · obtain ⟨r', ad, Am, cm, hr', rfl, hY⟩ := HRr.out.at_ hin
      rw [hri] at hr'; injection hr' with hr'; subst hr'
      have HF := Lib.hid (show re = 0 ∧ rf = r from HRo1.out)
      have HMe := Lib.hid (rmeet_any _ _ r.may l w2 (hY w2 HB3.out).2 (HU.out.step HB3.out) (HNn.out.trans (HMl1.out r (List.mem_of_getElem? hri))) (by have := HMl1.out r (List.mem_of_getElem? hri); have := HNn.out; have := HLl.out; omega))
      obtain ⟨d0, d1⟩ := (hY w2 HB3.out).1
      obtain ⟨k0, k1⟩ := HX.out w2 HB3.out
      clear hY hri
      go_wp2_with fail
      (with_reducible refine HMe.out.mono ?_)
      rintro e w3 ⟨rfl, hb⟩
      have HB4 := Lib.hid (HB3.out.trans (hb.mono HB3.out.size))
      clear hb k0 k1 d0 d1 HMe
      go_wp2_with fail
      go_ret2
      exact ⟨by rw [HF.out.1, HF.out.2]; simp, HB0.out.trans (HB4.out.mono HB0.out.size)⟩
    · have HF := Lib.hid (show re = 1 ∧ rf = ⟨0, []⟩ from HRo1.out)
      go_wp2_with fail
      go_ret2
      exact ⟨by rw [HF.out.1, HF.out.2]; simp, HB0.out.trans (HB3.out.mono HB0.out.size)⟩
  · go_wp2_with fail
    go_ret2
    exact ⟨by simp, HB0.out.trans (HB2.out.mono HB0.out.size)⟩
  · go_wp2_with fail
    go_ret2
    exact ⟨by simp, HB0.out.trans (HB2.out.mono HB0.out.size)⟩
end Go.Proofs.YthfegbcbpeedbaaDoor
namespace Go.Proofs.YthfegbcbpeedbaaDoor
open Go.RowKit Go.Nm Go.Ky

set_option maxRecDepth 100000 in
set_option maxHeartbeats 8000000 in
theorem rRow_any (v : Value) (m : Mx) (name : Int) (w : World) (hv : MxV w v m) (hs : MSm m) :
    Calls Tryd.prog 20 #[v, .int .i64 name] w fun e w' => (∃ rv, e = .returned (.tuple #[.agg #[.int .i64 (rowF m name).nm, rv], .int .i64 (rowE m name)]) ∧ Fr w.heap.size w' rv (rowF m name).may) ∧ Below w.heap.size w w' := by
  obtain ⟨A1, c1, A2, c2, W0, rfl, hW0, hb0, hM, hS, hR, hX⟩ := mx_box hv
  have hz : W0.heap.size = w.heap.size + 1 := by rw [← hW0]; simp
  have hbb := below_new (w := W0) (.cells #[.int .i64 0, .slice none 0 0] 35)
  have hnb := World.alloc_heap_new W0 (.cells #[.int .i64 0, .slice none 0 0] 35)
  obtain ⟨W1, hW1⟩ : ∃ W1, W0.alloc (.cells #[.int .i64 0, .slice none 0 0] 35) = W1 := ⟨_, rfl⟩
  rw [hW1] at hbb hnb
  rw [hz] at hnb
  have HB1 := Lib.hid hbb
  have HW := Lib.hid (And.intro hW0 hW1)
  have HB0 := Lib.hid hb0
  have HX := Lib.hid (fun Y (h : Below W1.heap.size W1 Y) => And.intro (hX Y (hbb.trans (h.mono hbb.size))) ((h.block _ (Array.getElem?_eq_some_iff.1 hnb).1).trans hnb))
  have HC := Lib.hid (rCheckMatrix_any _ m W1 (hM W1 hbb) hs)
  have HAt := Lib.hid (fun Y (h : Below W1.heap.size W1 Y) => rat_any _ m name Y (hM Y (hbb.trans (h.mono hbb.size))) hs)
  have HRr := Lib.hid (hR W1 hbb)
  have HM3 := Lib.hid hs.2.2
  obtain ⟨⟨k0, k1⟩, hr⟩ := HX.out W1 (Below.refl _ _)
  have hW2 : w.heap.size + 2 ≤ W1.heap.size := by rw [← hW1]; simp [hz]
  generalize m.st.length = ns at *
  obtain ⟨nr, hnr⟩ : ∃ n, m.rows.length = n := ⟨_, rfl⟩
  rw [hnr] at HC HW HX HAt HRr k1 ⊢
  clear hv hs hW0 hb0 hM hS hR hX hbb hnb hW1 hz hr hnr
  cases hm : mxF m with
  | false =>
    have HF := Lib.hid (show cmE m = 30 ∧ rowE m name = 30 ∧ rowF m name = ⟨0, []⟩ from ⟨by unfold cmE; simp [hm], by unfold rowE; simp [hm], by unfold rowF; simp [hm]⟩)
    rw [HF.out.1] at HC
    rw [HF.out.2.1, HF.out.2.2]
    clear hm HF HAt
    go_enter Tryd.func20, Tryd.ntmps20
    go_wp2_with fail
    rw [HW.out.1, HW.out.2]
    (try go_wp2_with fail)
    (with_reducible refine HC.out.mono ?_)
    rintro e w1 ⟨rfl, hb⟩
    have HB2 := Lib.hid (HB0.out.trans ((HB1.out.trans (hb.mono HB1.out.size)).mono HB0.out.size))
    obtain ⟨_, hr⟩ := HX.out w1 hb
    obtain ⟨r0, r1⟩ := cells_two hr
    have f0 := frozen_cells hr 0
    have f1 := frozen_cells hr 1
    clear hb hr k0 k1
    go_wp2_with fail
    exact bodyPost_ret (v := .tuple #[.agg #[.int .i64 0, .slice none 0 0], .int .i64 30]) (by simp [results, Tryd.results20, go_sem, r0, r1]) rfl ⟨⟨_, rfl, Fr.nil _ _⟩, (HB2.out.setCell (by simp) _).setCell (by simp) _⟩
  | true =>
    have HF := Lib.hid (show cmE m = 0 ∧ rowE m name = (if (rowO m name).isSome = true then 0 else 1) ∧ rowF m name = (rowO m name).getD ⟨0, []⟩ from ⟨by unfold cmE; simp [hm], by unfold rowE; simp [hm], by unfold rowF; simp [hm]⟩)
    rw [HF.out.1] at HC
    rw [HF.out.2.1, HF.out.2.2]
    have HO := Lib.hid (show ∀ r, rowO m name = some r → r.nm = name from fun r h => by have := List.find?_some h; simpa using this)
    obtain ⟨ro, hro⟩ : ∃ ro, rowO m name = ro := ⟨_, rfl⟩
    rw [hro] at HO HAt ⊢
    clear hm HF hro
    go_enter Tryd.func20, Tryd.ntmps20
    go_wp2_with fail
    rw [HW.out.1, HW.out.2]
    (try go_wp2_with fail)
    (with_reducible refine HC.out.mono ?_)
    rintro e w1 ⟨rfl, hb⟩
    have HB2 := Lib.hid hb
    have HA1 := Lib.hid (HAt.out w1 hb)
    clear hb k0 k1 HC HAt
    obtain ⟨⟨k0, k1⟩, _⟩ := HX.out w1 HB2.out
    go_wp2_with fail
    (with_reducible refine HA1.out.mono ?_)
    rintro e w2 ⟨hcase, hb⟩
    have HB3 := Lib.hid (HB2.out.trans (hb.mono HB2.out.size))
    clear hb k0 k1 HA1
    rcases hcase with ⟨i, r, rfl, hri, hin, rfl⟩ | ⟨rfl, rfl⟩
    · obtain ⟨r', ad, Am, cm, hr', rfl, hY⟩ := HRr.out.at_ hin
      rw [hri] at hr'; injection hr' with hr'; subst hr'
      have HN := Lib.hid (And.intro (HO.out r rfl) (HM3.out r (List.mem_of_getElem? hri)))
      have HY := Lib.hid hY
      have HL0 := Lib.hid (OwN.lit w2)
      have HB4 := Lib.hid (HB3.out.trans (HL0.out.bel.mono HB3.out.size))
      obtain ⟨d0, d1⟩ := (hY _ HB4.out).1
      obtain ⟨⟨k0, k1⟩, hr⟩ := HX.out _ HB4.out
      have HIm := Lib.hid ((hY _ HB4.out).2)
      have HLe := Lib.hid (show ([] : List Int).length + r.may.length ≤ 3000000 from by have := HM3.out r (List.mem_of_getElem? hri); simp; omega)
      have hw2 : w.heap.size + 2 ≤ w2.heap.size := by have := HB3.out.size; omega
      clear hY hri hr
      go_wp2_with (at_builtin; refine wpList_appN rfl _ _ rfl HL0.out rfl rfl HIm.out HLe.out ?_; intro v6 w6 hI6 hg6; obtain ⟨A6, n6, c6, e6⟩ := hI6.slice; subst e6; have HI6 := Lib.hid hI6; have HW6 := Lib.hid (HX.out w6 (HB3.out.trans (hI6.bel.mono HB3.out.size))).2; have f0 := frozen_cells HW6.out 0; have f1 := frozen_cells HW6.out 1; obtain ⟨r0, r1⟩ := cells_two HW6.out; clear hI6 hg6)
      have hst0 := setCell_grown' w6 (w.heap.size + 1) 0 (.int .i64 name)
      have hst1 := setCell_grown' (w6.setCell ⟨w.heap.size + 1, 0, none⟩ (.int .i64 name)) (w.heap.size + 1) 1 (.slice A6 n6 c6)
      have hfr : ∀ {u : Value} {M : List Int} {vv : Value} {k : Nat} {Z : World}, Fr w2.heap.size Z u M → Fr w2.heap.size (Z.setCell ⟨w.heap.size + 1, k, none⟩ vv) u M := fun {u M vv k Z} h => by
        have hst := setCell_grown' Z (w.heap.size + 1) k vv
        exact ⟨(h.1.keepOwn (w' := Z.setCell ⟨w.heap.size + 1, k, none⟩ vv) fun p hp => by
          have := h.2 _ hp
          exact World.cell?_of_block (hst.block _ this.2 fun e => by injection e with e; omega)).mono hst.size, fun g e => ⟨(h.2 g e).1, Nat.lt_of_lt_of_le (h.2 g e).2 hst.size⟩⟩
      have HFr := Lib.hid ((hfr (k := 1) (vv := .slice A6 n6 c6) (hfr (k := 0) (vv := .int .i64 name) HI6.out.fr)).low (show w.heap.size ≤ w2.heap.size by omega))
      have HBf := Lib.hid (HB0.out.trans ((HB1.out.trans ((HB3.out.trans (HI6.out.bel.mono HB3.out.size)).mono HB1.out.size)).mono HB0.out.size))
      exact bodyPost_ret (v := .tuple #[.agg #[.int .i64 name, .slice A6 n6 c6], .int .i64 0]) (by simp [results, Tryd.results20, go_sem, r0, r1]) rfl ⟨⟨_, by rw [HN.out.1], by simpa using HFr.out⟩, (HBf.out.setCell (by simp) _).setCell (by simp) _⟩
    · have HB4 := Lib.hid (HB0.out.trans ((HB1.out.trans (HB3.out.mono HB1.out.size)).mono HB0.out.size))
      obtain ⟨_, hr⟩ := HX.out _ HB3.out
      obtain ⟨r0, r1⟩ := cells_two hr
      have f0 := frozen_cells hr 0
      have f1 := frozen_cells hr 1
      clear hr
      go_wp2_with fail
      exact bodyPost_ret (v := .tuple #[.agg #[.int .i64 0, .slice none 0 0], .int .i64 1]) (by simp [results, Tryd.results20, go_sem, r0, r1]) rfl ⟨⟨_, rfl, Fr.nil _ _⟩, (HB4.out.setCell (by simp) _).setCell (by simp) _⟩
end Go.Proofs.YthfegbcbpeedbaaDoor
