/- The reference: sets. -/
import Derived.Test.YthfegbcbpeedbaaDoorKyQ
namespace Go.Proofs.YthfegbcbpeedbaaDoor
open Go.RowKit Go.Nm Go.Ky

set_option maxRecDepth 100000 in
set_option maxHeartbeats 4000000 in
theorem rmeet_any (u v : Value) (a b : List Int) (w : World) (hu : InSl w w.heap.size u a) (hv : InSl w w.heap.size v b) (hl : b.length = a.length) (hn : a.length ≤ 1000000) :
    Calls Tryd.prog 72 #[u, v] w fun e w' => e = .returned (.bool (fitsF a b)) ∧ Below w.heap.size w w' := by
  obtain ⟨A, c, rfl, _⟩ := hu.form
  obtain ⟨B, d, rfl, _⟩ := hv.form
  have HA := Lib.hid (show InA w w.heap.size A a from by obtain ⟨_, _, e, _, _, h⟩ := hu; cases e; exact h)
  have HB := Lib.hid (show InA w w.heap.size B b from by obtain ⟨_, _, e, _, _, h⟩ := hv; cases e; exact h)
  obtain ⟨n, h⟩ : ∃ n, a.length = n := ⟨_, rfl⟩
  have HN := Lib.hid (And.intro h (hl.trans h))
  have HZl := Lib.hid (show (a.zip b).length = n from by rw [List.length_zip, hl, h]; omega)
  obtain ⟨r, hr⟩ : ∃ r, fitsF a b = r := ⟨_, rfl⟩
  have HR := Lib.hid (show (a.zip b).all (fun p => decide (meetF p.1 p.2 ≠ 0)) = r from hr)
  rw [hr]
  rw [h] at hn ⊢
  rw [hl.trans h]
  clear hu hv h hl hr
  go_enter Tryd.func72, Tryd.ntmps72
  go_wp2_with fail
  go_loopw [5] (fun iv wr => ∃ i : Nat, iv = .int .i64 (i : Int) ∧ i ≤ n ∧ Below w.heap.size w wr ∧ (((a.zip b).take i).all fun p => decide (meetF p.1 p.2 ≠ 0)) = true) (fun iv _ => n - (intOf iv).toNat)
  case atStart => exact ⟨0, rfl, by omega, Below.refl _ _, rfl⟩
  case round =>
    obtain ⟨i, rfl, hin, hb, hg⟩ := hrel
    have HBl := Lib.hid hb
    have HG := Lib.hid hg
    clear hb hg
    by_cases hlt : i < n
    · obtain ⟨x, ad, hx, rfl, _, hcx⟩ := (HA.out.below HBl.out).at_ HN.out.1 hlt
      obtain ⟨y, bd, hy, rfl, _, hcy⟩ := (HB.out.below HBl.out).at_ HN.out.2 hlt
      have HQ := Lib.hid (zip_get hx hy)
      obtain ⟨z, hz⟩ : ∃ z, bits BinOp.and IntKind.i64 x y = z := ⟨_, rfl⟩
      have HZ := Lib.hid hz
      have ss := fun z => And.intro (Wb.cell hcx z) (Wb.cell hcy z)
      clear hx hy
      by_cases h0 : z = 0
      · have HF := Lib.hid (show r = false from by rw [← HR.out]; exact all_false HQ.out (decide_eq_false (by show ¬ meetF x y ≠ 0; unfold meetF; rw [HZ.out, h0]; simp)))
        go_wp2_with fail
        refine wp_region_wb (by kernel_rfl) (by kernel_rfl) ?_; (repeat ((with_reducible refine wpQuiet_step ?_); intro K hK; go_simp; (try (refine ite_neg_of (by simp [undef]) ?_)); first | (with_reducible refine hK _ ?_; clear hK K) | (apply Exists.intro; (with_reducible refine ⟨fun _ => ?_, hK _ ?_⟩); (fail); clear hK K))); (with_reducible refine wpQuiet_nil ?_); rintro w1 ⟨⟨_, hb1⟩, rfl⟩; (try dsimp only)
        go_wp2_with fail
        go_ret
        exact ⟨ret_b HF.out.symm, HBl.out.trans (hb1.mono HBl.out.size)⟩
      · have HT := Lib.hid (show (((a.zip b).take (i + 1)).all fun p => decide (meetF p.1 p.2 ≠ 0)) = true from by rw [all_take HQ.out, HG.out]; exact decide_eq_true (by show meetF x y ≠ 0; unfold meetF; rw [HZ.out]; exact h0))
        go_wp2_with fail
        refine wp_region_wb (by kernel_rfl) (by kernel_rfl) ?_; (repeat ((with_reducible refine wpQuiet_step ?_); intro K hK; go_simp; (try (refine ite_neg_of (by simp [undef]) ?_)); first | (with_reducible refine hK _ ?_; clear hK K) | (apply Exists.intro; (with_reducible refine ⟨fun _ => ?_, hK _ ?_⟩); (fail); clear hK K))); (with_reducible refine wpQuiet_nil ?_); rintro w1 ⟨⟨_, hb1⟩, rfl⟩; (try dsimp only)
        go_wp2_with fail
        have HB2 := Lib.hid (HBl.out.trans (hb1.mono HBl.out.size))
        clear hb1 ss
        go_roundw
        case rel => exact ⟨i + 1, by go_num, by omega, HB2.out, HT.out⟩
        case measure => simp [intOf]; omega
    · obtain rfl : n = i := by omega
      have HF := Lib.hid (show r = true from by rw [← HR.out]; exact all_end HZl.out HG.out)
      go_wp2_with fail
      go_ret
      exact ⟨ret_b HF.out.symm, HBl.out⟩
end Go.Proofs.YthfegbcbpeedbaaDoor
namespace Go.Proofs.YthfegbcbpeedbaaDoor
open Go.RowKit Go.Nm Go.Ky

set_option maxRecDepth 100000 in
set_option maxHeartbeats 4000000 in
theorem rsets_any (u v : Value) (st l : List Int) (w : World) (hu : InSl w w.heap.size u st) (hv : InSl w w.heap.size v l) (hc : ∀ q ∈ st, 2 ≤ q ∧ q ≤ 16) (hn : st.length ≤ 1000000) (hm : l.length ≤ 1000000) :
    Calls Tryd.prog 68 #[u, v] w fun e w' => e = .returned (.bool (setsF st l)) ∧ Below w.heap.size w w' := by
  obtain ⟨A, c, rfl, _⟩ := hu.form
  obtain ⟨B, d, rfl, _⟩ := hv.form
  have HA := Lib.hid (show InA w w.heap.size A st from by obtain ⟨_, _, e, _, _, h⟩ := hu; cases e; exact h)
  have HB := Lib.hid (show InA w w.heap.size B l from by obtain ⟨_, _, e, _, _, h⟩ := hv; cases e; exact h)
  have HC := Lib.hid hc
  obtain ⟨n, h⟩ : ∃ n, st.length = n := ⟨_, rfl⟩
  obtain ⟨nl, h2⟩ : ∃ n, l.length = n := ⟨_, rfl⟩
  obtain ⟨r, hr⟩ : ∃ r, setsF st l = r := ⟨_, rfl⟩
  have HR := Lib.hid (show r = (decide (nl = n) && (st.zip l).all fun p => decide (1 ≤ p.2 ∧ p.2 ≤ full p.1)) from by rw [← hr]; unfold setsF; rw [h, h2])
  have HN := Lib.hid (And.intro h h2)
  rw [hr]
  rw [h] at hn ⊢
  rw [h2] at hm ⊢
  clear hu hv h h2 hr hc
  by_cases hq : nl = n
  case neg =>
    have hq2 : ((nl : Int) != (n : Int)) = true := by simp; omega
    have HF := Lib.hid (show r = false from by rw [HR.out, decide_eq_false hq, Bool.false_and])
    clear hq
    go_enter Tryd.func68, Tryd.ntmps68
    go_wp2_with fail
    go_ret
    exact ⟨ret_b HF.out.symm, Below.refl _ _⟩
  case pos =>
  subst hq
  have hq2 : ((nl : Int) != (nl : Int)) = false := by simp
  have HT0 := Lib.hid (show r = (st.zip l).all fun p => decide (1 ≤ p.2 ∧ p.2 ≤ full p.1) from by rw [HR.out]; simp)
  have HZl := Lib.hid (show (st.zip l).length = nl from by rw [List.length_zip, HN.out.1, HN.out.2]; omega)
  clear HR
  go_enter Tryd.func68, Tryd.ntmps68
  go_wp2_with fail
  go_loopw [5] (fun iv wr => ∃ i : Nat, iv = .int .i64 (i : Int) ∧ i ≤ nl ∧ Below w.heap.size w wr ∧ (((st.zip l).take i).all fun p => decide (1 ≤ p.2 ∧ p.2 ≤ full p.1)) = true) (fun iv _ => nl - (intOf iv).toNat)
  case atStart => exact ⟨0, rfl, by omega, Below.refl _ _, rfl⟩
  case round =>
    obtain ⟨i, rfl, hin, hb, hg⟩ := hrel
    have HBl := Lib.hid hb
    have HG := Lib.hid hg
    clear hb hg
    by_cases hlt : i < nl
    · obtain ⟨q, ad, hx, rfl, _, hcx⟩ := (HA.out.below HBl.out).at_ HN.out.1 hlt
      obtain ⟨y, bd, hy, rfl, _, hcy⟩ := (HB.out.below HBl.out).at_ HN.out.2 hlt
      have HQ := Lib.hid (zip_get hx hy)
      obtain ⟨hq3, hq4⟩ := HC.out q (List.mem_of_getElem? hx)
      obtain ⟨k, rfl⟩ : ∃ k : Nat, q = (k : Int) := ⟨q.toNat, by omega⟩
      obtain ⟨p1, p2⟩ := pow16 (k := k) (by omega)
      have HP := Lib.hid (show IntKind.i64.wrap (2 ^ k) = ((2 ^ k : Nat) : Int) from by rw [show ((2 : Int) ^ k) = ((2 ^ k : Nat) : Int) from by simp, IntKind.wrap_i64]; omega)
      have HFu := Lib.hid (full_nat k)
      obtain ⟨mm, hmm⟩ : ∃ mm, 2 ^ k = mm := ⟨_, rfl⟩
      have hw := HP.out
      rw [hmm] at hw p1 p2 HFu
      obtain ⟨fu, hfu⟩ : ∃ fu, (mm : Int) - 1 = fu := ⟨_, rfl⟩
      have hwm : IntKind.i64.wrap ((mm : Int) - 1) = fu := by rw [IntKind.wrap_i64]; omega
      rw [hfu] at HFu
      have hW := rwithin_any y 1 fu
      have ss := fun z => And.intro (Wb.cell hcx z) (Wb.cell hcy z)
      clear hx hy HP hmm hfu
      by_cases h1 : 1 ≤ y ∧ y ≤ fu
      · simp only [decide_eq_true h1] at hW
        have HW := Lib.hid hW
        clear hW
        have HT := Lib.hid (show (((st.zip l).take (i + 1)).all fun p => decide (1 ≤ p.2 ∧ p.2 ≤ full p.1)) = true from by rw [all_take HQ.out, HG.out]; exact decide_eq_true (by simp only [HFu.out]; exact h1))
        clear h1
        go_wp2_with fail
        refine wp_region_wb (by kernel_rfl) (by kernel_rfl) ?_; (repeat ((with_reducible refine wpQuiet_step ?_); intro K hK; go_simp; (try (refine ite_neg_of (by simp [undef]) ?_)); first | (with_reducible refine hK _ ?_; clear hK K) | (apply Exists.intro; (with_reducible refine ⟨fun _ => ?_, hK _ ?_⟩); ((go_at_call 67; exact Calls.wb (HW.out _))); clear hK K))); (with_reducible refine wpQuiet_nil ?_); rintro w1 ⟨⟨_, hb1⟩, rfl⟩; (try dsimp only)
        go_wp2_with fail
        have HB2 := Lib.hid (HBl.out.trans (hb1.mono HBl.out.size))
        clear hb1 ss
        go_roundw
        case rel => exact ⟨i + 1, by go_num, by omega, HB2.out, HT.out⟩
        case measure => simp [intOf]; omega
      · simp only [decide_eq_false h1] at hW
        have HW := Lib.hid hW
        clear hW
        have HF := Lib.hid (show r = false from by rw [HT0.out]; exact all_false HQ.out (decide_eq_false (by simp only [HFu.out]; exact h1)))
        clear h1
        go_wp2_with fail
        refine wp_region_wb (by kernel_rfl) (by kernel_rfl) ?_; (repeat ((with_reducible refine wpQuiet_step ?_); intro K hK; go_simp; (try (refine ite_neg_of (by simp [undef]) ?_)); first | (with_reducible refine hK _ ?_; clear hK K) | (apply Exists.intro; (with_reducible refine ⟨fun _ => ?_, hK _ ?_⟩); ((go_at_call 67; exact Calls.wb (HW.out _))); clear hK K))); (with_reducible refine wpQuiet_nil ?_); rintro w1 ⟨⟨_, hb1⟩, rfl⟩; (try dsimp only)
        go_wp2_with fail
        go_ret
        exact ⟨ret_b HF.out.symm, HBl.out.trans (hb1.mono HBl.out.size)⟩
    · obtain rfl : nl = i := by omega
      have HF := Lib.hid (show r = true from by rw [HT0.out]; exact all_end HZl.out HG.out)
      go_wp2_with fail
      go_ret
      exact ⟨ret_b HF.out.symm, HBl.out⟩
end Go.Proofs.YthfegbcbpeedbaaDoor
