/- The reference: sets, meet, at, open. -/
import Derived.Test.YthfegbcbpeedbaaDoorKyQ
namespace Go.Proofs.YthfegbcbpeedbaaDoor
open Go.RowKit Go.Nm Go.Ky

set_option maxRecDepth 100000 in
set_option maxHeartbeats 4000000 in
theorem rmeet_any (u v : Value) (a b : List Int) (w : World) (hu : InSl w w.heap.size u a) (hv : InSl w w.heap.size v b) (hl : b.length = a.length) (hn : a.length ≤ 1000000) :
    Calls Tryd.prog 72 #[u, v] w fun e w' => e = .returned (.bool (fitsF a b)) ∧ Below w.heap.size w w' := by
  obtain ⟨A, c, rfl, _⟩ := hu.form
  obtain ⟨B, d, rfl, _⟩ := hv.form
  have HA := Lib.hid (show InA w w.heap.size A a from by obtain ⟨_, _, e, _, _, h⟩ := hu; cases e; exact h)
  have HB := Lib.hid (show InA w w.heap.size B b from by obtain ⟨_, _, e, _, _, h⟩ := hv; cases e; exact h)
  obtain ⟨n, h⟩ : ∃ n, a.length = n := ⟨_, rfl⟩
  have HN := Lib.hid (And.intro h (hl.trans h))
  have HZl := Lib.hid (show (a.zip b).length = n from by rw [List.length_zip, hl, h]; omega)
  obtain ⟨r, hr⟩ : ∃ r, fitsF a b = r := ⟨_, rfl⟩
  have HR := Lib.hid (show (a.zip b).all (fun p => decide (meetF p.1 p.2 ≠ 0)) = r from hr)
  rw [hr]
  rw [h] at hn ⊢
  rw [hl.trans h]
  clear hu hv h hl hr
  go_enter Tryd.func72, Tryd.ntmps72
  go_wp2_with fail
  go_loopw [5] (fun iv wr => ∃ i : Nat, iv = .int .i64 (i : Int) ∧ i ≤ n ∧ Below w.heap.size w wr ∧ (((a.zip b).take i).all fun p => decide (meetF p.1 p.2 ≠ 0)) = true) (fun iv _ => n - (intOf iv).toNat)
  case atStart => exact ⟨0, rfl, by omega, Below.refl _ _, rfl⟩
  case round =>
    obtain ⟨i, rfl, hin, hb, hg⟩ := hrel
    have HBl := Lib.hid hb
    have HG := Lib.hid hg
    clear hb hg
    by_cases hlt : i < n
    · obtain ⟨x, ad, hx, rfl, _, hcx⟩ := (HA.out.below HBl.out).at_ HN.out.1 hlt
      obtain ⟨y, bd, hy, rfl, _, hcy⟩ := (HB.out.below HBl.out).at_ HN.out.2 hlt
      have HQ := Lib.hid (zip_get hx hy)
      obtain ⟨z, hz⟩ : ∃ z, bits BinOp.and IntKind.i64 x y = z := ⟨_, rfl⟩
      have HZ := Lib.hid hz
      have ss := fun z => And.intro (Wb.cell hcx z) (Wb.cell hcy z)
      clear hx hy
      by_cases h0 : z = 0
      · have HF := Lib.hid (show r = false from by rw [← HR.out]; exact all_false HQ.out (decide_eq_false (by show ¬ meetF x y ≠ 0; unfold meetF; rw [HZ.out, h0]; simp)))
        go_wp2_with fail
        refine wp_region_wb (by kernel_rfl) (by kernel_rfl) ?_; (repeat ((with_reducible refine wpQuiet_step ?_); intro K hK; go_simp; (try (refine ite_neg_of (by simp [undef]) ?_)); first | (with_reducible refine hK _ ?_; clear hK K) | (apply Exists.intro; (with_reducible refine ⟨fun _ => ?_, hK _ ?_⟩); (fail); clear hK K))); (with_reducible refine wpQuiet_nil ?_); rintro w1 ⟨⟨_, hb1⟩, rfl⟩; (try dsimp only)
        go_wp2_with fail
        go_ret
        exact ⟨ret_b HF.out.symm, HBl.out.trans (hb1.mono HBl.out.size)⟩
      · have HT := Lib.hid (show (((a.zip b).take (i + 1)).all fun p => decide (meetF p.1 p.2 ≠ 0)) = true from by rw [all_take HQ.out, HG.out]; exact decide_eq_true (by show meetF x y ≠ 0; unfold meetF; rw [HZ.out]; exact h0))
        go_wp2_with fail
        refine wp_region_wb (by kernel_rfl) (by kernel_rfl) ?_; (repeat ((with_reducible refine wpQuiet_step ?_); intro K hK; go_simp; (try (refine ite_neg_of (by simp [undef]) ?_)); first | (with_reducible refine hK _ ?_; clear hK K) | (apply Exists.intro; (with_reducible refine ⟨fun _ => ?_, hK _ ?_⟩); (fail); clear hK K))); (with_reducible refine wpQuiet_nil ?_); rintro w1 ⟨⟨_, hb1⟩, rfl⟩; (try dsimp only)
        go_wp2_with fail
        have HB2 := Lib.hid (HBl.out.trans (hb1.mono HBl.out.size))
        clear hb1 ss
        go_roundw
        case rel => exact ⟨i + 1, by go_num, by omega, HB2.out, HT.out⟩
        case measure => simp [intOf]; omega
    · obtain rfl : n = i := by omega
      have HF := Lib.hid (show r = true from by rw [← HR.out]; exact all_end HZl.out HG.out)
      go_wp2_with fail
      go_ret
      exact ⟨ret_b HF.out.symm, HBl.out⟩
end Go.Proofs.YthfegbcbpeedbaaDoor
