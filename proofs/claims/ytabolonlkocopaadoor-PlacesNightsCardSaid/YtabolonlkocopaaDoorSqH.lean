/- Blur, Within, Children, of the program and of the reference. -/
import Derived.Test.YtabolonlkocopaaDoorSqG
import Derived.Test.YtabolonlkocopaaDoorReg2
namespace Go.Proofs.YtabolonlkocopaaDoor
open Go.RowKit Go.Plc

set_option maxHeartbeats 1000000 in
theorem Blur_any (s : Sq) (L : Int) (w : World) : Calls Tryd.prog 19 #[sqv s, .int .i64 L] w fun e w' => e = .returned (.tuple #[sqv (blurOut s L).1, .int .i64 (blurOut s L).2]) ∧ Below w.heap.size w w' := by
  have HV := Lib.hid (fun w => ValidSquare_any s.l s.x s.y w)
  have HO := Lib.hid (show blurOut s L = if s.okB then (if s.l ≤ L ∧ L ≤ 10 then (blurS s L, 0) else (zeroSq, 1)) else (zeroSq, 10) from rfl)
  cases hok : s.okB
  · have hok' : Sq.okB ⟨s.l, s.x, s.y⟩ = false := hok
    rw [hok'] at HV
    have HR := Lib.hid (show blurOut s L = (zeroSq, 10) by rw [HO.out, hok]; rfl)
    clear hok hok' HO
    unfold sqv
    go_enter Tryd.func19, Tryd.ntmps19
    go_wp2_with fail
    refine (HV.out _).mono ?_
    rintro e w1 ⟨rfl, hb1⟩
    have H1 := Lib.hid (two_boxes hb1)
    obtain ⟨z0, z1, z2⟩ := sq_cells (s := ⟨0, 0, 0⟩) H1.out.2.2
    have hfz := frozen_row H1.out.2.2
    have hsz : w.heap.size + 1 < w1.heap.size := (Array.getElem?_eq_some_iff.1 H1.out.2.2).1
    clear hb1
    go_wp2_with fail
    refine bodyPost_ret (v := .tuple #[.agg #[.int .i64 0, .int .i64 0, .int .i64 0], .int .i64 10]) (by simp [results, Tryd.results19, go_sem, z0, z1, z2]) rfl ⟨by rw [HR.out]; rfl, set3_below H1.out.1 (by omega)⟩
  · have hok' : Sq.okB ⟨s.l, s.x, s.y⟩ = true := hok
    rw [hok'] at HV
    obtain ⟨v1, v2, v3, v4, v5, v6⟩ := (Sq.okB_iff s).1 hok
    by_cases hL : s.l ≤ L ∧ L ≤ 10
    · have HR := Lib.hid (show blurOut s L = (blurS s L, 0) by rw [HO.out, hok, if_pos rfl, if_pos hL])
      have HU := Lib.hid (fun w => blur_any s L w v1 hL.1 hL.2)
      obtain ⟨L1, L2⟩ := hL
      have c1 : decide (s.l ≤ L) = true := by simpa using L1
      have c2 : decide (L ≤ 10) = true := by simpa using L2
      have c3 : ¬ (L < s.l) := by omega
      have c4 : ¬ (10 < L) := by omega
      clear hok hok' HO
      unfold sqv at HU
      unfold sqv
      go_enter Tryd.func19, Tryd.ntmps19
      go_wp2_with fail
      refine (HV.out _).mono ?_
      rintro e w1 ⟨rfl, hb1⟩
      have H1 := Lib.hid (two_boxes hb1)
      obtain ⟨q0, q1, q2⟩ := sq_cells H1.out.2.1
      clear hb1
      go_wp2_with fail
      refine (HU.out _).mono ?_
      rintro e w2 ⟨rfl, hb2⟩
      have H2 := Lib.hid (keep_box H1.out hb2)
      obtain ⟨z0, z1, z2⟩ := sq_cells (s := ⟨0, 0, 0⟩) H2.out.2.2
      have hfz := frozen_row H2.out.2.2
      have hsz : w.heap.size + 1 < w2.heap.size := (Array.getElem?_eq_some_iff.1 H2.out.2.2).1
      clear hb2 q0 q1 q2
      go_wp2_with fail
      refine bodyPost_ret (v := .tuple #[sqv (blurS s L), .int .i64 0]) (by unfold sqv; simp [results, Tryd.results19, go_sem, z0, z1, z2]) rfl ⟨by rw [HR.out]; rfl, set3_below H2.out.1 (by omega)⟩
    · have HR := Lib.hid (show blurOut s L = (zeroSq, 1) by rw [HO.out, hok, if_pos rfl, if_neg hL])
      have hcc : (decide (s.l ≤ L) = false ∧ L < s.l) ∨ (decide (s.l ≤ L) = true ∧ decide (L ≤ 10) = false ∧ ¬ (L < s.l) ∧ 10 < L) := by simp; omega
      clear hok hok' HO hL
      unfold sqv
      rcases hcc with ⟨c1, c3⟩ | ⟨c1, c2, c3, c4⟩
      all_goals
        go_enter Tryd.func19, Tryd.ntmps19
        go_wp2_with fail
        refine (HV.out _).mono ?_
        rintro e w1 ⟨rfl, hb1⟩
        have H1 := Lib.hid (two_boxes hb1)
        obtain ⟨q0, q1, q2⟩ := sq_cells H1.out.2.1
        obtain ⟨z0, z1, z2⟩ := sq_cells (s := ⟨0, 0, 0⟩) H1.out.2.2
        have hfz := frozen_row H1.out.2.2
        have hsz : w.heap.size + 1 < w1.heap.size := (Array.getElem?_eq_some_iff.1 H1.out.2.2).1
        clear hb1
        go_wp2_with fail
        refine bodyPost_ret (v := .tuple #[.agg #[.int .i64 0, .int .i64 0, .int .i64 0], .int .i64 1]) (by simp [results, Tryd.results19, go_sem, z0, z1, z2]) rfl ⟨by rw [HR.out]; rfl, set3_below H1.out.1 (by omega)⟩

set_option maxHeartbeats 1000000 in
theorem rBlur_any (s : Sq) (L : Int) (w : World) : Calls Tryd.prog 20 #[sqv s, .int .i64 L] w fun e w' => e = .returned (.tuple #[sqv (blurOut s L).1, .int .i64 (blurOut s L).2]) ∧ Below w.heap.size w w' := by
  have HV := Lib.hid (fun w => rValidSquare_any s.l s.x s.y w)
  have HO := Lib.hid (show blurOut s L = if s.okB then (if s.l ≤ L ∧ L ≤ 10 then (blurS s L, 0) else (zeroSq, 1)) else (zeroSq, 10) from rfl)
  cases hok : s.okB
  · have hok' : Sq.okB ⟨s.l, s.x, s.y⟩ = false := hok
    rw [hok'] at HV
    have HR := Lib.hid (show blurOut s L = (zeroSq, 10) by rw [HO.out, hok]; rfl)
    clear hok hok' HO
    unfold sqv
    go_enter Tryd.func20, Tryd.ntmps20
    go_wp2_with fail
    refine (HV.out _).mono ?_
    rintro e w1 ⟨rfl, hb1⟩
    have H1 := Lib.hid (two_boxes hb1)
    obtain ⟨z0, z1, z2⟩ := sq_cells (s := ⟨0, 0, 0⟩) H1.out.2.2
    have hfz := frozen_row H1.out.2.2
    have hsz : w.heap.size + 1 < w1.heap.size := (Array.getElem?_eq_some_iff.1 H1.out.2.2).1
    clear hb1
    go_wp2_with fail
    refine bodyPost_ret (v := .tuple #[.agg #[.int .i64 0, .int .i64 0, .int .i64 0], .int .i64 10]) (by simp [results, Tryd.results20, go_sem, z0, z1, z2]) rfl ⟨by rw [HR.out]; rfl, set3_below H1.out.1 (by omega)⟩
  · have hok' : Sq.okB ⟨s.l, s.x, s.y⟩ = true := hok
    rw [hok'] at HV
    obtain ⟨v1, v2, v3, v4, v5, v6⟩ := (Sq.okB_iff s).1 hok
    by_cases hL : s.l ≤ L ∧ L ≤ 10
    · have HR := Lib.hid (show blurOut s L = (blurS s L, 0) by rw [HO.out, hok, if_pos rfl, if_pos hL])
      have HU := Lib.hid (fun w => rup_any s L w v1 hL.1 hL.2)
      obtain ⟨L1, L2⟩ := hL
      have c1 : decide (s.l ≤ L) = true := by simpa using L1
      have c2 : decide (L ≤ 10) = true := by simpa using L2
      have c3 : ¬ (L < s.l) := by omega
      have c4 : ¬ (10 < L) := by omega
      clear hok hok' HO
      unfold sqv at HU
      unfold sqv
      go_enter Tryd.func20, Tryd.ntmps20
      go_wp2_with fail
      refine (HV.out _).mono ?_
      rintro e w1 ⟨rfl, hb1⟩
      have H1 := Lib.hid (two_boxes hb1)
      obtain ⟨q0, q1, q2⟩ := sq_cells H1.out.2.1
      clear hb1
      go_wp2_with fail
      refine (rwithin_any _ _ _ _).mono ?_
      rintro e w1' ⟨rfl, rfl⟩
      go_wp2_with fail
      refine (HU.out _).mono ?_
      rintro e w2 ⟨rfl, hb2⟩
      have H2 := Lib.hid (keep_box H1.out hb2)
      obtain ⟨z0, z1, z2⟩ := sq_cells (s := ⟨0, 0, 0⟩) H2.out.2.2
      have hfz := frozen_row H2.out.2.2
      have hsz : w.heap.size + 1 < w2.heap.size := (Array.getElem?_eq_some_iff.1 H2.out.2.2).1
      clear hb2 q0 q1 q2
      go_wp2_with fail
      refine bodyPost_ret (v := .tuple #[sqv (blurS s L), .int .i64 0]) (by unfold sqv; simp [results, Tryd.results20, go_sem, z0, z1, z2]) rfl ⟨by rw [HR.out]; rfl, set3_below H2.out.1 (by omega)⟩
    · have HR := Lib.hid (show blurOut s L = (zeroSq, 1) by rw [HO.out, hok, if_pos rfl, if_neg hL])
      have hcc : (decide (s.l ≤ L) = false ∧ L < s.l) ∨ (decide (s.l ≤ L) = true ∧ decide (L ≤ 10) = false ∧ ¬ (L < s.l) ∧ 10 < L) := by simp; omega
      clear hok hok' HO hL
      unfold sqv
      rcases hcc with ⟨c1, c3⟩ | ⟨c1, c2, c3, c4⟩
      all_goals
        go_enter Tryd.func20, Tryd.ntmps20
        go_wp2_with fail
        refine (HV.out _).mono ?_
        rintro e w1 ⟨rfl, hb1⟩
        have H1 := Lib.hid (two_boxes hb1)
        obtain ⟨q0, q1, q2⟩ := sq_cells H1.out.2.1
        obtain ⟨z0, z1, z2⟩ := sq_cells (s := ⟨0, 0, 0⟩) H1.out.2.2
        have hfz := frozen_row H1.out.2.2
        have hsz : w.heap.size + 1 < w1.heap.size := (Array.getElem?_eq_some_iff.1 H1.out.2.2).1
        clear hb1
        go_wp2_with fail
        refine (rwithin_any _ _ _ _).mono ?_
        rintro e w1' ⟨rfl, rfl⟩
        go_wp2_with fail
        refine bodyPost_ret (v := .tuple #[.agg #[.int .i64 0, .int .i64 0, .int .i64 0], .int .i64 1]) (by simp [results, Tryd.results20, go_sem, z0, z1, z2]) rfl ⟨by rw [HR.out]; rfl, set3_below H1.out.1 (by omega)⟩

set_option maxRecDepth 100000 in
set_option maxHeartbeats 2000000 in
theorem within_any (a b : Sq) (w : World) (ha : a.okB = true) (hb : b.okB = true) : Calls Tryd.prog 56 #[sqv a, sqv b] w fun e w' => e = .returned (.bool (withinS a b)) ∧ Below w.heap.size w w' := by
  obtain ⟨v1, v2, v3, v4, v5, v6⟩ := (Sq.okB_iff a).1 ha
  obtain ⟨u1, u2, u3, u4, u5, u6⟩ := (Sq.okB_iff b).1 hb
  have HO := Lib.hid (show withinS a b = (decide (a.l ≤ b.l) && decide (blurS a b.l = b)) from rfl)
  have tt := two_boxes (S := .cells #[.int .i64 a.l, .int .i64 a.x, .int .i64 a.y] 23) (Z := .cells #[.int .i64 b.l, .int .i64 b.x, .int .i64 b.y] 23) (Below.refl _ ((w.alloc (.cells #[.int .i64 a.l, .int .i64 a.x, .int .i64 a.y] 23)).alloc (.cells #[.int .i64 b.l, .int .i64 b.x, .int .i64 b.y] 23)))
  have ta := sq_cells tt.2.1
  have tb := sq_cells tt.2.2
  have TB := Lib.hid tt.1
  clear ha hb tt
  have ss := fun p => (⟨Wb.cell ta.1 p, Wb.cell ta.2.1 p, Wb.cell ta.2.2 p, Wb.cell tb.1 p, Wb.cell tb.2.1 p, Wb.cell tb.2.2 p⟩ : _ ∧ _ ∧ _ ∧ _ ∧ _ ∧ _)
  by_cases hle : a.l ≤ b.l
  · have HU := Lib.hid (fun w => blur_any a b.l w v1 hle u2)
    have e0 : (blurS a b.l).l = b.l := rfl
    unfold sqv at HU
    have HEq := Lib.hid (show blurS a b.l = b ↔ (blurS a b.l).x = b.x ∧ (blurS a b.l).y = b.y from ⟨fun h => by rw [h]; exact ⟨rfl, rfl⟩, fun h => Sq.ext3 e0 h.1 h.2⟩)
    rw [e0] at HU
    clear e0
    generalize (blurS a b.l).x = bx at *
    generalize (blurS a b.l).y = bY at *
    unfold sqv
    by_cases e1 : bx = b.x
    · by_cases e2 : bY = b.y
      · have HR := Lib.hid (show withinS a b = true by rw [HO.out]; simp [hle, HEq.out, e1, e2])
        subst e1; subst e2
        clear HEq HO
        go_enter Tryd.func56, Tryd.ntmps56
        go_wp2_with fail
        refine wp_region_wb (by kernel_rfl) (by kernel_rfl) ?_; (repeat ((with_reducible refine wpQuiet_step ?_); intro K hK; go_simp; (try (refine ite_neg_of (by simp [undef]) ?_)); first | (with_reducible refine hK _ ?_; clear hK K) | (apply Exists.intro; (with_reducible refine ⟨fun _ => ?_, hK _ ?_⟩); (first | (go_at_call 52; exact Calls.wb (HU.out _))); clear hK K))); (with_reducible refine wpQuiet_nil ?_); rintro w1 ⟨⟨_, hb1⟩, rfl⟩; (try dsimp only)
        go_wp2_with fail
        go_ret
        exact ⟨ret_b HR.out.symm, TB.out.trans (hb1.mono TB.out.size)⟩
      · have HR := Lib.hid (show withinS a b = false by rw [HO.out]; simp [HEq.out, e2])
        subst e1
        clear HEq HO
        go_enter Tryd.func56, Tryd.ntmps56
        go_wp2_with fail
        refine wp_region_wb (by kernel_rfl) (by kernel_rfl) ?_; (repeat ((with_reducible refine wpQuiet_step ?_); intro K hK; go_simp; (try (refine ite_neg_of (by simp [undef]) ?_)); first | (with_reducible refine hK _ ?_; clear hK K) | (apply Exists.intro; (with_reducible refine ⟨fun _ => ?_, hK _ ?_⟩); (first | (go_at_call 52; exact Calls.wb (HU.out _))); clear hK K))); (with_reducible refine wpQuiet_nil ?_); rintro w1 ⟨⟨_, hb1⟩, rfl⟩; (try dsimp only)
        go_wp2_with fail
        go_ret
        exact ⟨ret_b HR.out.symm, TB.out.trans (hb1.mono TB.out.size)⟩
    · have HR := Lib.hid (show withinS a b = false by rw [HO.out]; simp [HEq.out, e1])
      clear HEq HO
      go_enter Tryd.func56, Tryd.ntmps56
      go_wp2_with fail
      refine wp_region_wb (by kernel_rfl) (by kernel_rfl) ?_; (repeat ((with_reducible refine wpQuiet_step ?_); intro K hK; go_simp; (try (refine ite_neg_of (by simp [undef]) ?_)); first | (with_reducible refine hK _ ?_; clear hK K) | (apply Exists.intro; (with_reducible refine ⟨fun _ => ?_, hK _ ?_⟩); (first | (go_at_call 52; exact Calls.wb (HU.out _))); clear hK K))); (with_reducible refine wpQuiet_nil ?_); rintro w1 ⟨⟨_, hb1⟩, rfl⟩; (try dsimp only)
      go_wp2_with fail
      go_ret
      exact ⟨ret_b HR.out.symm, TB.out.trans (hb1.mono TB.out.size)⟩
  · have HR := Lib.hid (show withinS a b = false by rw [HO.out]; simp [hle])
    have hd : decide (a.l ≤ b.l) = false := by simpa using hle
    clear HO hle
    unfold sqv
    go_enter Tryd.func56, Tryd.ntmps56
    go_wp2_with fail
    refine wp_region_wb (by kernel_rfl) (by kernel_rfl) ?_; (repeat ((with_reducible refine wpQuiet_step ?_); intro K hK; go_simp; (try (refine ite_neg_of (by simp [undef]) ?_)); first | (with_reducible refine hK _ ?_; clear hK K) | (apply Exists.intro; (with_reducible refine ⟨fun _ => ?_, hK _ ?_⟩); (fail); clear hK K))); (with_reducible refine wpQuiet_nil ?_); rintro w1 ⟨⟨_, hb1⟩, rfl⟩; (try dsimp only)
    go_wp2_with fail
    go_ret
    exact ⟨ret_b HR.out.symm, TB.out.trans (hb1.mono TB.out.size)⟩

set_option maxRecDepth 100000 in
set_option maxHeartbeats 2000000 in
theorem rInside_any (a b : Sq) (w : World) (ha : a.okB = true) (hb : b.okB = true) : Calls Tryd.prog 57 #[sqv a, sqv b] w fun e w' => e = .returned (.bool (withinS a b)) ∧ Below w.heap.size w w' := by
  obtain ⟨v1, v2, v3, v4, v5, v6⟩ := (Sq.okB_iff a).1 ha
  obtain ⟨u1, u2, u3, u4, u5, u6⟩ := (Sq.okB_iff b).1 hb
  have HO := Lib.hid (show withinS a b = (decide (a.l ≤ b.l) && decide (blurS a b.l = b)) from rfl)
  have tt := two_boxes (S := .cells #[.int .i64 a.l, .int .i64 a.x, .int .i64 a.y] 23) (Z := .cells #[.int .i64 b.l, .int .i64 b.x, .int .i64 b.y] 23) (Below.refl _ ((w.alloc (.cells #[.int .i64 a.l, .int .i64 a.x, .int .i64 a.y] 23)).alloc (.cells #[.int .i64 b.l, .int .i64 b.x, .int .i64 b.y] 23)))
  have ta := sq_cells tt.2.1
  have tb := sq_cells tt.2.2
  have TB := Lib.hid tt.1
  clear ha hb tt
  have ss := fun p => (⟨Wb.cell ta.1 p, Wb.cell ta.2.1 p, Wb.cell ta.2.2 p, Wb.cell tb.1 p, Wb.cell tb.2.1 p, Wb.cell tb.2.2 p⟩ : _ ∧ _ ∧ _ ∧ _ ∧ _ ∧ _)
  by_cases hle : a.l ≤ b.l
  · have HU := Lib.hid (fun w => rup_any a b.l w v1 hle u2)
    have e0 : (blurS a b.l).l = b.l := rfl
    unfold sqv at HU
    have HEq := Lib.hid (show blurS a b.l = b ↔ (blurS a b.l).x = b.x ∧ (blurS a b.l).y = b.y from ⟨fun h => by rw [h]; exact ⟨rfl, rfl⟩, fun h => Sq.ext3 e0 h.1 h.2⟩)
    rw [e0] at HU
    clear e0
    generalize (blurS a b.l).x = bx at *
    generalize (blurS a b.l).y = bY at *
    unfold sqv
    by_cases e1 : bx = b.x
    · by_cases e2 : bY = b.y
      · have HR := Lib.hid (show withinS a b = true by rw [HO.out]; simp [hle, HEq.out, e1, e2])
        subst e1; subst e2
        clear HEq HO
        go_enter Tryd.func57, Tryd.ntmps57
        go_wp2_with fail
        refine wp_region_wb (by kernel_rfl) (by kernel_rfl) ?_; (repeat ((with_reducible refine wpQuiet_step ?_); intro K hK; go_simp; (try (refine ite_neg_of (by simp [undef]) ?_)); first | (with_reducible refine hK _ ?_; clear hK K) | (apply Exists.intro; (with_reducible refine ⟨fun _ => ?_, hK _ ?_⟩); (first | (go_at_call 53; exact Calls.wb (HU.out _))); clear hK K))); (with_reducible refine wpQuiet_nil ?_); rintro w1 ⟨⟨_, hb1⟩, rfl⟩; (try dsimp only)
        go_wp2_with fail
        go_ret
        exact ⟨ret_b HR.out.symm, TB.out.trans (hb1.mono TB.out.size)⟩
      · have HR := Lib.hid (show withinS a b = false by rw [HO.out]; simp [HEq.out, e2])
        subst e1
        clear HEq HO
        go_enter Tryd.func57, Tryd.ntmps57
        go_wp2_with fail
        refine wp_region_wb (by kernel_rfl) (by kernel_rfl) ?_; (repeat ((with_reducible refine wpQuiet_step ?_); intro K hK; go_simp; (try (refine ite_neg_of (by simp [undef]) ?_)); first | (with_reducible refine hK _ ?_; clear hK K) | (apply Exists.intro; (with_reducible refine ⟨fun _ => ?_, hK _ ?_⟩); (first | (go_at_call 53; exact Calls.wb (HU.out _))); clear hK K))); (with_reducible refine wpQuiet_nil ?_); rintro w1 ⟨⟨_, hb1⟩, rfl⟩; (try dsimp only)
        go_wp2_with fail
        go_ret
        exact ⟨ret_b HR.out.symm, TB.out.trans (hb1.mono TB.out.size)⟩
    · have HR := Lib.hid (show withinS a b = false by rw [HO.out]; simp [HEq.out, e1])
      clear HEq HO
      go_enter Tryd.func57, Tryd.ntmps57
      go_wp2_with fail
      refine wp_region_wb (by kernel_rfl) (by kernel_rfl) ?_; (repeat ((with_reducible refine wpQuiet_step ?_); intro K hK; go_simp; (try (refine ite_neg_of (by simp [undef]) ?_)); first | (with_reducible refine hK _ ?_; clear hK K) | (apply Exists.intro; (with_reducible refine ⟨fun _ => ?_, hK _ ?_⟩); (first | (go_at_call 53; exact Calls.wb (HU.out _))); clear hK K))); (with_reducible refine wpQuiet_nil ?_); rintro w1 ⟨⟨_, hb1⟩, rfl⟩; (try dsimp only)
      go_wp2_with fail
      go_ret
      exact ⟨ret_b HR.out.symm, TB.out.trans (hb1.mono TB.out.size)⟩
  · have HR := Lib.hid (show withinS a b = false by rw [HO.out]; simp [hle])
    have hd : decide (a.l ≤ b.l) = false := by simpa using hle
    clear HO hle
    unfold sqv
    go_enter Tryd.func57, Tryd.ntmps57
    go_wp2_with fail
    refine wp_region_wb (by kernel_rfl) (by kernel_rfl) ?_; (repeat ((with_reducible refine wpQuiet_step ?_); intro K hK; go_simp; (try (refine ite_neg_of (by simp [undef]) ?_)); first | (with_reducible refine hK _ ?_; clear hK K) | (apply Exists.intro; (with_reducible refine ⟨fun _ => ?_, hK _ ?_⟩); (fail); clear hK K))); (with_reducible refine wpQuiet_nil ?_); rintro w1 ⟨⟨_, hb1⟩, rfl⟩; (try dsimp only)
    go_wp2_with fail
    go_ret
    exact ⟨ret_b HR.out.symm, TB.out.trans (hb1.mono TB.out.size)⟩
end Go.Proofs.YtabolonlkocopaaDoor
