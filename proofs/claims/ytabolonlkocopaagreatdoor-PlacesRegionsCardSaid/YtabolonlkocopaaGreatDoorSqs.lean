
/- The functions on one square, of the program and of the reference. -/
import Derived.Test.YtabolonlkocopaaGreatDoorCvr
import Derived.RangeFuncRecord
import Derived.Test.YtabolonlkocopaaGreatDoorReg2
import Derived.Test.YtabolonlkocopaaGreatDoorNml
namespace Go.Proofs.YtabolonlkocopaaGreatDoor
open Go.RowKit Go.Plc

theorem rwithin_any (n lo hi : Int) (w : World) :
    Calls Tryz.prog 66 #[.int .i64 n, .int .i64 lo, .int .i64 hi] w fun e w' => e = .returned (.bool (decide (lo ≤ n) && decide (n ≤ hi))) ∧ w = w' := by
  cases a1 : decide (lo ≤ n) <;> cases a2 : decide (n ≤ hi)
  all_goals
    go_enter Tryz.func66, Tryz.ntmps66
    go_wp2_with fail
    go_ret
    exact ⟨ret_b (by simp_all), rfl⟩

set_option maxHeartbeats 1000000 in
theorem rValidSquare_any (l x y : Int) (w : World) :
    Calls Tryz.prog 71 #[.agg #[.int .i64 l, .int .i64 x, .int .i64 y]] w fun e w' => e = .returned (.bool (Sq.okB ⟨l, x, y⟩)) ∧ Below w.heap.size w w' := by
  have HV := Lib.hid (Sq.okB_iff ⟨l, x, y⟩)
  have HW := Lib.hid (fun n lo hi w => rwithin_any n lo hi w)
  by_cases hl : 0 ≤ l ∧ l ≤ 10
  · obtain ⟨h1, h2⟩ := hl
    obtain ⟨p1, p2⟩ := pow_bd l h1
    have HWl := Lib.hid (fun w => show Calls Tryz.prog 66 #[.int .i64 l, .int .i64 0, .int .i64 10] w fun e w' => e = .returned (.bool true) ∧ w = w' from by
      have h := rwithin_any l 0 10 w
      rwa [show (decide (0 ≤ l) && decide (l ≤ 10)) = true by simp; omega] at h)
    cases cx : (decide (0 ≤ x) && decide (x ≤ 2 ^ (10 - l).toNat - 1))
    · have HWx := Lib.hid (fun w => show Calls Tryz.prog 66 #[.int .i64 x, .int .i64 0, .int .i64 (2 ^ (10 - l).toNat - 1)] w fun e w' => e = .returned (.bool false) ∧ w = w' from by
        have h := rwithin_any x 0 (2 ^ (10 - l).toNat - 1) w
        rwa [cx] at h)
      have HC := Lib.hid cx
      clear cx
      go_enter Tryz.func71, Tryz.ntmps71
      go_wp2_with fail
      refine (HWl.out _).mono ?_
      rintro e w1 ⟨rfl, rfl⟩
      go_wp2_with fail
      refine (HWx.out _).mono ?_
      rintro e w1 ⟨rfl, rfl⟩
      go_wp2_with fail
      go_ret
      refine ⟨ret_b ?_, below_new _⟩
      rw [Bool.eq_iff_iff, HV.out]
      have h := HC.out
      simp at h ⊢
      unfold sideOf
      omega
    · have HWx := Lib.hid (fun w => show Calls Tryz.prog 66 #[.int .i64 x, .int .i64 0, .int .i64 (2 ^ (10 - l).toNat - 1)] w fun e w' => e = .returned (.bool true) ∧ w = w' from by
        have h := rwithin_any x 0 (2 ^ (10 - l).toNat - 1) w
        rwa [cx] at h)
      have HC := Lib.hid cx
      clear cx
      go_enter Tryz.func71, Tryz.ntmps71
      go_wp2_with fail
      refine (HWl.out _).mono ?_
      rintro e w1 ⟨rfl, rfl⟩
      go_wp2_with fail
      refine (HWx.out _).mono ?_
      rintro e w1 ⟨rfl, rfl⟩
      go_wp2_with fail
      refine (HW.out y 0 _ _).mono ?_
      rintro e w1 ⟨rfl, rfl⟩
      go_wp2_with fail
      go_ret
      refine ⟨ret_b ?_, below_new _⟩
      rw [Bool.eq_iff_iff, HV.out]
      have h := HC.out
      simp at h ⊢
      unfold sideOf
      omega
  · have HF := Lib.hid (show Sq.okB ⟨l, x, y⟩ = false by
      cases h : Sq.okB ⟨l, x, y⟩
      · rfl
      · exact absurd (by have := HV.out.1 h; simp at this; omega) hl)
    have HWl := Lib.hid (fun w => show Calls Tryz.prog 66 #[.int .i64 l, .int .i64 0, .int .i64 10] w fun e w' => e = .returned (.bool false) ∧ w = w' from by
      have h := rwithin_any l 0 10 w
      rwa [show (decide (0 ≤ l) && decide (l ≤ 10)) = false by rw [Bool.and_eq_false_iff]; simp; omega] at h)
    go_enter Tryz.func71, Tryz.ntmps71
    go_wp2_with fail
    refine (HWl.out _).mono ?_
    rintro e w1 ⟨rfl, rfl⟩
    go_wp2_with fail
    go_ret
    exact ⟨ret_b HF.out.symm, below_new _⟩

set_option maxHeartbeats 400000 in
theorem rup_any (s : Sq) (L : Int) (w : World) (h0 : 0 ≤ s.l) (h1 : s.l ≤ L) (h2 : L ≤ 10) :
    Calls Tryz.prog 96 #[sqv s, .int .i64 L] w fun e w' => e = .returned (sqv (blurS s L)) ∧ Below w.heap.size w w' := by
  unfold sqv blurS
  go_enter Tryz.func96, Tryz.ntmps96
  go_wp2_with fail
  go_region
  go_wp2_with fail
  refine bodyPost_ret (v := .agg #[.int .i64 L, .int .i64 (s.x / 2 ^ (L - s.l).toNat), .int .i64 (s.y / 2 ^ (L - s.l).toNat)]) (by simp [results, Tryz.results96, go_sem]) rfl ⟨rfl, ?_⟩
  (repeat (first | exact Below.refl _ _ | refine Below.drew ?_ | refine below_drewN ?_ _ | refine Below.alloc ?_ (by simp; try omega) _ | refine Below.setCell ?_ (by simp; try omega) _))
end Go.Proofs.YtabolonlkocopaaGreatDoor


/- Parent, Children, Within and Blur, of the program and of the reference. -/
namespace Go.Proofs.YtabolonlkocopaaGreatDoor
open Go.RowKit Go.Plc

theorem two_boxes {w X : World} {S Z : Obj} (h : Below ((w.alloc S).alloc Z).heap.size ((w.alloc S).alloc Z) X) : Below w.heap.size w X ∧ X.heap[w.heap.size]? = some S ∧ X.heap[w.heap.size + 1]? = some Z := by
  refine ⟨((below_new _).trans ((below_new _).mono (by simp))).trans (h.mono (by simp; omega)), ?_, ?_⟩
  · exact (h.block _ (by simp; omega)).trans ((Below.heap_alloc _ _ _ (by simp)).trans (World.alloc_heap_new w S))
  · have := World.alloc_heap_new (w.alloc S) Z
    rw [World.size_alloc] at this
    exact (h.block _ (by simp)).trans this
theorem keep_box {w X Y : World} {g g2 : Nat} {S Z : Obj} (h : Below w.heap.size w X ∧ X.heap[g]? = some S ∧ X.heap[g2]? = some Z) (hb : Below X.heap.size X Y) : Below w.heap.size w Y ∧ Y.heap[g]? = some S ∧ Y.heap[g2]? = some Z :=
  ⟨h.1.trans (hb.mono h.1.size), (hb.block _ (Array.getElem?_eq_some_iff.1 h.2.1).1).trans h.2.1, (hb.block _ (Array.getElem?_eq_some_iff.1 h.2.2).1).trans h.2.2⟩
theorem three_cells0 {w : World} {g : Nat} {a b c : Value} {t : TypeId} (h : w.heap[g]? = some (.cells #[a, b, c] t)) : w.cell? ⟨g, 0, none⟩ = some a ∧ w.cell? ⟨g, 1, none⟩ = some b ∧ w.cell? ⟨g, 2, none⟩ = some c := by simp [World.cell?, h]
def zeroSq : Sq := ⟨0, 0, 0⟩
def parentOut (s : Sq) : Sq × Int := if s.okB then (if s.l = 10 then (zeroSq, 1) else (parS s, 0)) else (zeroSq, 10)
def blurOut (s : Sq) (L : Int) : Sq × Int := if s.okB then (if s.l ≤ L ∧ L ≤ 10 then (blurS s L, 0) else (zeroSq, 1)) else (zeroSq, 10)
def withinOut (a b : Sq) : Bool × Int := if a.okB && b.okB then (withinS a b, 0) else (false, 10)
def childOut (s : Sq) : List Sq × Int := if s.okB then (if s.l = 0 then ([], 1) else (kidsS s, 0)) else ([], 10)
theorem set3_below {w X : World} {g : Nat} {a b c : Value} (h : Below w.heap.size w X) (hg : w.heap.size ≤ g) : Below w.heap.size w (((X.setCell ⟨g, 0, none⟩ a).setCell ⟨g, 1, none⟩ b).setCell ⟨g, 2, none⟩ c) := by
  iterate 3 (refine Below.setCell (p := ⟨g, _, none⟩) ?_ hg _)
  exact h

end Go.Proofs.YtabolonlkocopaaGreatDoor


/- Blur, Within, Children, of the program and of the reference. -/
namespace Go.Proofs.YtabolonlkocopaaGreatDoor
open Go.RowKit Go.Plc

set_option maxRecDepth 100000 in
set_option maxHeartbeats 2000000 in
theorem within_any (a b : Sq) (w : World) (ha : a.okB = true) (hb : b.okB = true) : Calls Tryz.prog 61 #[sqv a, sqv b] w fun e w' => e = .returned (.bool (withinS a b)) ∧ Below w.heap.size w w' := by
  obtain ⟨v1, v2, v3, v4, v5, v6⟩ := (Sq.okB_iff a).1 ha
  obtain ⟨u1, u2, u3, u4, u5, u6⟩ := (Sq.okB_iff b).1 hb
  have HO := Lib.hid (show withinS a b = (decide (a.l ≤ b.l) && decide (blurS a b.l = b)) from rfl)
  have tt := two_boxes (S := .cells #[.int .i64 a.l, .int .i64 a.x, .int .i64 a.y] 31) (Z := .cells #[.int .i64 b.l, .int .i64 b.x, .int .i64 b.y] 31) (Below.refl _ ((w.alloc (.cells #[.int .i64 a.l, .int .i64 a.x, .int .i64 a.y] 31)).alloc (.cells #[.int .i64 b.l, .int .i64 b.x, .int .i64 b.y] 31)))
  have ta := sq_cells tt.2.1
  have tb := sq_cells tt.2.2
  have TB := Lib.hid tt.1
  clear ha hb tt
  have ss := fun p => (⟨Wb.cell ta.1 p, Wb.cell ta.2.1 p, Wb.cell ta.2.2 p, Wb.cell tb.1 p, Wb.cell tb.2.1 p, Wb.cell tb.2.2 p⟩ : _ ∧ _ ∧ _ ∧ _ ∧ _ ∧ _)
  by_cases hle : a.l ≤ b.l
  · have HU := Lib.hid (fun w => blur_any a b.l w v1 hle u2)
    have e0 : (blurS a b.l).l = b.l := rfl
    unfold sqv at HU
    have HEq := Lib.hid (show blurS a b.l = b ↔ (blurS a b.l).x = b.x ∧ (blurS a b.l).y = b.y from ⟨fun h => by rw [h]; exact ⟨rfl, rfl⟩, fun h => Sq.ext3 e0 h.1 h.2⟩)
    rw [e0] at HU
    clear e0
    generalize (blurS a b.l).x = bx at *
    generalize (blurS a b.l).y = bY at *
    unfold sqv
    by_cases e1 : bx = b.x
    · by_cases e2 : bY = b.y
      · have HR := Lib.hid (show withinS a b = true by rw [HO.out]; simp [hle, HEq.out, e1, e2])
        subst e1; subst e2
        clear HEq HO
        go_enter Tryz.func61, Tryz.ntmps61
        go_wp2_with fail
        refine wp_region_wb (by kernel_rfl) (by kernel_rfl) ?_; (repeat ((with_reducible refine wpQuiet_step ?_); intro K hK; go_simp; (try (refine ite_neg_of (by simp [undef]) ?_)); first | (with_reducible refine hK _ ?_; clear hK K) | (apply Exists.intro; (with_reducible refine ⟨fun _ => ?_, hK _ ?_⟩); (first | (go_at_call 94; exact Calls.wb (HU.out _))); clear hK K))); (with_reducible refine wpQuiet_nil ?_); rintro w1 ⟨⟨_, hb1⟩, rfl⟩; (try dsimp only)
        go_wp2_with fail
        go_ret
        exact ⟨ret_b HR.out.symm, TB.out.trans (hb1.mono TB.out.size)⟩
      · have HR := Lib.hid (show withinS a b = false by rw [HO.out]; simp [HEq.out, e2])
        subst e1
        clear HEq HO
        go_enter Tryz.func61, Tryz.ntmps61
        go_wp2_with fail
        refine wp_region_wb (by kernel_rfl) (by kernel_rfl) ?_; (repeat ((with_reducible refine wpQuiet_step ?_); intro K hK; go_simp; (try (refine ite_neg_of (by simp [undef]) ?_)); first | (with_reducible refine hK _ ?_; clear hK K) | (apply Exists.intro; (with_reducible refine ⟨fun _ => ?_, hK _ ?_⟩); (first | (go_at_call 94; exact Calls.wb (HU.out _))); clear hK K))); (with_reducible refine wpQuiet_nil ?_); rintro w1 ⟨⟨_, hb1⟩, rfl⟩; (try dsimp only)
        go_wp2_with fail
        go_ret
        exact ⟨ret_b HR.out.symm, TB.out.trans (hb1.mono TB.out.size)⟩
    · have HR := Lib.hid (show withinS a b = false by rw [HO.out]; simp [HEq.out, e1])
      clear HEq HO
      go_enter Tryz.func61, Tryz.ntmps61
      go_wp2_with fail
      refine wp_region_wb (by kernel_rfl) (by kernel_rfl) ?_; (repeat ((with_reducible refine wpQuiet_step ?_); intro K hK; go_simp; (try (refine ite_neg_of (by simp [undef]) ?_)); first | (with_reducible refine hK _ ?_; clear hK K) | (apply Exists.intro; (with_reducible refine ⟨fun _ => ?_, hK _ ?_⟩); (first | (go_at_call 94; exact Calls.wb (HU.out _))); clear hK K))); (with_reducible refine wpQuiet_nil ?_); rintro w1 ⟨⟨_, hb1⟩, rfl⟩; (try dsimp only)
      go_wp2_with fail
      go_ret
      exact ⟨ret_b HR.out.symm, TB.out.trans (hb1.mono TB.out.size)⟩
  · have HR := Lib.hid (show withinS a b = false by rw [HO.out]; simp [hle])
    have hd : decide (a.l ≤ b.l) = false := by simpa using hle
    clear HO hle
    unfold sqv
    go_enter Tryz.func61, Tryz.ntmps61
    go_wp2_with fail
    refine wp_region_wb (by kernel_rfl) (by kernel_rfl) ?_; (repeat ((with_reducible refine wpQuiet_step ?_); intro K hK; go_simp; (try (refine ite_neg_of (by simp [undef]) ?_)); first | (with_reducible refine hK _ ?_; clear hK K) | (apply Exists.intro; (with_reducible refine ⟨fun _ => ?_, hK _ ?_⟩); (fail); clear hK K))); (with_reducible refine wpQuiet_nil ?_); rintro w1 ⟨⟨_, hb1⟩, rfl⟩; (try dsimp only)
    go_wp2_with fail
    go_ret
    exact ⟨ret_b HR.out.symm, TB.out.trans (hb1.mono TB.out.size)⟩

set_option maxRecDepth 100000 in
set_option maxHeartbeats 2000000 in
theorem rInside_any (a b : Sq) (w : World) (ha : a.okB = true) (hb : b.okB = true) : Calls Tryz.prog 63 #[sqv a, sqv b] w fun e w' => e = .returned (.bool (withinS a b)) ∧ Below w.heap.size w w' := by
  obtain ⟨v1, v2, v3, v4, v5, v6⟩ := (Sq.okB_iff a).1 ha
  obtain ⟨u1, u2, u3, u4, u5, u6⟩ := (Sq.okB_iff b).1 hb
  have HO := Lib.hid (show withinS a b = (decide (a.l ≤ b.l) && decide (blurS a b.l = b)) from rfl)
  have tt := two_boxes (S := .cells #[.int .i64 a.l, .int .i64 a.x, .int .i64 a.y] 31) (Z := .cells #[.int .i64 b.l, .int .i64 b.x, .int .i64 b.y] 31) (Below.refl _ ((w.alloc (.cells #[.int .i64 a.l, .int .i64 a.x, .int .i64 a.y] 31)).alloc (.cells #[.int .i64 b.l, .int .i64 b.x, .int .i64 b.y] 31)))
  have ta := sq_cells tt.2.1
  have tb := sq_cells tt.2.2
  have TB := Lib.hid tt.1
  clear ha hb tt
  have ss := fun p => (⟨Wb.cell ta.1 p, Wb.cell ta.2.1 p, Wb.cell ta.2.2 p, Wb.cell tb.1 p, Wb.cell tb.2.1 p, Wb.cell tb.2.2 p⟩ : _ ∧ _ ∧ _ ∧ _ ∧ _ ∧ _)
  by_cases hle : a.l ≤ b.l
  · have HU := Lib.hid (fun w => rup_any a b.l w v1 hle u2)
    have e0 : (blurS a b.l).l = b.l := rfl
    unfold sqv at HU
    have HEq := Lib.hid (show blurS a b.l = b ↔ (blurS a b.l).x = b.x ∧ (blurS a b.l).y = b.y from ⟨fun h => by rw [h]; exact ⟨rfl, rfl⟩, fun h => Sq.ext3 e0 h.1 h.2⟩)
    rw [e0] at HU
    clear e0
    generalize (blurS a b.l).x = bx at *
    generalize (blurS a b.l).y = bY at *
    unfold sqv
    by_cases e1 : bx = b.x
    · by_cases e2 : bY = b.y
      · have HR := Lib.hid (show withinS a b = true by rw [HO.out]; simp [hle, HEq.out, e1, e2])
        subst e1; subst e2
        clear HEq HO
        go_enter Tryz.func63, Tryz.ntmps63
        go_wp2_with fail
        refine wp_region_wb (by kernel_rfl) (by kernel_rfl) ?_; (repeat ((with_reducible refine wpQuiet_step ?_); intro K hK; go_simp; (try (refine ite_neg_of (by simp [undef]) ?_)); first | (with_reducible refine hK _ ?_; clear hK K) | (apply Exists.intro; (with_reducible refine ⟨fun _ => ?_, hK _ ?_⟩); (first | (go_at_call 96; exact Calls.wb (HU.out _))); clear hK K))); (with_reducible refine wpQuiet_nil ?_); rintro w1 ⟨⟨_, hb1⟩, rfl⟩; (try dsimp only)
        go_wp2_with fail
        go_ret
        exact ⟨ret_b HR.out.symm, TB.out.trans (hb1.mono TB.out.size)⟩
      · have HR := Lib.hid (show withinS a b = false by rw [HO.out]; simp [HEq.out, e2])
        subst e1
        clear HEq HO
        go_enter Tryz.func63, Tryz.ntmps63
        go_wp2_with fail
        refine wp_region_wb (by kernel_rfl) (by kernel_rfl) ?_; (repeat ((with_reducible refine wpQuiet_step ?_); intro K hK; go_simp; (try (refine ite_neg_of (by simp [undef]) ?_)); first | (with_reducible refine hK _ ?_; clear hK K) | (apply Exists.intro; (with_reducible refine ⟨fun _ => ?_, hK _ ?_⟩); (first | (go_at_call 96; exact Calls.wb (HU.out _))); clear hK K))); (with_reducible refine wpQuiet_nil ?_); rintro w1 ⟨⟨_, hb1⟩, rfl⟩; (try dsimp only)
        go_wp2_with fail
        go_ret
        exact ⟨ret_b HR.out.symm, TB.out.trans (hb1.mono TB.out.size)⟩
    · have HR := Lib.hid (show withinS a b = false by rw [HO.out]; simp [HEq.out, e1])
      clear HEq HO
      go_enter Tryz.func63, Tryz.ntmps63
      go_wp2_with fail
      refine wp_region_wb (by kernel_rfl) (by kernel_rfl) ?_; (repeat ((with_reducible refine wpQuiet_step ?_); intro K hK; go_simp; (try (refine ite_neg_of (by simp [undef]) ?_)); first | (with_reducible refine hK _ ?_; clear hK K) | (apply Exists.intro; (with_reducible refine ⟨fun _ => ?_, hK _ ?_⟩); (first | (go_at_call 96; exact Calls.wb (HU.out _))); clear hK K))); (with_reducible refine wpQuiet_nil ?_); rintro w1 ⟨⟨_, hb1⟩, rfl⟩; (try dsimp only)
      go_wp2_with fail
      go_ret
      exact ⟨ret_b HR.out.symm, TB.out.trans (hb1.mono TB.out.size)⟩
  · have HR := Lib.hid (show withinS a b = false by rw [HO.out]; simp [hle])
    have hd : decide (a.l ≤ b.l) = false := by simpa using hle
    clear HO hle
    unfold sqv
    go_enter Tryz.func63, Tryz.ntmps63
    go_wp2_with fail
    refine wp_region_wb (by kernel_rfl) (by kernel_rfl) ?_; (repeat ((with_reducible refine wpQuiet_step ?_); intro K hK; go_simp; (try (refine ite_neg_of (by simp [undef]) ?_)); first | (with_reducible refine hK _ ?_; clear hK K) | (apply Exists.intro; (with_reducible refine ⟨fun _ => ?_, hK _ ?_⟩); (fail); clear hK K))); (with_reducible refine wpQuiet_nil ?_); rintro w1 ⟨⟨_, hb1⟩, rfl⟩; (try dsimp only)
    go_wp2_with fail
    go_ret
    exact ⟨ret_b HR.out.symm, TB.out.trans (hb1.mono TB.out.size)⟩
end Go.Proofs.YtabolonlkocopaaGreatDoor


/- Within and Children, of the program and of the reference. -/
namespace Go.Proofs.YtabolonlkocopaaGreatDoor
open Go.RowKit Go.Plc

theorem new_cells (Y : World) (n : Nat) (hn : Y.heap.size = n) (cs : Array Value) (i : Nat) : (Y.alloc (.cells cs 31)).cell? ⟨n, i, none⟩ = cs[i]? := by
  subst hn
  exact World.cell?_alloc_new _ _ _ _

set_option maxRecDepth 100000 in
set_option maxHeartbeats 2000000 in
theorem rchildren_any (s : Sq) (w : World) (h : s.okB = true) (h0 : 1 ≤ s.l) :
    Calls Tryz.prog 100 #[sqv s] w fun e w' => ∃ v, e = .returned v ∧ NewSqs w.heap.size w' v (kidsS s) ∧ Below w.heap.size w w' := by
  obtain ⟨h1, h2, h3, h4, h5, h6⟩ := (Sq.okB_iff s).1 h
  have hs := side_le s.l h1
  clear h
  unfold sqv
  go_enter Tryz.func100, Tryz.ntmps100
  go_wp2_with fail
  go_ret
  refine ⟨_, rfl, ⟨w.heap.size + 5, 4, rfl, by omega, by simp, ?_⟩, by (repeat (first | exact Below.refl _ _ | refine Below.drew ?_ | refine below_drewN ?_ _ | refine Below.alloc ?_ (by simp; try omega) _ | refine Below.setCell ?_ (by simp; try omega) _))⟩
  unfold kidsS
  intro i t hi
  match i, hi with
  | 0, hi => simp at hi; subst hi; exact ⟨new_cells _ _ (by simp) _ _, new_cells _ _ (by simp) _ _, new_cells _ _ (by simp) _ _⟩
  | 1, hi => simp at hi; subst hi; exact ⟨new_cells _ _ (by simp) _ _, new_cells _ _ (by simp) _ _, new_cells _ _ (by simp) _ _⟩
  | 2, hi => simp at hi; subst hi; exact ⟨new_cells _ _ (by simp) _ _, new_cells _ _ (by simp) _ _, new_cells _ _ (by simp) _ _⟩
  | 3, hi => simp at hi; subst hi; exact ⟨new_cells _ _ (by simp) _ _, new_cells _ _ (by simp) _ _, new_cells _ _ (by simp) _ _⟩

end Go.Proofs.YtabolonlkocopaaGreatDoor
