/- Parent, Children, Within and Blur, of the program and of the reference. -/
import Derived.Test.YtabolonlkocopaaDoorSqF
import Derived.Test.YtabolonlkocopaaDoorCovY
import Derived.RangeFuncRecord
namespace Go.Proofs.YtabolonlkocopaaDoor
open Go.RowKit Go.Plc

theorem two_boxes {w X : World} {S Z : Obj} (h : Below ((w.alloc S).alloc Z).heap.size ((w.alloc S).alloc Z) X) : Below w.heap.size w X ∧ X.heap[w.heap.size]? = some S ∧ X.heap[w.heap.size + 1]? = some Z := by
  refine ⟨((below_new _).trans ((below_new _).mono (by simp))).trans (h.mono (by simp; omega)), ?_, ?_⟩
  · exact (h.block _ (by simp; omega)).trans ((Below.heap_alloc _ _ _ (by simp)).trans (World.alloc_heap_new w S))
  · have := World.alloc_heap_new (w.alloc S) Z
    rw [World.size_alloc] at this
    exact (h.block _ (by simp)).trans this
theorem keep_box {w X Y : World} {g g2 : Nat} {S Z : Obj} (h : Below w.heap.size w X ∧ X.heap[g]? = some S ∧ X.heap[g2]? = some Z) (hb : Below X.heap.size X Y) : Below w.heap.size w Y ∧ Y.heap[g]? = some S ∧ Y.heap[g2]? = some Z :=
  ⟨h.1.trans (hb.mono h.1.size), (hb.block _ (Array.getElem?_eq_some_iff.1 h.2.1).1).trans h.2.1, (hb.block _ (Array.getElem?_eq_some_iff.1 h.2.2).1).trans h.2.2⟩
theorem three_cells0 {w : World} {g : Nat} {a b c : Value} {t : TypeId} (h : w.heap[g]? = some (.cells #[a, b, c] t)) : w.cell? ⟨g, 0, none⟩ = some a ∧ w.cell? ⟨g, 1, none⟩ = some b ∧ w.cell? ⟨g, 2, none⟩ = some c := by simp [World.cell?, h]
def zeroSq : Sq := ⟨0, 0, 0⟩
def parentOut (s : Sq) : Sq × Int := if s.okB then (if s.l = 10 then (zeroSq, 1) else (parS s, 0)) else (zeroSq, 10)
def blurOut (s : Sq) (L : Int) : Sq × Int := if s.okB then (if s.l ≤ L ∧ L ≤ 10 then (blurS s L, 0) else (zeroSq, 1)) else (zeroSq, 10)
def withinOut (a b : Sq) : Bool × Int := if a.okB && b.okB then (withinS a b, 0) else (false, 10)
def childOut (s : Sq) : List Sq × Int := if s.okB then (if s.l = 0 then ([], 1) else (kidsS s, 0)) else ([], 10)
theorem set3_below {w X : World} {g : Nat} {a b c : Value} (h : Below w.heap.size w X) (hg : w.heap.size ≤ g) : Below w.heap.size w (((X.setCell ⟨g, 0, none⟩ a).setCell ⟨g, 1, none⟩ b).setCell ⟨g, 2, none⟩ c) := by
  iterate 3 (refine Below.setCell (p := ⟨g, _, none⟩) ?_ hg _)
  exact h

set_option maxHeartbeats 1000000 in
theorem Parent_any (s : Sq) (w : World) : Calls Tryd.prog 13 #[sqv s] w fun e w' => e = .returned (.tuple #[sqv (parentOut s).1, .int .i64 (parentOut s).2]) ∧ Below w.heap.size w w' := by
  have HV := Lib.hid (fun w => ValidSquare_any s.l s.x s.y w)
  have HO := Lib.hid (show parentOut s = if s.okB then (if s.l = 10 then (zeroSq, 1) else (parS s, 0)) else (zeroSq, 10) from rfl)
  cases hok : s.okB
  · have hok' : Sq.okB ⟨s.l, s.x, s.y⟩ = false := hok
    rw [hok'] at HV
    have HR := Lib.hid (show parentOut s = (zeroSq, 10) by rw [HO.out, hok]; rfl)
    clear hok hok' HO
    unfold sqv
    go_enter Tryd.func13, Tryd.ntmps13
    go_wp2_with fail
    refine (HV.out _).mono ?_
    rintro e w1 ⟨rfl, hb1⟩
    have H1 := Lib.hid (two_boxes hb1)
    obtain ⟨z0, z1, z2⟩ := sq_cells (s := ⟨0, 0, 0⟩) H1.out.2.2
    have hfz := frozen_row H1.out.2.2
    have hsz : w.heap.size + 1 < w1.heap.size := (Array.getElem?_eq_some_iff.1 H1.out.2.2).1
    clear hb1
    go_wp2_with fail
    refine bodyPost_ret (v := .tuple #[.agg #[.int .i64 0, .int .i64 0, .int .i64 0], .int .i64 10]) (by simp [results, Tryd.results13, go_sem, z0, z1, z2]) rfl ⟨by rw [HR.out]; rfl, set3_below H1.out.1 (by omega)⟩
  · have hok' : Sq.okB ⟨s.l, s.x, s.y⟩ = true := hok
    rw [hok'] at HV
    obtain ⟨v1, v2, v3, v4, v5, v6⟩ := (Sq.okB_iff s).1 hok
    by_cases h10 : s.l = 10
    · have HR := Lib.hid (show parentOut s = (zeroSq, 1) by rw [HO.out, hok, if_pos rfl, if_pos h10])
      clear hok hok' HO
      rw [h10] at HV
      unfold sqv
      go_enter Tryd.func13, Tryd.ntmps13
      go_wp2_with fail
      refine (HV.out _).mono ?_
      rintro e w1 ⟨rfl, hb1⟩
      have H1 := Lib.hid (two_boxes hb1)
      obtain ⟨q0, q1, q2⟩ := three_cells0 H1.out.2.1
      obtain ⟨z0, z1, z2⟩ := sq_cells (s := ⟨0, 0, 0⟩) H1.out.2.2
      have hfz := frozen_row H1.out.2.2
      have hsz : w.heap.size + 1 < w1.heap.size := (Array.getElem?_eq_some_iff.1 H1.out.2.2).1
      clear hb1
      go_wp2_with fail
      refine bodyPost_ret (v := .tuple #[.agg #[.int .i64 0, .int .i64 0, .int .i64 0], .int .i64 1]) (by simp [results, Tryd.results13, go_sem, z0, z1, z2]) rfl ⟨by rw [HR.out]; rfl, set3_below H1.out.1 (by omega)⟩
    · have HR := Lib.hid (show parentOut s = (parS s, 0) by rw [HO.out, hok, if_pos rfl, if_neg h10])
      have HU := Lib.hid (fun w => blur_any s (s.l + 1) w v1 (by omega) (by omega))
      have HP := Lib.hid (show sqv (parS s) = sqv (blurS s (s.l + 1)) from rfl)
      clear hok hok' HO
      unfold sqv at HU
      unfold sqv
      go_enter Tryd.func13, Tryd.ntmps13
      go_wp2_with fail
      refine (HV.out _).mono ?_
      rintro e w1 ⟨rfl, hb1⟩
      have H1 := Lib.hid (two_boxes hb1)
      obtain ⟨q0, q1, q2⟩ := sq_cells H1.out.2.1
      clear hb1
      go_wp2_with fail
      refine (HU.out _).mono ?_
      rintro e w2 ⟨rfl, hb2⟩
      have H2 := Lib.hid (keep_box H1.out hb2)
      obtain ⟨z0, z1, z2⟩ := sq_cells (s := ⟨0, 0, 0⟩) H2.out.2.2
      have hfz := frozen_row H2.out.2.2
      have hsz : w.heap.size + 1 < w2.heap.size := (Array.getElem?_eq_some_iff.1 H2.out.2.2).1
      clear hb2 q0 q1 q2
      go_wp2_with fail
      refine bodyPost_ret (v := .tuple #[sqv (blurS s (s.l + 1)), .int .i64 0]) (by unfold sqv; simp [results, Tryd.results13, go_sem, z0, z1, z2]) rfl ⟨by rw [HR.out]; rfl, set3_below H2.out.1 (by omega)⟩

set_option maxHeartbeats 1000000 in
theorem rParent_any (s : Sq) (w : World) : Calls Tryd.prog 14 #[sqv s] w fun e w' => e = .returned (.tuple #[sqv (parentOut s).1, .int .i64 (parentOut s).2]) ∧ Below w.heap.size w w' := by
  have HV := Lib.hid (fun w => rValidSquare_any s.l s.x s.y w)
  have HO := Lib.hid (show parentOut s = if s.okB then (if s.l = 10 then (zeroSq, 1) else (parS s, 0)) else (zeroSq, 10) from rfl)
  cases hok : s.okB
  · have hok' : Sq.okB ⟨s.l, s.x, s.y⟩ = false := hok
    rw [hok'] at HV
    have HR := Lib.hid (show parentOut s = (zeroSq, 10) by rw [HO.out, hok]; rfl)
    clear hok hok' HO
    unfold sqv
    go_enter Tryd.func14, Tryd.ntmps14
    go_wp2_with fail
    refine (HV.out _).mono ?_
    rintro e w1 ⟨rfl, hb1⟩
    have H1 := Lib.hid (two_boxes hb1)
    obtain ⟨z0, z1, z2⟩ := sq_cells (s := ⟨0, 0, 0⟩) H1.out.2.2
    have hfz := frozen_row H1.out.2.2
    have hsz : w.heap.size + 1 < w1.heap.size := (Array.getElem?_eq_some_iff.1 H1.out.2.2).1
    clear hb1
    go_wp2_with fail
    refine bodyPost_ret (v := .tuple #[.agg #[.int .i64 0, .int .i64 0, .int .i64 0], .int .i64 10]) (by simp [results, Tryd.results14, go_sem, z0, z1, z2]) rfl ⟨by rw [HR.out]; rfl, set3_below H1.out.1 (by omega)⟩
  · have hok' : Sq.okB ⟨s.l, s.x, s.y⟩ = true := hok
    rw [hok'] at HV
    obtain ⟨v1, v2, v3, v4, v5, v6⟩ := (Sq.okB_iff s).1 hok
    by_cases h10 : s.l = 10
    · have HR := Lib.hid (show parentOut s = (zeroSq, 1) by rw [HO.out, hok, if_pos rfl, if_pos h10])
      clear hok hok' HO
      rw [h10] at HV
      unfold sqv
      go_enter Tryd.func14, Tryd.ntmps14
      go_wp2_with fail
      refine (HV.out _).mono ?_
      rintro e w1 ⟨rfl, hb1⟩
      have H1 := Lib.hid (two_boxes hb1)
      obtain ⟨q0, q1, q2⟩ := three_cells0 H1.out.2.1
      obtain ⟨z0, z1, z2⟩ := sq_cells (s := ⟨0, 0, 0⟩) H1.out.2.2
      have hfz := frozen_row H1.out.2.2
      have hsz : w.heap.size + 1 < w1.heap.size := (Array.getElem?_eq_some_iff.1 H1.out.2.2).1
      clear hb1
      go_wp2_with fail
      refine bodyPost_ret (v := .tuple #[.agg #[.int .i64 0, .int .i64 0, .int .i64 0], .int .i64 1]) (by simp [results, Tryd.results14, go_sem, z0, z1, z2]) rfl ⟨by rw [HR.out]; rfl, set3_below H1.out.1 (by omega)⟩
    · have HR := Lib.hid (show parentOut s = (parS s, 0) by rw [HO.out, hok, if_pos rfl, if_neg h10])
      have HU := Lib.hid (fun w => rup_any s (s.l + 1) w v1 (by omega) (by omega))
      have HP := Lib.hid (show sqv (parS s) = sqv (blurS s (s.l + 1)) from rfl)
      clear hok hok' HO
      unfold sqv at HU
      unfold sqv
      go_enter Tryd.func14, Tryd.ntmps14
      go_wp2_with fail
      refine (HV.out _).mono ?_
      rintro e w1 ⟨rfl, hb1⟩
      have H1 := Lib.hid (two_boxes hb1)
      obtain ⟨q0, q1, q2⟩ := sq_cells H1.out.2.1
      clear hb1
      go_wp2_with fail
      refine (HU.out _).mono ?_
      rintro e w2 ⟨rfl, hb2⟩
      have H2 := Lib.hid (keep_box H1.out hb2)
      obtain ⟨z0, z1, z2⟩ := sq_cells (s := ⟨0, 0, 0⟩) H2.out.2.2
      have hfz := frozen_row H2.out.2.2
      have hsz : w.heap.size + 1 < w2.heap.size := (Array.getElem?_eq_some_iff.1 H2.out.2.2).1
      clear hb2 q0 q1 q2
      go_wp2_with fail
      refine bodyPost_ret (v := .tuple #[sqv (blurS s (s.l + 1)), .int .i64 0]) (by unfold sqv; simp [results, Tryd.results14, go_sem, z0, z1, z2]) rfl ⟨by rw [HR.out]; rfl, set3_below H2.out.1 (by omega)⟩
end Go.Proofs.YtabolonlkocopaaDoor
