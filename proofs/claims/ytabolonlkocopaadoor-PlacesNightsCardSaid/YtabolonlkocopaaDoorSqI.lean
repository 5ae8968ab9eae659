/- Within and Children, of the program and of the reference. -/
import Derived.Test.YtabolonlkocopaaDoorSqH
import Derived.Test.YtabolonlkocopaaDoorNml
namespace Go.Proofs.YtabolonlkocopaaDoor
open Go.RowKit Go.Plc

set_option maxHeartbeats 1000000 in
theorem Within_any (a b : Sq) (w : World) : Calls Tryd.prog 17 #[sqv a, sqv b] w fun e w' => e = .returned (.tuple #[.bool (withinOut a b).1, .int .i64 (withinOut a b).2]) ∧ Below w.heap.size w w' := by
  have HA := Lib.hid (fun w => ValidSquare_any a.l a.x a.y w)
  have HB := Lib.hid (fun w => ValidSquare_any b.l b.x b.y w)
  have HO := Lib.hid (show withinOut a b = if a.okB && b.okB then (withinS a b, 0) else (false, 10) from rfl)
  cases ha : a.okB
  · have ha' : Sq.okB ⟨a.l, a.x, a.y⟩ = false := ha
    rw [ha'] at HA
    have HR := Lib.hid (show withinOut a b = (false, 10) by rw [HO.out, ha]; rfl)
    clear ha ha' HO
    unfold sqv
    go_enter Tryd.func17, Tryd.ntmps17
    go_wp2_with fail
    refine (HA.out _).mono ?_
    rintro e w1 ⟨rfl, hb1⟩
    have H1 := Lib.hid (two_boxes hb1)
    clear hb1
    go_wp2_with fail
    go_ret2
    exact ⟨by rw [HR.out]; rfl, H1.out.1⟩
  · have ha' : Sq.okB ⟨a.l, a.x, a.y⟩ = true := ha
    rw [ha'] at HA
    cases hb : b.okB
    · have hb' : Sq.okB ⟨b.l, b.x, b.y⟩ = false := hb
      rw [hb'] at HB
      have HR := Lib.hid (show withinOut a b = (false, 10) by rw [HO.out, ha, hb]; rfl)
      clear ha ha' hb hb' HO
      unfold sqv
      go_enter Tryd.func17, Tryd.ntmps17
      go_wp2_with fail
      refine (HA.out _).mono ?_
      rintro e w1 ⟨rfl, hb1⟩
      have H1 := Lib.hid (two_boxes hb1)
      obtain ⟨q0, q1, q2⟩ := sq_cells H1.out.2.2
      clear hb1
      go_wp2_with fail
      refine (HB.out _).mono ?_
      rintro e w2 ⟨rfl, hb2⟩
      have H2 := Lib.hid (keep_box H1.out hb2)
      clear hb2 q0 q1 q2
      go_wp2_with fail
      go_ret2
      exact ⟨by rw [HR.out]; rfl, H2.out.1⟩
    · have hb' : Sq.okB ⟨b.l, b.x, b.y⟩ = true := hb
      rw [hb'] at HB
      have HR := Lib.hid (show withinOut a b = (withinS a b, 0) by rw [HO.out, ha, hb]; rfl)
      have HI := Lib.hid (fun w => within_any a b w ha hb)
      clear ha ha' hb hb' HO
      unfold sqv at HI
      unfold sqv
      go_enter Tryd.func17, Tryd.ntmps17
      go_wp2_with fail
      refine (HA.out _).mono ?_
      rintro e w1 ⟨rfl, hb1⟩
      have H1 := Lib.hid (two_boxes hb1)
      obtain ⟨q0, q1, q2⟩ := sq_cells H1.out.2.2
      clear hb1
      go_wp2_with fail
      refine (HB.out _).mono ?_
      rintro e w2 ⟨rfl, hb2⟩
      have H2 := Lib.hid (keep_box H1.out hb2)
      clear hb2 q0 q1 q2
      obtain ⟨q0, q1, q2⟩ := sq_cells H2.out.2.1
      obtain ⟨r0, r1, r2⟩ := sq_cells H2.out.2.2
      go_wp2_with fail
      refine (HI.out _).mono ?_
      rintro e w3 ⟨rfl, hb3⟩
      have H3 := Lib.hid (keep_box H2.out hb3)
      clear hb3 q0 q1 q2 r0 r1 r2
      go_wp2_with fail
      go_ret2
      exact ⟨by rw [HR.out]; rfl, H3.out.1⟩

set_option maxHeartbeats 1000000 in
theorem rWithin_any (a b : Sq) (w : World) : Calls Tryd.prog 18 #[sqv a, sqv b] w fun e w' => e = .returned (.tuple #[.bool (withinOut a b).1, .int .i64 (withinOut a b).2]) ∧ Below w.heap.size w w' := by
  have HA := Lib.hid (fun w => rValidSquare_any a.l a.x a.y w)
  have HB := Lib.hid (fun w => rValidSquare_any b.l b.x b.y w)
  have HO := Lib.hid (show withinOut a b = if a.okB && b.okB then (withinS a b, 0) else (false, 10) from rfl)
  cases ha : a.okB
  · have ha' : Sq.okB ⟨a.l, a.x, a.y⟩ = false := ha
    rw [ha'] at HA
    have HR := Lib.hid (show withinOut a b = (false, 10) by rw [HO.out, ha]; rfl)
    clear ha ha' HO
    unfold sqv
    go_enter Tryd.func18, Tryd.ntmps18
    go_wp2_with fail
    refine (HA.out _).mono ?_
    rintro e w1 ⟨rfl, hb1⟩
    have H1 := Lib.hid (two_boxes hb1)
    clear hb1
    go_wp2_with fail
    go_ret2
    exact ⟨by rw [HR.out]; rfl, H1.out.1⟩
  · have ha' : Sq.okB ⟨a.l, a.x, a.y⟩ = true := ha
    rw [ha'] at HA
    cases hb : b.okB
    · have hb' : Sq.okB ⟨b.l, b.x, b.y⟩ = false := hb
      rw [hb'] at HB
      have HR := Lib.hid (show withinOut a b = (false, 10) by rw [HO.out, ha, hb]; rfl)
      clear ha ha' hb hb' HO
      unfold sqv
      go_enter Tryd.func18, Tryd.ntmps18
      go_wp2_with fail
      refine (HA.out _).mono ?_
      rintro e w1 ⟨rfl, hb1⟩
      have H1 := Lib.hid (two_boxes hb1)
      obtain ⟨q0, q1, q2⟩ := sq_cells H1.out.2.2
      clear hb1
      go_wp2_with fail
      refine (HB.out _).mono ?_
      rintro e w2 ⟨rfl, hb2⟩
      have H2 := Lib.hid (keep_box H1.out hb2)
      clear hb2 q0 q1 q2
      go_wp2_with fail
      go_ret2
      exact ⟨by rw [HR.out]; rfl, H2.out.1⟩
    · have hb' : Sq.okB ⟨b.l, b.x, b.y⟩ = true := hb
      rw [hb'] at HB
      have HR := Lib.hid (show withinOut a b = (withinS a b, 0) by rw [HO.out, ha, hb]; rfl)
      have HI := Lib.hid (fun w => rInside_any a b w ha hb)
      clear ha ha' hb hb' HO
      unfold sqv at HI
      unfold sqv
      go_enter Tryd.func18, Tryd.ntmps18
      go_wp2_with fail
      refine (HA.out _).mono ?_
      rintro e w1 ⟨rfl, hb1⟩
      have H1 := Lib.hid (two_boxes hb1)
      obtain ⟨q0, q1, q2⟩ := sq_cells H1.out.2.2
      clear hb1
      go_wp2_with fail
      refine (HB.out _).mono ?_
      rintro e w2 ⟨rfl, hb2⟩
      have H2 := Lib.hid (keep_box H1.out hb2)
      clear hb2 q0 q1 q2
      obtain ⟨q0, q1, q2⟩ := sq_cells H2.out.2.1
      obtain ⟨r0, r1, r2⟩ := sq_cells H2.out.2.2
      go_wp2_with fail
      refine (HI.out _).mono ?_
      rintro e w3 ⟨rfl, hb3⟩
      have H3 := Lib.hid (keep_box H2.out hb3)
      clear hb3 q0 q1 q2 r0 r1 r2
      go_wp2_with fail
      go_ret2
      exact ⟨by rw [HR.out]; rfl, H3.out.1⟩

theorem new_cells (Y : World) (n : Nat) (hn : Y.heap.size = n) (cs : Array Value) (i : Nat) : (Y.alloc (.cells cs 23)).cell? ⟨n, i, none⟩ = cs[i]? := by
  subst hn
  exact World.cell?_alloc_new _ _ _ _

set_option maxRecDepth 100000 in
set_option maxHeartbeats 2000000 in
theorem rchildren_any (s : Sq) (w : World) (h : s.okB = true) (h0 : 1 ≤ s.l) :
    Calls Tryd.prog 55 #[sqv s] w fun e w' => ∃ v, e = .returned v ∧ NewSqs w.heap.size w' v (kidsS s) ∧ Below w.heap.size w w' := by
  obtain ⟨h1, h2, h3, h4, h5, h6⟩ := (Sq.okB_iff s).1 h
  have hs := side_le s.l h1
  clear h
  unfold sqv
  go_enter Tryd.func55, Tryd.ntmps55
  go_wp2_with fail
  go_ret
  refine ⟨_, rfl, ⟨w.heap.size + 5, 4, rfl, by omega, by simp, ?_⟩, by (repeat (first | exact Below.refl _ _ | refine Below.drew ?_ | refine below_drewN ?_ _ | refine Below.alloc ?_ (by simp; try omega) _ | refine Below.setCell ?_ (by simp; try omega) _))⟩
  unfold kidsS
  intro i t hi
  match i, hi with
  | 0, hi => simp at hi; subst hi; exact ⟨new_cells _ _ (by simp) _ _, new_cells _ _ (by simp) _ _, new_cells _ _ (by simp) _ _⟩
  | 1, hi => simp at hi; subst hi; exact ⟨new_cells _ _ (by simp) _ _, new_cells _ _ (by simp) _ _, new_cells _ _ (by simp) _ _⟩
  | 2, hi => simp at hi; subst hi; exact ⟨new_cells _ _ (by simp) _ _, new_cells _ _ (by simp) _ _, new_cells _ _ (by simp) _ _⟩
  | 3, hi => simp at hi; subst hi; exact ⟨new_cells _ _ (by simp) _ _, new_cells _ _ (by simp) _ _, new_cells _ _ (by simp) _ _⟩

set_option maxHeartbeats 1000000 in
theorem Children_any (s : Sq) (w : World) : Calls Tryd.prog 15 #[sqv s] w (OutSq (childOut s) w) := by
  have HV := Lib.hid (fun w => ValidSquare_any s.l s.x s.y w)
  have HO := Lib.hid (show childOut s = if s.okB then (if s.l = 0 then ([], 1) else (kidsS s, 0)) else ([], 10) from rfl)
  cases hok : s.okB
  · have hok' : Sq.okB ⟨s.l, s.x, s.y⟩ = false := hok
    rw [hok'] at HV
    have HR := Lib.hid (show childOut s = ([], 10) by rw [HO.out, hok]; rfl)
    clear hok hok' HO
    unfold sqv
    go_enter Tryd.func15, Tryd.ntmps15
    go_wp2_with fail
    refine (HV.out _).mono ?_
    rintro e w1 ⟨rfl, hb1⟩
    have H1 := Lib.hid (show Below w.heap.size w w1 from (below_new _).trans (hb1.mono (by simp)))
    clear hb1
    go_wp2_with fail
    go_ret2
    exact OutSq.nil HR.out H1.out
  · have hok' : Sq.okB ⟨s.l, s.x, s.y⟩ = true := hok
    rw [hok'] at HV
    obtain ⟨v1, v2, v3, v4, v5, v6⟩ := (Sq.okB_iff s).1 hok
    by_cases h10 : s.l = 0
    · have HR := Lib.hid (show childOut s = ([], 1) by rw [HO.out, hok, if_pos rfl, if_pos h10])
      clear hok hok' HO
      rw [h10] at HV
      unfold sqv
      go_enter Tryd.func15, Tryd.ntmps15
      go_wp2_with fail
      refine (HV.out _).mono ?_
      rintro e w1 ⟨rfl, hb1⟩
      have H1 := Lib.hid (show Below w.heap.size w w1 from (below_new _).trans (hb1.mono (by simp)))
      obtain ⟨q0, q1, q2⟩ := three_cells0 ((hb1.block w.heap.size (by simp)).trans (World.alloc_heap_new w _))
      clear hb1
      go_wp2_with fail
      go_ret2
      exact OutSq.nil HR.out H1.out
    · have HR := Lib.hid (show childOut s = (kidsS s, 0) by rw [HO.out, hok, if_pos rfl, if_neg h10])
      have HC := Lib.hid (fun w => children_any s w hok (by omega))
      clear hok hok' HO
      unfold sqv at HC
      unfold sqv
      go_enter Tryd.func15, Tryd.ntmps15
      go_wp2_with fail
      refine (HV.out _).mono ?_
      rintro e w1 ⟨rfl, hb1⟩
      have H1 := Lib.hid (show Below w.heap.size w w1 from (below_new _).trans (hb1.mono (by simp)))
      obtain ⟨q0, q1, q2⟩ := three_cells0 ((hb1.block w.heap.size (by simp)).trans (World.alloc_heap_new w _))
      clear hb1
      go_wp2_with fail
      refine (HC.out _).mono ?_
      rintro e w2 ⟨v, rfl, hnew, hb2⟩
      obtain ⟨g, c, rfl, hg1, hg2, hA⟩ := hnew.slice
      have H2 := Lib.hid (And.intro hA (H1.out.trans (hb2.mono H1.out.size)))
      clear hb2 hnew hA hg1 hg2 q0 q1 q2
      go_wp2_with fail
      go_ret2
      exact OutSq.mk HR.out H2.out.1 H2.out.2

set_option maxHeartbeats 1000000 in
theorem rChildren_any (s : Sq) (w : World) : Calls Tryd.prog 16 #[sqv s] w (OutSq (childOut s) w) := by
  have HV := Lib.hid (fun w => rValidSquare_any s.l s.x s.y w)
  have HO := Lib.hid (show childOut s = if s.okB then (if s.l = 0 then ([], 1) else (kidsS s, 0)) else ([], 10) from rfl)
  cases hok : s.okB
  · have hok' : Sq.okB ⟨s.l, s.x, s.y⟩ = false := hok
    rw [hok'] at HV
    have HR := Lib.hid (show childOut s = ([], 10) by rw [HO.out, hok]; rfl)
    clear hok hok' HO
    unfold sqv
    go_enter Tryd.func16, Tryd.ntmps16
    go_wp2_with fail
    refine (HV.out _).mono ?_
    rintro e w1 ⟨rfl, hb1⟩
    have H1 := Lib.hid (show Below w.heap.size w w1 from (below_new _).trans (hb1.mono (by simp)))
    clear hb1
    go_wp2_with fail
    go_ret2
    exact OutSq.nil HR.out H1.out
  · have hok' : Sq.okB ⟨s.l, s.x, s.y⟩ = true := hok
    rw [hok'] at HV
    obtain ⟨v1, v2, v3, v4, v5, v6⟩ := (Sq.okB_iff s).1 hok
    by_cases h10 : s.l = 0
    · have HR := Lib.hid (show childOut s = ([], 1) by rw [HO.out, hok, if_pos rfl, if_pos h10])
      clear hok hok' HO
      rw [h10] at HV
      unfold sqv
      go_enter Tryd.func16, Tryd.ntmps16
      go_wp2_with fail
      refine (HV.out _).mono ?_
      rintro e w1 ⟨rfl, hb1⟩
      have H1 := Lib.hid (show Below w.heap.size w w1 from (below_new _).trans (hb1.mono (by simp)))
      obtain ⟨q0, q1, q2⟩ := three_cells0 ((hb1.block w.heap.size (by simp)).trans (World.alloc_heap_new w _))
      clear hb1
      go_wp2_with fail
      go_ret2
      exact OutSq.nil HR.out H1.out
    · have HR := Lib.hid (show childOut s = (kidsS s, 0) by rw [HO.out, hok, if_pos rfl, if_neg h10])
      have HC := Lib.hid (fun w => rchildren_any s w hok (by omega))
      clear hok hok' HO
      unfold sqv at HC
      unfold sqv
      go_enter Tryd.func16, Tryd.ntmps16
      go_wp2_with fail
      refine (HV.out _).mono ?_
      rintro e w1 ⟨rfl, hb1⟩
      have H1 := Lib.hid (show Below w.heap.size w w1 from (below_new _).trans (hb1.mono (by simp)))
      obtain ⟨q0, q1, q2⟩ := three_cells0 ((hb1.block w.heap.size (by simp)).trans (World.alloc_heap_new w _))
      clear hb1
      go_wp2_with fail
      refine (HC.out _).mono ?_
      rintro e w2 ⟨v, rfl, hnew, hb2⟩
      obtain ⟨g, c, rfl, hg1, hg2, hA⟩ := hnew.slice
      have H2 := Lib.hid (And.intro hA (H1.out.trans (hb2.mono H1.out.size)))
      clear hb2 hnew hA hg1 hg2 q0 q1 q2
      go_wp2_with fail
      go_ret2
      exact OutSq.mk HR.out H2.out.1 H2.out.2
end Go.Proofs.YtabolonlkocopaaDoor
