/- Methods of a cover that only look: covers, leads, size. -/
import Derived.Test.YtabolonlkocopaaDoorCovA
namespace Go.Proofs.YtabolonlkocopaaDoor
open Go.RowKit Go.Plc

set_option maxHeartbeats 1000000 in
theorem covers_any (b : Nat → Nat) (s : Sq) (C : List Sq) (w : World) (h : Cov w b C) (hs : s.okB = true) :
    Calls Tryd.prog 83 #[.agg (covA b), sqv s] w fun e w' => e = .returned (.bool (coversS C s)) ∧ Below w.heap.size w w' := by
  have HC := Lib.hid (show coversS C s = (memB s C || hasAroundS C s) from rfl)
  have HB := Lib.hid (Boxes.start w b s)
  have HCv := Lib.hid (show ∀ wr, Boxes w w.heap.size b s wr → Cov wr b C from fun wr hb => h.below hb.bel)
  have HO := Lib.hid hs
  clear h hs
  unfold sqv covA
  go_enter Tryd.func83, Tryd.ntmps83
  go_wp2_with fail
  change Calls _ _ _ ((w.alloc (.cells (covA b) 84)).alloc (.cells #[.int .i64 s.l, .int .i64 s.x, .int .i64 s.y] 23)) _
  generalize (w.alloc (.cells (covA b) 84)).alloc (.cells #[.int .i64 s.l, .int .i64 s.x, .int .i64 s.y] 23) = w0 at *
  refine (hasOne_cov b s C _ (HCv.out _ HB.out) HO.out).mono ?_
  rintro e w1 ⟨rfl, hb1⟩
  have HB1 := Lib.hid (HB.out.step hb1)
  clear hb1
  obtain ⟨q0, q1, q2, q3, q4, q5, q6, q7, q8, q9, q10⟩ := cov_cells HB1.out.c
  obtain ⟨s0, s1, s2⟩ := sq_cells HB1.out.s
  cases hm : memB s C
  · have HM := Lib.hid hm
    clear hm
    go_wp2_with fail
    refine (hasAround_any b s C _ (HCv.out _ HB1.out) HO.out).mono ?_
    rintro e w2 ⟨rfl, hb2⟩
    have HB2 := Lib.hid (HB1.out.step hb2)
    clear hb2
    go_wp2_with fail
    go_ret
    exact ⟨ret_b (by rw [HC.out, HM.out]; rfl), HB2.out.bel⟩
  · have HM := Lib.hid hm
    clear hm
    go_wp2_with fail
    go_ret
    exact ⟨ret_b (by rw [HC.out, HM.out]; rfl), HB1.out.bel⟩

theorem side_down (l : Int) (h0 : 1 ≤ l) (h1 : l ≤ 10) : sideOf (l - 1) = 2 * sideOf l := by
  unfold sideOf
  rw [show (10 - (l - 1)).toNat = (10 - l).toNat + 1 by omega, Int.pow_succ]; omega
theorem kids_ok {p : Sq} (h : p.okB = true) (h1 : 1 ≤ p.l) : ∀ k ∈ kidsS p, k.okB = true := by
  obtain ⟨a1, a2, a3, a4, a5, a6⟩ := (Sq.okB_iff p).1 h
  have hd := side_down p.l h1 a2
  intro k hk
  unfold kidsS at hk
  simp only [List.mem_cons, List.not_mem_nil, or_false] at hk
  rcases hk with rfl | rfl | rfl | rfl <;> refine (Sq.okB_iff _).2 ⟨?_, ?_, ?_, ?_, ?_, ?_⟩ <;> dsimp only <;> (try rw [hd]) <;> omega
theorem par_ok {s : Sq} (h : s.okB = true) (h1 : s.l < 10) : (parS s).okB = true := blur_ok h (by omega) (by omega)
theorem NewSqs.slice {B : Nat} {w : World} {v : Value} {L : List Sq} (h : NewSqs B w v L) : ∃ g c, v = .slice (some ⟨g, 0, none⟩) L.length c ∧ B ≤ g ∧ g < w.heap.size ∧ SqA w w.heap.size (some ⟨g, 0, none⟩) L := by
  obtain ⟨g, c, rfl, hB, hg, hc⟩ := h
  refine ⟨g, c, rfl, hB, hg, fun i s hs => ?_⟩
  obtain ⟨h1, h2, h3⟩ := hc i s hs
  have e : (⟨g, 0, none⟩ : Addr).add (i * 3) = ⟨g, i * 3, none⟩ := by
    unfold Addr.add
    split
    · rename_i h; rw [h]
    · simp
  exact ⟨_, rfl, hg, by rw [e]; exact h1, by rw [e]; exact h2, by rw [e]; exact h3⟩

set_option maxHeartbeats 1000000 in
theorem leads_no (b : Nat → Nat) (s : Sq) (C : List Sq) (w : World) (hs : s.okB = true) (hno : s.l = 10 ∨ s.x % 2 ≠ 0 ∨ s.y % 2 ≠ 0) :
    Calls Tryd.prog 76 #[.agg (covA b), sqv s] w fun e w' => e = .returned (.bool (leadsS C s)) ∧ Below w.heap.size w w' := by
  have HR := Lib.hid (show leadsS C s = false by unfold leadsS; rcases hno with h | h | h <;> simp [h])
  obtain ⟨h1, h2, h3, h4, h5, h6⟩ := (Sq.okB_iff s).1 hs
  clear hs
  unfold sqv covA
  cases a1 : (s.l == 10) <;> cases a2 : (s.x % 2 != 0) <;> cases a3 : (s.y % 2 != 0)
  · simp at a1 a2 a3; omega
  all_goals
    clear hno
    go_enter Tryd.func76, Tryd.ntmps76
    go_wp2_with fail
    go_ret
    exact ⟨ret_b (by rw [HR.out]), by (repeat (first | exact Below.refl _ _ | refine Below.drew ?_ | refine below_drewN ?_ _ | refine Below.alloc ?_ (by simp; try omega) _ | refine Below.setCell ?_ (by simp; try omega) _))⟩

set_option maxHeartbeats 1000000 in
theorem leads_yes (b : Nat → Nat) (s : Sq) (C : List Sq) (w : World) (h : Cov w b C) (hs : s.okB = true) (g1 : s.l < 10) (g2 : s.x % 2 = 0) (g3 : s.y % 2 = 0) :
    Calls Tryd.prog 76 #[.agg (covA b), sqv s] w fun e w' => e = .returned (.bool (leadsS C s)) ∧ Below w.heap.size w w' := by
  have HR := Lib.hid (show leadsS C s = (kidsS (parS s)).all fun k => memB k C by
    unfold leadsS memB
    have : s.l ≠ 10 := by omega
    simp [this, g2, g3])
  have HB := Lib.hid (Boxes.start w b s)
  have HCv := Lib.hid (show ∀ wr, Boxes w w.heap.size b s wr → Cov wr b C from fun wr hb => h.below hb.bel)
  have HP := Lib.hid (par_ok hs g1)
  have HK := Lib.hid (kids_ok (par_ok hs g1) (by show 1 ≤ s.l + 1; have := ((Sq.okB_iff s).1 hs).1; omega))
  obtain ⟨h1, h2, h3, h4, h5, h6⟩ := (Sq.okB_iff s).1 hs
  have a1 : (s.l == 10) = false := by simp; omega
  have a2 : (s.x % 2 != 0) = false := by simp [g2]
  have a3 : (s.y % 2 != 0) = false := by simp [g3]
  clear h hs g2 g3
  unfold sqv covA
  go_enter Tryd.func76, Tryd.ntmps76
  go_wp2_with fail
  change Calls _ _ _ ((w.alloc (.cells (covA b) 84)).alloc (.cells #[.int .i64 s.l, .int .i64 s.x, .int .i64 s.y] 23)) _
  generalize (w.alloc (.cells (covA b) 84)).alloc (.cells #[.int .i64 s.l, .int .i64 s.x, .int .i64 s.y] 23) = w0 at *
  refine (blur_any s (s.l + 1) _ h1 (by omega) (by omega)).mono ?_
  rintro e w1 ⟨rfl, hb1⟩
  have HB1 := Lib.hid (HB.out.step hb1)
  clear hb1
  go_wp2_with fail
  refine (children_any (parS s) _ HP.out (by show 1 ≤ s.l + 1; omega)).mono ?_
  rintro e w2 ⟨v, rfl, hnew, hb2⟩
  have HB2 := Lib.hid (HB1.out.step hb2)
  obtain ⟨g, c, rfl, hg1, hg2, hA⟩ := hnew.slice
  have HA := Lib.hid hA
  clear hb2 hnew hA
  rw [show (kidsS (parS s)).length = 4 from rfl]
  clear hg1 hg2
  generalize (⟨g, 0, none⟩ : Addr) = ad0 at *
  go_wp2_with fail
  go_loopw [29] (fun k wr => ∃ i : Nat, k = .int .i64 (i : Int) ∧ i ≤ 4 ∧ ((kidsS (parS s)).take i).all (fun k => memB k C) = true ∧ Boxes w w.heap.size b s wr ∧ SqA wr wr.heap.size (some ad0) (kidsS (parS s))) (fun k _ => 4 - (intOf k).toNat)
  case atStart => exact ⟨0, rfl, by omega, rfl, HB2.out, HA.out⟩
  case round =>
    obtain ⟨i, rfl, hi, hall, hB, hA⟩ := hrel
    have HAl := Lib.hid hall
    have HBr := Lib.hid hB
    have HAr := Lib.hid hA
    obtain ⟨q0, q1, q2, q3, q4, q5, q6, q7, q8, q9, q10⟩ := cov_cells hB.c
    have hsz := hB.sz
    have hsz1 : w.heap.size + 1 < wr.heap.size := by omega
    have hsz0 : w.heap.size < wr.heap.size := by omega
    clear hall hB hA
    by_cases hlt : i < 4
    · obtain ⟨k, ad, hk, hm, had, hb, c1, c2, c3⟩ := HAr.out.at_ (n := 4) rfl hlt
      injection had with had
      subst had
      have HKi := Lib.hid hk
      have HKo := Lib.hid (HK.out k hm)
      have HT := Lib.hid (show ((kidsS (parS s)).take (i + 1)).all (fun k => memB k C) = memB k C by
        obtain ⟨h', e⟩ := List.getElem?_eq_some_iff.1 hk
        rw [List.take_succ_eq_append_getElem h', List.all_append, HAl.out, e]; simp)
      clear hk hm
      go_wp2_with fail
      refine (hasOne_cov b k C _ ((HCv.out _ HBr.out).alloc _) HKo.out).mono ?_
      rintro e w3 ⟨rfl, hb3⟩
      have HB3 := Lib.hid ((HBr.out.step (below_new _)).step hb3)
      have HA3 := Lib.hid ((HAr.out.below (below_new _)).below (hb3.mono (by simp)) |>.mono (show wr.heap.size ≤ w3.heap.size by have := hb3.size; simp at this; omega))
      clear hb3
      cases hmem : memB k C
      · have HM := Lib.hid hmem
        clear hmem
        go_wp2_with fail
        go_ret
        refine ⟨ret_b ?_, HB3.out.bel⟩
        rw [HR.out]
        symm
        rw [List.all_eq_false]
        exact ⟨k, List.mem_of_getElem? HKi.out, by rw [HM.out]; simp⟩
      · have HM := Lib.hid hmem
        clear hmem
        go_wp2_with fail
        go_roundw
        case rel => exact ⟨i + 1, by go_num, by omega, by rw [HT.out, HM.out], HB3.out, HA3.out⟩
        case measure => simp [intOf]; omega
    · have HE := Lib.hid (show leadsS C s = true by
        rw [HR.out, ← HAl.out, List.take_of_length_le (by show 4 ≤ i; omega)])
      go_wp2_with fail
      go_ret
      exact ⟨ret_b (by rw [HE.out]), HBr.out.bel⟩
end Go.Proofs.YtabolonlkocopaaDoor
