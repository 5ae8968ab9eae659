/- PlacesDates: the walk. -/
import Derived.Test.YtabolonlkocopaaDoorAwk
namespace Go.Proofs.YtabolonlkocopaaDoor
open Go.RowKit Go.Plc

set_option maxHeartbeats 2000000 in
theorem later_any (y m d y' m' d' : Int) (w : World) :
    Calls Tryd.prog 46 #[.agg #[.int .i64 y, .int .i64 m, .int .i64 d], .agg #[.int .i64 y', .int .i64 m', .int .i64 d']] w fun e w' => e = .returned (.bool (laterB y m d y' m' d')) ∧ Below w.heap.size w w' := by
  have HL := Lib.hid (show laterB y m d y' m' d' = if y ≠ y' then decide (y > y') else if m ≠ m' then decide (m > m') else decide (d > d') from rfl)
  cases a1 : (y != y') <;> cases a2 : (m != m')
  all_goals
    have HA := Lib.hid (And.intro a1 a2)
    go_enter Tryd.func46, Tryd.ntmps46
    go_wp2_with fail
    go_ret
    refine ⟨ret_b ?_, by (repeat (first | exact Below.refl _ _ | refine Below.drew ?_ | refine below_drewN ?_ _ | refine Below.alloc ?_ (by simp; try omega) _ | refine Below.setCell ?_ (by simp; try omega) _))⟩
    rw [HL.out]
    have h := HA.out
    simp at h
    simp [h.1, h.2]

theorem nightE_cases (y m d : Int) : (vdate y m d = true ∧ num y m d ≤ 99999 ∧ nightV y m d = num y m d ∧ nightE y m d = 0) ∨ (nightE y m d != 0) = true := by
  unfold nightV nightE
  by_cases h : vdate y m d = true
  · by_cases h2 : num y m d > 99999
    · right; simp [h, h2]
    · left; simp only [h, h2, if_true, if_false]; exact ⟨trivial, by omega, trivial, trivial⟩
  · right; simp [h]

set_option maxRecDepth 100000 in
set_option maxHeartbeats 8000000 in
theorem PlacesDates_any (y m d a b : Int) (w : World) (hM : MonthDays w) (hT : TabW w) :
    Calls Tryd.prog 10 #[.agg #[.int .i64 y, .int .i64 m, .int .i64 d], .int .i64 a, .int .i64 b] w fun e w' => e = .returned (.bool true) ∧ Below w.heap.size w w' := by
  have HM := Lib.hid hM
  have HT := Lib.hid hT
  clear hM hT
  go_enter Tryd.func10, Tryd.ntmps10
  go_wp2_with fail
  refine (awake_any _ (HM.out.alloc _) (HT.out.below (below_new _))).mono ?_
  rintro e w1 ⟨rfl, hb1⟩
  have H1 := Lib.hid (show Below w.heap.size w w1 ∧ w1.heap[w.heap.size]? = some (.cells #[.int .i64 y, .int .i64 m, .int .i64 d] 38) from ⟨(below_new _).trans (hb1.mono (by simp)), (hb1.block _ (by simp)).trans (World.alloc_heap_new w _)⟩)
  clear hb1
  obtain ⟨q0, q1, q2⟩ := date_cells H1.out.2
  go_wp2_with fail
  refine (NightOf_any y m d w1 (HM.out.below H1.out.1)).mono ?_
  rintro e w2 ⟨rfl, hb2⟩
  have H2 := Lib.hid (show Below w.heap.size w w2 ∧ w2.heap[w.heap.size]? = some (.cells #[.int .i64 y, .int .i64 m, .int .i64 d] 38) from ⟨H1.out.1.trans (hb2.mono H1.out.1.size), (hb2.block _ (Array.getElem?_eq_some_iff.1 H1.out.2).1).trans H1.out.2⟩)
  clear hb2 H1 q0 q1 q2
  rcases nightE_cases y m d with ⟨hv, hn, e1, e2⟩ | hne
  · rw [e1, e2]
    have HV := Lib.hid (And.intro hv hn)
    clear hv hn e1 e2
    generalize hnn : num y m d = nn at *
    have HNN := Lib.hid hnn
    clear hnn
    go_wp2_with fail
    refine (DateOf_any nn w2 (HM.out.below H2.out.1)).mono ?_
    rintro e w3 ⟨(⟨_, _, y1, m1, d1, rfl, hv1, hn1⟩ | ⟨hno, rfl⟩), hb3⟩
    · obtain ⟨rfl, rfl, rfl⟩ := date_one hv1 HV.out.1 (hn1.trans HNN.out.symm)
      have H3 := Lib.hid (show Below w.heap.size w w3 ∧ w3.heap[w.heap.size]? = some (.cells #[.int .i64 y1, .int .i64 m1, .int .i64 d1] 38) from ⟨H2.out.1.trans (hb3.mono H2.out.1.size), (hb3.block _ (Array.getElem?_eq_some_iff.1 H2.out.2).1).trans H2.out.2⟩)
      clear hb3 hv1 hn1 H2
      obtain ⟨q0, q1, q2⟩ := date_cells H3.out.2
      have hz : w.heap.size < w3.heap.size := (Array.getElem?_eq_some_iff.1 H3.out.2).1
      have HVd := Lib.hid (ValidDate_any y1 m1 d1 (w3.alloc (.cells #[.int .i64 y1, .int .i64 m1, .int .i64 d1] 38)) ((HM.out.below H3.out.1).alloc _))
      rw [HV.out.1] at HVd
      go_wp2_with fail
      refine HVd.out.mono ?_
      rintro e w4 ⟨rfl, hb4⟩
      have HZ := Lib.hid (show Below w.heap.size w w4 from (H3.out.1.trans ((below_new _).mono H3.out.1.size)).trans (hb4.mono (by have := H3.out.1.size; simp; omega)))
      clear hb4 HVd H3 q0 q1 q2 hz HV HNN
      go_wp2_with fail
      generalize w4 = wz at *
      refine (DateOf_any a wz (HM.out.below HZ.out)).mono ?_
      rintro e wa ⟨(⟨ha0, ha1, ya, ma, da, rfl, hva, hna⟩ | ⟨hano, rfl⟩), hba⟩
      · have HA := Lib.hid (show (vdate ya ma da = true ∧ num ya ma da = a) ∧ Below w.heap.size w wa from ⟨⟨hva, hna⟩, HZ.out.trans (hba.mono HZ.out.size)⟩)
        have HNi := Lib.hid (fun W hM => show Calls Tryd.prog 25 #[.agg #[.int .i64 ya, .int .i64 ma, .int .i64 da]] W fun e w' => e = .returned (.tuple #[.int .i64 a, .int .i64 0]) ∧ Below W.heap.size W w' by
          have h := NightOf_any ya ma da W hM
          rw [(night_small hva (by omega)).1, (night_small hva (by omega)).2, hna] at h
          exact h)
        clear hva hna hba
        go_wp2_with fail
        refine (DateOf_any b _ ((HM.out.below HA.out.2).alloc _)).mono ?_
        rintro e wb ⟨(⟨hb0, hb1, yb, mb, db, rfl, hvb, hnb⟩ | ⟨hbno, rfl⟩), hbb⟩
        · have HB := Lib.hid (show (vdate yb mb db = true ∧ num yb mb db = b) ∧ Below w.heap.size w (wb.alloc (.cells #[.int .i64 yb, .int .i64 mb, .int .i64 db] 38)) ∧ (wb.alloc (.cells #[.int .i64 yb, .int .i64 mb, .int .i64 db] 38)).heap[wa.heap.size]? = some (.cells #[.int .i64 ya, .int .i64 ma, .int .i64 da] 38) ∧ (wb.alloc (.cells #[.int .i64 yb, .int .i64 mb, .int .i64 db] 38)).heap[wb.heap.size]? = some (.cells #[.int .i64 yb, .int .i64 mb, .int .i64 db] 38) from by
            have h1 : Below w.heap.size w wb := (HA.out.2.trans ((below_new _).mono HA.out.2.size)).trans (hbb.mono (by have := HA.out.2.size; simp; omega))
            have h2 := (hbb.block wa.heap.size (by simp)).trans (World.alloc_heap_new wa (.cells #[.int .i64 ya, .int .i64 ma, .int .i64 da] 38))
            exact ⟨⟨hvb, hnb⟩, h1.trans ((below_new _).mono h1.size), (Below.heap_alloc _ _ _ (Array.getElem?_eq_some_iff.1 h2).1).trans h2, World.alloc_heap_new wb _⟩)
          have HL := Lib.hid (show laterB ya ma da yb mb db = decide (a > b) by
            obtain ⟨a1, a2, a3, a4, a5, a6⟩ := (vdate_iff _ _ _).1 HA.out.1.1
            obtain ⟨b1, b2, b3, b4, b5, b6⟩ := (vdate_iff _ _ _).1 hvb
            rw [later_iff a3 a4 a5 a6 b3 b4 b5 b6, HA.out.1.2, hnb])
          obtain ⟨q0, q1, q2⟩ := date_cells HB.out.2.2.1
          have hzz : wa.heap.size < wb.heap.size := by have := hbb.size; simp at this; omega
          clear hvb hnb hbb
          go_wp2_with fail
          refine (HNi.out _ (HM.out.below HB.out.2.1)).mono ?_
          rintro e wc ⟨rfl, hbc⟩
          have HC := Lib.hid (show Below w.heap.size w wc ∧ wc.heap[wa.heap.size]? = some (.cells #[.int .i64 ya, .int .i64 ma, .int .i64 da] 38) ∧ wc.heap[wb.heap.size]? = some (.cells #[.int .i64 yb, .int .i64 mb, .int .i64 db] 38) from
            ⟨HB.out.2.1.trans (hbc.mono HB.out.2.1.size), (hbc.block _ (Array.getElem?_eq_some_iff.1 HB.out.2.2.1).1).trans HB.out.2.2.1, (hbc.block _ (Array.getElem?_eq_some_iff.1 HB.out.2.2.2).1).trans HB.out.2.2.2⟩)
          clear hbc q0 q1 q2 hzz
          obtain ⟨q0, q1, q2⟩ := date_cells HC.out.2.1
          obtain ⟨r0, r1, r2⟩ := date_cells HC.out.2.2
          have HLa := Lib.hid (later_any ya ma da yb mb db wc)
          rw [HL.out] at HLa
          go_wp2_with fail
          refine HLa.out.mono ?_
          rintro e wd ⟨rfl, hbd⟩
          have HD := Lib.hid (HC.out.1.trans (hbd.mono HC.out.1.size))
          clear hbd q0 q1 q2 r0 r1 r2
          cases hgt : decide (a > b)
          all_goals
            go_wp2_with fail
            go_ret
            exact ⟨ret_b (by simp_all), HD.out⟩
        · have HB := Lib.hid (show Below w.heap.size w (wb.alloc (.cells #[.int .i64 0, .int .i64 0, .int .i64 0] 38)) ∧ (wb.alloc (.cells #[.int .i64 0, .int .i64 0, .int .i64 0] 38)).heap[wa.heap.size]? = some (.cells #[.int .i64 ya, .int .i64 ma, .int .i64 da] 38) from by
            have h1 : Below w.heap.size w wb := (HA.out.2.trans ((below_new _).mono HA.out.2.size)).trans (hbb.mono (by have := HA.out.2.size; simp; omega))
            have h2 := (hbb.block wa.heap.size (by simp)).trans (World.alloc_heap_new wa (.cells #[.int .i64 ya, .int .i64 ma, .int .i64 da] 38))
            exact ⟨h1.trans ((below_new _).mono h1.size), (Below.heap_alloc _ _ _ (Array.getElem?_eq_some_iff.1 h2).1).trans h2⟩)
          obtain ⟨q0, q1, q2⟩ := date_cells HB.out.2
          have hzz : wa.heap.size < wb.heap.size := by have := hbb.size; simp at this; omega
          clear hbb hbno
          go_wp2_with fail
          refine (HNi.out _ (HM.out.below HB.out.1)).mono ?_
          rintro e wc ⟨rfl, hbc⟩
          have HC := Lib.hid (HB.out.1.trans (hbc.mono HB.out.1.size))
          clear hbc q0 q1 q2 hzz
          go_wp2_with fail
          go_ret
          exact ⟨rfl, HC.out⟩
      · have HA := Lib.hid (HZ.out.trans (hba.mono HZ.out.size))
        have hcase : decide (a < 0) = true ∨ (decide (a < 0) = false ∧ decide (99999 < a) = true) := by simp; omega
        clear hano hba
        go_wp2_with fail
        refine (DateOf_any b _ ((HM.out.below HA.out).alloc _)).mono ?_
        rintro e wb ⟨hor, hbb⟩
        have HB := Lib.hid (show Below w.heap.size w wb from (HA.out.trans ((below_new _).mono HA.out.size)).trans (hbb.mono (by have := HA.out.size; simp; omega)))
        clear hbb
        rcases hor with ⟨_, _, yb, mb, db, rfl, hvb, hnb⟩ | ⟨hbno, rfl⟩
        · clear hvb hnb
          rcases hcase with h1 | ⟨h1, h2⟩
          all_goals
            go_wp2_with fail
            go_ret
            exact ⟨ret_b (by simp_all), HB.out.trans ((below_new _).mono HB.out.size)⟩
        · clear hbno
          rcases hcase with h1 | ⟨h1, h2⟩
          all_goals
            go_wp2_with fail
            go_ret
            exact ⟨ret_b (by simp_all), HB.out.trans ((below_new _).mono HB.out.size)⟩
    · exact absurd ⟨by have := ((vdate_iff _ _ _).1 HV.out.1); have := num_bd this.2.2.1 this.2.2.2.1 this.2.2.2.2.1 this.2.2.2.2.2; have := (dby_bd (a := y) (by omega) (by omega)).1; have := HNN.out; omega, HV.out.2⟩ hno
  · generalize nightV y m d = nv at *
    generalize nightE y m d = ne at *
    have HZ := Lib.hid H2.out.1
    go_wp2_with fail
    generalize w2 = wz at *
    refine (DateOf_any a wz (HM.out.below HZ.out)).mono ?_
    rintro e wa ⟨(⟨ha0, ha1, ya, ma, da, rfl, hva, hna⟩ | ⟨hano, rfl⟩), hba⟩
    · have HA := Lib.hid (show (vdate ya ma da = true ∧ num ya ma da = a) ∧ Below w.heap.size w wa from ⟨⟨hva, hna⟩, HZ.out.trans (hba.mono HZ.out.size)⟩)
      have HNi := Lib.hid (fun W hM => show Calls Tryd.prog 25 #[.agg #[.int .i64 ya, .int .i64 ma, .int .i64 da]] W fun e w' => e = .returned (.tuple #[.int .i64 a, .int .i64 0]) ∧ Below W.heap.size W w' by
        have h := NightOf_any ya ma da W hM
        rw [(night_small hva (by omega)).1, (night_small hva (by omega)).2, hna] at h
        exact h)
      clear hva hna hba
      go_wp2_with fail
      refine (DateOf_any b _ ((HM.out.below HA.out.2).alloc _)).mono ?_
      rintro e wb ⟨(⟨hb0, hb1, yb, mb, db, rfl, hvb, hnb⟩ | ⟨hbno, rfl⟩), hbb⟩
      · have HB := Lib.hid (show (vdate yb mb db = true ∧ num yb mb db = b) ∧ Below w.heap.size w (wb.alloc (.cells #[.int .i64 yb, .int .i64 mb, .int .i64 db] 38)) ∧ (wb.alloc (.cells #[.int .i64 yb, .int .i64 mb, .int .i64 db] 38)).heap[wa.heap.size]? = some (.cells #[.int .i64 ya, .int .i64 ma, .int .i64 da] 38) ∧ (wb.alloc (.cells #[.int .i64 yb, .int .i64 mb, .int .i64 db] 38)).heap[wb.heap.size]? = some (.cells #[.int .i64 yb, .int .i64 mb, .int .i64 db] 38) from by
          have h1 : Below w.heap.size w wb := (HA.out.2.trans ((below_new _).mono HA.out.2.size)).trans (hbb.mono (by have := HA.out.2.size; simp; omega))
          have h2 := (hbb.block wa.heap.size (by simp)).trans (World.alloc_heap_new wa (.cells #[.int .i64 ya, .int .i64 ma, .int .i64 da] 38))
          exact ⟨⟨hvb, hnb⟩, h1.trans ((below_new _).mono h1.size), (Below.heap_alloc _ _ _ (Array.getElem?_eq_some_iff.1 h2).1).trans h2, World.alloc_heap_new wb _⟩)
        have HL := Lib.hid (show laterB ya ma da yb mb db = decide (a > b) by
          obtain ⟨a1, a2, a3, a4, a5, a6⟩ := (vdate_iff _ _ _).1 HA.out.1.1
          obtain ⟨b1, b2, b3, b4, b5, b6⟩ := (vdate_iff _ _ _).1 hvb
          rw [later_iff a3 a4 a5 a6 b3 b4 b5 b6, HA.out.1.2, hnb])
        obtain ⟨q0, q1, q2⟩ := date_cells HB.out.2.2.1
        have hzz : wa.heap.size < wb.heap.size := by have := hbb.size; simp at this; omega
        clear hvb hnb hbb
        go_wp2_with fail
        refine (HNi.out _ (HM.out.below HB.out.2.1)).mono ?_
        rintro e wc ⟨rfl, hbc⟩
        have HC := Lib.hid (show Below w.heap.size w wc ∧ wc.heap[wa.heap.size]? = some (.cells #[.int .i64 ya, .int .i64 ma, .int .i64 da] 38) ∧ wc.heap[wb.heap.size]? = some (.cells #[.int .i64 yb, .int .i64 mb, .int .i64 db] 38) from
          ⟨HB.out.2.1.trans (hbc.mono HB.out.2.1.size), (hbc.block _ (Array.getElem?_eq_some_iff.1 HB.out.2.2.1).1).trans HB.out.2.2.1, (hbc.block _ (Array.getElem?_eq_some_iff.1 HB.out.2.2.2).1).trans HB.out.2.2.2⟩)
        clear hbc q0 q1 q2 hzz
        obtain ⟨q0, q1, q2⟩ := date_cells HC.out.2.1
        obtain ⟨r0, r1, r2⟩ := date_cells HC.out.2.2
        have HLa := Lib.hid (later_any ya ma da yb mb db wc)
        rw [HL.out] at HLa
        go_wp2_with fail
        refine HLa.out.mono ?_
        rintro e wd ⟨rfl, hbd⟩
        have HD := Lib.hid (HC.out.1.trans (hbd.mono HC.out.1.size))
        clear hbd q0 q1 q2 r0 r1 r2
        cases hgt : decide (a > b)
        all_goals
          go_wp2_with fail
          go_ret
          exact ⟨ret_b (by simp_all), HD.out⟩
      · have HB := Lib.hid (show Below w.heap.size w (wb.alloc (.cells #[.int .i64 0, .int .i64 0, .int .i64 0] 38)) ∧ (wb.alloc (.cells #[.int .i64 0, .int .i64 0, .int .i64 0] 38)).heap[wa.heap.size]? = some (.cells #[.int .i64 ya, .int .i64 ma, .int .i64 da] 38) from by
          have h1 : Below w.heap.size w wb := (HA.out.2.trans ((below_new _).mono HA.out.2.size)).trans (hbb.mono (by have := HA.out.2.size; simp; omega))
          have h2 := (hbb.block wa.heap.size (by simp)).trans (World.alloc_heap_new wa (.cells #[.int .i64 ya, .int .i64 ma, .int .i64 da] 38))
          exact ⟨h1.trans ((below_new _).mono h1.size), (Below.heap_alloc _ _ _ (Array.getElem?_eq_some_iff.1 h2).1).trans h2⟩)
        obtain ⟨q0, q1, q2⟩ := date_cells HB.out.2
        have hzz : wa.heap.size < wb.heap.size := by have := hbb.size; simp at this; omega
        clear hbb hbno
        go_wp2_with fail
        refine (HNi.out _ (HM.out.below HB.out.1)).mono ?_
        rintro e wc ⟨rfl, hbc⟩
        have HC := Lib.hid (HB.out.1.trans (hbc.mono HB.out.1.size))
        clear hbc q0 q1 q2 hzz
        go_wp2_with fail
        go_ret
        exact ⟨rfl, HC.out⟩
    · have HA := Lib.hid (HZ.out.trans (hba.mono HZ.out.size))
      have hcase : decide (a < 0) = true ∨ (decide (a < 0) = false ∧ decide (99999 < a) = true) := by simp; omega
      clear hano hba
      go_wp2_with fail
      refine (DateOf_any b _ ((HM.out.below HA.out).alloc _)).mono ?_
      rintro e wb ⟨hor, hbb⟩
      have HB := Lib.hid (show Below w.heap.size w wb from (HA.out.trans ((below_new _).mono HA.out.size)).trans (hbb.mono (by have := HA.out.size; simp; omega)))
      clear hbb
      rcases hor with ⟨_, _, yb, mb, db, rfl, hvb, hnb⟩ | ⟨hbno, rfl⟩
      · clear hvb hnb
        rcases hcase with h1 | ⟨h1, h2⟩
        all_goals
          go_wp2_with fail
          go_ret
          exact ⟨ret_b (by simp_all), HB.out.trans ((below_new _).mono HB.out.size)⟩
      · clear hbno
        rcases hcase with h1 | ⟨h1, h2⟩
        all_goals
          go_wp2_with fail
          go_ret
          exact ⟨ret_b (by simp_all), HB.out.trans ((below_new _).mono HB.out.size)⟩
end Go.Proofs.YtabolonlkocopaaDoor
