/- NamesRelates: the walk. -/
import Derived.Test.YtplpogonkfnafaaNmBh
import Derived.Test.YtplpogonkfnafaaNmRm
import Derived.Test.YtplpogonkfnafaaNmBg
namespace Go.Proofs.Ytplpogonkfnafaa
open Go.RowKit Go.Nm

/-- what lies in the boxes of a law's arguments -/
theorem args_cells (w : World) (v1 v2 : Value) (a0 a1 a2 a3 a4 a5 : Value) : ∀ W0, (w.alloc (.cells #[v1, v2] 25)).alloc (.cells #[a0, a1, a2, a3, a4, a5] 27) = W0 → Below w.heap.size w W0 ∧ ∀ Y, Below W0.heap.size W0 Y →
    (Y.cell? ⟨w.heap.size, 0, none⟩ = some v1 ∧ Y.cell? ⟨w.heap.size, 1, none⟩ = some v2) ∧ Y.cell? ⟨w.heap.size + 1, 0, none⟩ = some a0 ∧ Y.cell? ⟨w.heap.size + 1, 1, none⟩ = some a1 ∧ Y.cell? ⟨w.heap.size + 1, 2, none⟩ = some a2 ∧ Y.cell? ⟨w.heap.size + 1, 3, none⟩ = some a3 ∧ Y.cell? ⟨w.heap.size + 1, 4, none⟩ = some a4 ∧ Y.cell? ⟨w.heap.size + 1, 5, none⟩ = some a5 := by
  intro W0 hW
  have hb : Below w.heap.size w W0 := by rw [← hW]; exact (((Below.refl _ _).alloc (by simp) _).alloc (by simp) _)
  refine ⟨hb, fun Y hY => ?_⟩
  have h0 : W0.heap[w.heap.size]? = some (.cells #[v1, v2] 25) := by rw [← hW]; simp only [heap_al, Array.getElem?_push, Array.size_push]; (repeat rw [if_neg (by omega)]); exact if_pos trivial
  have h1 : W0.heap[w.heap.size + 1]? = some (.cells #[a0, a1, a2, a3, a4, a5] 27) := by rw [← hW]; simp only [heap_al, Array.getElem?_push, Array.size_push]; exact if_pos trivial
  have g0 := (hY.block _ (Array.getElem?_eq_some_iff.1 h0).1).trans h0
  have g1 := (hY.block _ (Array.getElem?_eq_some_iff.1 h1).1).trans h1
  refine ⟨cells_two g0, ?_, ?_, ?_, ?_, ?_, ?_⟩ <;> simp [World.cell?, g1]
set_option maxRecDepth 100000 in
set_option maxHeartbeats 16000000 in
theorem NamesRelates_any (v vc u : Value) (b : Bk) (aV aW aX aY aR : Int) (L : List Int) (w : World) (hv : BkV w v b vc) (hu : InSl w w.heap.size u L) :
    Calls Try.prog 10 #[v, .agg #[.int .i64 aV, .int .i64 aW, .int .i64 aX, .int .i64 aY, .int .i64 aR, u]] w fun e w' => e = .returned (.bool true) ∧ Below w.heap.size w w' := by
  have hv0 := hv
  obtain ⟨v1, rfl, h1, h2⟩ := hv
  obtain ⟨A1, c1, rfl, _⟩ := h1.form
  obtain ⟨A2, c2, rfl⟩ := h2.form
  obtain ⟨Au, cu, rfl, _⟩ := hu.form
  obtain ⟨W0, hW0⟩ : ∃ W0, (w.alloc (.cells #[.slice A1 b.first.length c1, .slice A2 b.chs.length c2] 25)).alloc (.cells #[.int .i64 aV, .int .i64 aW, .int .i64 aX, .int .i64 aY, .int .i64 aR, .slice Au L.length cu] 27) = W0 := ⟨_, rfl⟩
  obtain ⟨hb0, hcs⟩ := args_cells w _ _ _ _ _ _ _ _ W0 hW0
  have HCs := Lib.hid hcs
  have HB0 := Lib.hid hb0
  have HBk0 := Lib.hid (hv0.step hb0)
  have HAw := Lib.hid (awake_any W0)
  clear hv0 h1 h2 hu hb0 hcs
  go_enter Try.func10, Try.ntmps10
  go_wp2_with fail
  (with_reducible refine HAw.out.mono ?_)
  rintro e Y1 ⟨rfl, hb⟩
  have HB1 := Lib.hid hb
  have HBk1 := Lib.hid (HBk0.out.step hb)
  have HSm := Lib.hid (small_any _ _ b Y1 HBk1.out)
  obtain ⟨⟨k0, k1⟩, q0, q1, q2, q3, q4, q5⟩ := HCs.out Y1 hb
  clear hb HBk0 HAw
  go_wp2_with fail
  (with_reducible refine HSm.out.mono ?_)
  rintro e Y2 ⟨⟨r, rfl, hs⟩, hb⟩
  have HB2 := Lib.hid (HB1.out.trans (hb.mono HB1.out.size))
  have HBk2 := Lib.hid (HBk1.out.step hb)
  have HS := Lib.hid hs
  clear k0 k1 q0 q1 q2 q3 q4 q5 hb HSm HB1 HBk1 hs
  obtain ⟨⟨k0, k1⟩, q0, q1, q2, q3, q4, q5⟩ := HCs.out Y2 HB2.out
  cases r with
  | false =>
    go_wp2_with fail
    go_ret
    exact ⟨rfl, HB0.out.trans (HB2.out.mono HB0.out.size)⟩
  | true =>
    have HR1 := Lib.hid (Relate_any _ _ b aV aX aW aY Y2 HBk2.out (HS.out rfl))
    have HR2 := Lib.hid (fun Y (hb : Below Y2.heap.size Y2 Y) => Relate_any _ _ b aW aY aV aX Y (HBk2.out.step hb) (HS.out rfl))
    have HM := Lib.hid (fun Y (hb : Below Y2.heap.size Y2 Y) => Means_any _ _ b aV aX aW Y (HBk2.out.step hb) (HS.out rfl))
    have HDt := Lib.hid (And.intro (relOut_err b aV aX aW aY) (relOut_data (b := b) (n := aV) (x := aX) (m := aW) (y := aY)))
    obtain ⟨⟨r1, e1⟩, h1⟩ : ∃ o, relOut b aV aX aW aY = o := ⟨_, rfl⟩
    obtain ⟨⟨r2, e2⟩, h2⟩ : ∃ o, relOut b aW aY aV aX = o := ⟨_, rfl⟩
    obtain ⟨⟨M, e3⟩, h3⟩ : ∃ o, meansOut b aV aX aW = o := ⟨_, rfl⟩
    have hd0 : ((e1 ≠ 0 ∧ e2 = e1) ∨ (e1 = 0 ∧ e2 = 0 ∧ e3 = 0 ∧ r2 = turnE r1 ∧ decide (aY ∈ M) = decide (r1 ≠ 0) ∧ (M = [aY] ↔ r1 = 1 ∨ r1 = 2) ∧ (r1 = 0 ∨ r1 = 1 ∨ r1 = 2 ∨ r1 = 3 ∨ r1 = 4) ∧ M.length ≤ 1000)) := by
      have hd := HDt.out
      rw [h1] at hd
      by_cases he : e1 = 0
      · obtain ⟨n', m', rfl, rfl, d, hr⟩ := hd.2 he
        injection hr with hr1 hr2
        have t := d.turn.rel
        rw [h2] at t
        injection t with t1 t2
        have ms := d.means
        rw [h3] at ms
        injection ms with m1 m2
        refine .inr ⟨he, t2, m2, ?_, ?_, ?_, ?_, ?_⟩
        · rw [t1, hr1]; exact rel_turn d
        · rw [m1, hr1]; exact rel_holds d
        · rw [m1, hr1]; exact rel_alone
        · rw [hr1]; exact rel_range
        · obtain ⟨A, B, hA, hB, hxA, _⟩ := d.ex
          obtain ⟨B', hB', h5, h6⟩ := mns_ok d.val hA (l := [aX]) (by simp [Inc]) (by simp; exact hxA) d.hn d.hm
          rw [m1]
          exact Nat.le_trans (inc_sub_len h5 h6) (Nat.le_trans (vers_ok B' (List.mem_of_getElem? hB')).2 (by omega))
      · refine .inl ⟨he, ?_⟩
        have h5 := hd.1
        rw [h2] at h5
        exact h5
    have HD := Lib.hid hd0
    clear hd0
    rw [h1] at HR1
    rw [h2] at HR2
    rw [h3] at HM
    clear HDt h1 h2 h3
    go_wp2_with fail
    (with_reducible refine HR1.out.mono ?_)
    rintro e Y3 ⟨rfl, hb⟩
    have HB3 := Lib.hid (And.intro hb (HB2.out.trans (hb.mono HB2.out.size)))
    clear k0 k1 q0 q1 q2 q3 q4 q5 hb HR1
    obtain ⟨⟨k0, k1⟩, q0, q1, q2, q3, q4, q5⟩ := HCs.out Y3 HB3.out.2
    have HR2 := Lib.hid (HR2.out Y3 HB3.out.1)
    go_wp2_with fail
    (with_reducible refine HR2.out.mono ?_)
    rintro e Y4 ⟨rfl, hb⟩
    have HB4 := Lib.hid (And.intro (HB3.out.1.trans (hb.mono HB3.out.1.size)) (HB3.out.2.trans (hb.mono HB3.out.2.size)))
    clear k0 k1 q0 q1 q2 q3 q4 q5 hb HR2 HB3
    obtain ⟨⟨k0, k1⟩, q0, q1, q2, q3, q4, q5⟩ := HCs.out Y4 HB4.out.2
    have HM := Lib.hid (HM.out Y4 HB4.out.1)
    go_wp2_with fail
    (with_reducible refine HM.out.mono ?_)
    rintro e Y5 ⟨⟨um, rfl, hm⟩, hb⟩
    have HB5 := Lib.hid (HB4.out.2.trans (hb.mono HB4.out.2.size))
    have HMs := Lib.hid hm
    obtain ⟨Am, cm, rfl, _⟩ := hm.form
    clear k0 k1 q0 q1 q2 q3 q4 q5 hb HM HB4 hm
    obtain ⟨⟨k0, k1⟩, q0, q1, q2, q3, q4, q5⟩ := HCs.out Y5 HB5.out
    have HBe := Lib.hid (HB0.out.trans (HB5.out.mono HB0.out.size))
    rcases HD.out with ⟨he, rfl⟩ | ⟨rfl, rfl, rfl, h2, hh, ha, hr, hl⟩
    · go_wp2_with fail
      go_ret
      exact ⟨rfl, HBe.out⟩
    · have HHo := Lib.hid (holds_any _ M aY Y5 HMs.out (by omega))
      rw [hh] at HHo
      clear HD
      have HIn := Lib.hid (show InA Y5 Y5.heap.size Am M from by obtain ⟨_, _, e, _, _, h⟩ := HMs.out; cases e; exact h)
      rcases hr with rfl | rfl | rfl | rfl | rfl
      · rw [show decide ((0 : Int) ≠ 0) = false from rfl] at HHo
        clear hh
        obtain rfl : r2 = 0 := h2
        have hM : M ≠ [aY] := fun h => by have := ha.1 h; simp at this
        clear ha
        rcases shape M aY with h | ⟨z, rfl, hz⟩ | ⟨h, _⟩
        · exact absurd h hM
        · obtain ⟨ad, rfl, hadb, hcz⟩ := HIn.out.first
          rw [show [z].length = 1 from rfl] at HHo ⊢
          have hzz : (z == aY) = false := by simpa using hz
          go_wp2_with fail
          (with_reducible refine HHo.out.mono ?_)
          rintro e Y6 ⟨rfl, hb⟩
          have HB6 := Lib.hid (HBe.out.trans (hb.mono HBe.out.size))
          have cz := (hb.cell (p := ad) hadb).trans hcz
          have hb6 := HB5.out.trans (hb.mono HB5.out.size)
          clear k0 k1 q0 q1 q2 q3 q4 q5 HHo hb
          obtain ⟨⟨k0, k1⟩, q0, q1, q2, q3, q4, q5⟩ := HCs.out Y6 hb6
          clear hb6
          go_wp2_with fail
          go_region
          go_wp2_with fail
          go_ret
          exact ⟨rfl, HB6.out.drew⟩
        · have hln : ((M.length : Int) == 1) = false := by simpa using h
          go_wp2_with fail
          (with_reducible refine HHo.out.mono ?_)
          rintro e Y6 ⟨rfl, hb⟩
          have HB6 := Lib.hid (HBe.out.trans (hb.mono HBe.out.size))
          have hb6 := HB5.out.trans (hb.mono HB5.out.size)
          clear k0 k1 q0 q1 q2 q3 q4 q5 HHo hb
          obtain ⟨⟨k0, k1⟩, q0, q1, q2, q3, q4, q5⟩ := HCs.out Y6 hb6
          clear hb6
          go_wp2_with fail
          go_region
          go_wp2_with fail
          go_ret
          exact ⟨rfl, HB6.out.drew⟩
      · rw [show decide ((1 : Int) ≠ 0) = true from rfl] at HHo
        clear hh
        obtain rfl : r2 = 1 := h2
        have hM : M = [aY] := ha.2 (by simp)
        clear ha
        subst hM
        obtain ⟨ad, rfl, hadb, hcz⟩ := HIn.out.first
        rw [show [aY].length = 1 from rfl] at HHo ⊢
        have hzz : (aY == aY) = true := by simp
        go_wp2_with fail
        (with_reducible refine HHo.out.mono ?_)
        rintro e Y6 ⟨rfl, hb⟩
        have HB6 := Lib.hid (HBe.out.trans (hb.mono HBe.out.size))
        have cz := (hb.cell (p := ad) hadb).trans hcz
        have hb6 := HB5.out.trans (hb.mono HB5.out.size)
        clear k0 k1 q0 q1 q2 q3 q4 q5 HHo hb
        obtain ⟨⟨k0, k1⟩, q0, q1, q2, q3, q4, q5⟩ := HCs.out Y6 hb6
        clear hb6
        go_wp2_with fail
        go_region
        go_wp2_with fail
        go_ret
        exact ⟨rfl, HB6.out.drew⟩
      · rw [show decide ((2 : Int) ≠ 0) = true from rfl] at HHo
        clear hh
        obtain rfl : r2 = 3 := h2
        have hM : M = [aY] := ha.2 (by simp)
        clear ha
        subst hM
        obtain ⟨ad, rfl, hadb, hcz⟩ := HIn.out.first
        rw [show [aY].length = 1 from rfl] at HHo ⊢
        have hzz : (aY == aY) = true := by simp
        go_wp2_with fail
        (with_reducible refine HHo.out.mono ?_)
        rintro e Y6 ⟨rfl, hb⟩
        have HB6 := Lib.hid (HBe.out.trans (hb.mono HBe.out.size))
        have cz := (hb.cell (p := ad) hadb).trans hcz
        have hb6 := HB5.out.trans (hb.mono HB5.out.size)
        clear k0 k1 q0 q1 q2 q3 q4 q5 HHo hb
        obtain ⟨⟨k0, k1⟩, q0, q1, q2, q3, q4, q5⟩ := HCs.out Y6 hb6
        clear hb6
        go_wp2_with fail
        go_region
        go_wp2_with fail
        go_ret
        exact ⟨rfl, HB6.out.drew⟩
      · rw [show decide ((3 : Int) ≠ 0) = true from rfl] at HHo
        clear hh
        obtain rfl : r2 = 2 := h2
        have hM : M ≠ [aY] := fun h => by have := ha.1 h; simp at this
        clear ha
        rcases shape M aY with h | ⟨z, rfl, hz⟩ | ⟨h, _⟩
        · exact absurd h hM
        · obtain ⟨ad, rfl, hadb, hcz⟩ := HIn.out.first
          rw [show [z].length = 1 from rfl] at HHo ⊢
          have hzz : (z == aY) = false := by simpa using hz
          go_wp2_with fail
          (with_reducible refine HHo.out.mono ?_)
          rintro e Y6 ⟨rfl, hb⟩
          have HB6 := Lib.hid (HBe.out.trans (hb.mono HBe.out.size))
          have cz := (hb.cell (p := ad) hadb).trans hcz
          have hb6 := HB5.out.trans (hb.mono HB5.out.size)
          clear k0 k1 q0 q1 q2 q3 q4 q5 HHo hb
          obtain ⟨⟨k0, k1⟩, q0, q1, q2, q3, q4, q5⟩ := HCs.out Y6 hb6
          clear hb6
          go_wp2_with fail
          go_region
          go_wp2_with fail
          go_ret
          exact ⟨rfl, HB6.out.drew⟩
        · have hln : ((M.length : Int) == 1) = false := by simpa using h
          go_wp2_with fail
          (with_reducible refine HHo.out.mono ?_)
          rintro e Y6 ⟨rfl, hb⟩
          have HB6 := Lib.hid (HBe.out.trans (hb.mono HBe.out.size))
          have hb6 := HB5.out.trans (hb.mono HB5.out.size)
          clear k0 k1 q0 q1 q2 q3 q4 q5 HHo hb
          obtain ⟨⟨k0, k1⟩, q0, q1, q2, q3, q4, q5⟩ := HCs.out Y6 hb6
          clear hb6
          go_wp2_with fail
          go_region
          go_wp2_with fail
          go_ret
          exact ⟨rfl, HB6.out.drew⟩
      · rw [show decide ((4 : Int) ≠ 0) = true from rfl] at HHo
        clear hh
        obtain rfl : r2 = 4 := h2
        have hM : M ≠ [aY] := fun h => by have := ha.1 h; simp at this
        clear ha
        rcases shape M aY with h | ⟨z, rfl, hz⟩ | ⟨h, _⟩
        · exact absurd h hM
        · obtain ⟨ad, rfl, hadb, hcz⟩ := HIn.out.first
          rw [show [z].length = 1 from rfl] at HHo ⊢
          have hzz : (z == aY) = false := by simpa using hz
          go_wp2_with fail
          (with_reducible refine HHo.out.mono ?_)
          rintro e Y6 ⟨rfl, hb⟩
          have HB6 := Lib.hid (HBe.out.trans (hb.mono HBe.out.size))
          have cz := (hb.cell (p := ad) hadb).trans hcz
          have hb6 := HB5.out.trans (hb.mono HB5.out.size)
          clear k0 k1 q0 q1 q2 q3 q4 q5 HHo hb
          obtain ⟨⟨k0, k1⟩, q0, q1, q2, q3, q4, q5⟩ := HCs.out Y6 hb6
          clear hb6
          go_wp2_with fail
          go_region
          go_wp2_with fail
          go_ret
          exact ⟨rfl, HB6.out.drew⟩
        · have hln : ((M.length : Int) == 1) = false := by simpa using h
          go_wp2_with fail
          (with_reducible refine HHo.out.mono ?_)
          rintro e Y6 ⟨rfl, hb⟩
          have HB6 := Lib.hid (HBe.out.trans (hb.mono HBe.out.size))
          have hb6 := HB5.out.trans (hb.mono HB5.out.size)
          clear k0 k1 q0 q1 q2 q3 q4 q5 HHo hb
          obtain ⟨⟨k0, k1⟩, q0, q1, q2, q3, q4, q5⟩ := HCs.out Y6 hb6
          clear hb6
          go_wp2_with fail
          go_region
          go_wp2_with fail
          go_ret
          exact ⟨rfl, HB6.out.drew⟩
end Go.Proofs.Ytplpogonkfnafaa
