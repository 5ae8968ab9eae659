/- NamesFates: the walk. -/
import Derived.Test.YtplpogonkfnafaaNmWr
import Derived.Test.YtplpogonkfnafaaNmFu
import Derived.Test.YtplpogonkfnafaaNmBe
namespace Go.Proofs.Ytplpogonkfnafaa
open Go.RowKit Go.Nm

theorem fatesOut_few (b : Bk) : (fatesOut b).1.length ≤ 100000 ∧ ∀ l ∈ (fatesOut b).1, l.length ≤ b.chs.length + 1 := by
  unfold fatesOut
  split
  · rename_i h
    cases hr : rich b with
    | true => exact ⟨Nat.zero_le _, fun l h => by simp at h⟩
    | false =>
      have hv := (openE_val h).1
      exact ⟨fates_few hv hr, fun l hl => Nat.le_of_eq (mem_all.1 hl).1⟩
  · exact ⟨Nat.zero_le _, fun l h => by simp at h⟩
theorem throughOut_few (b : Bk) (n x : Int) : (throughOut b n x).1.length ≤ 100000 := by
  unfold throughOut
  split
  · rename_i h
    cases hr : rich b with
    | true => exact Nat.zero_le _
    | false =>
      have hv := (openAtE_zero h).1
      exact Nat.le_trans (thr_len _ _ _) (fates_few hv hr)
  · exact Nat.zero_le _
set_option maxRecDepth 100000 in
set_option maxHeartbeats 16000000 in
theorem NamesFates_any (v vc u : Value) (b : Bk) (aV aW aX aY aR : Int) (L : List Int) (w : World) (hv : BkV w v b vc) (hu : InSl w w.heap.size u L) :
    Calls Try.prog 4 #[v, .agg #[.int .i64 aV, .int .i64 aW, .int .i64 aX, .int .i64 aY, .int .i64 aR, u]] w fun e w' => e = .returned (.bool true) ∧ Below w.heap.size w w' := by
  have hv0 := hv
  obtain ⟨v1, rfl, h1, h2⟩ := hv
  obtain ⟨A1, c1, rfl, _⟩ := h1.form
  obtain ⟨A2, c2, rfl⟩ := h2.form
  obtain ⟨Au, cu, rfl, _⟩ := hu.form
  obtain ⟨W0, hW0⟩ : ∃ W0, (w.alloc (.cells #[.slice A1 b.first.length c1, .slice A2 b.chs.length c2] 25)).alloc (.cells #[.int .i64 aV, .int .i64 aW, .int .i64 aX, .int .i64 aY, .int .i64 aR, .slice Au L.length cu] 27) = W0 := ⟨_, rfl⟩
  obtain ⟨hb0, hcs⟩ := args_cells w _ _ _ _ _ _ _ _ W0 hW0
  have HCs := Lib.hid hcs
  have HB0 := Lib.hid hb0
  have HBk0 := Lib.hid (hv0.step hb0)
  have HAw := Lib.hid (awake_any W0)
  clear hv0 h1 h2 hu hb0 hcs
  go_enter Try.func4, Try.ntmps4
  go_wp2_with fail
  (with_reducible refine HAw.out.mono ?_)
  rintro e Y1 ⟨rfl, hb⟩
  have HB1 := Lib.hid hb
  have HBk1 := Lib.hid (HBk0.out.step hb)
  have HSm := Lib.hid (small_any _ _ b Y1 HBk1.out)
  obtain ⟨⟨k0, k1⟩, q0, q1, q2, q3, q4, q5⟩ := HCs.out Y1 hb
  clear hb HBk0 HAw
  go_wp2_with fail
  (with_reducible refine HSm.out.mono ?_)
  rintro e Y2 ⟨⟨r, rfl, hs⟩, hb⟩
  have HB2 := Lib.hid (HB1.out.trans (hb.mono HB1.out.size))
  have HBk2 := Lib.hid (HBk1.out.step hb)
  have HS := Lib.hid hs
  clear k0 k1 q0 q1 q2 q3 q4 q5 hb HSm HB1 HBk1 hs
  obtain ⟨⟨k0, k1⟩, q0, q1, q2, q3, q4, q5⟩ := HCs.out Y2 HB2.out
  cases r with
  | false =>
    go_wp2_with fail
    go_ret
    exact ⟨rfl, HB0.out.trans (HB2.out.mono HB0.out.size)⟩
  | true =>
    have HS1 := Lib.hid (HS.out rfl)
    obtain ⟨⟨oF, o1⟩, h1⟩ : ∃ o, fatesOut b = o := ⟨_, rfl⟩
    obtain ⟨⟨oC, o2⟩, h2⟩ : ∃ o, countOut b = o := ⟨_, rfl⟩
    obtain ⟨⟨oT, o3⟩, h3⟩ : ∃ o, throughOut b aV aX = o := ⟨_, rfl⟩
    have HFl := Lib.hid (show oF.length ≤ 1000000 ∧ ∀ l ∈ oF, l.length ≤ 1000000 from by
      have := fatesOut_few b; rw [h1] at this
      exact ⟨Nat.le_trans this.1 (by omega), fun l hl => Nat.le_trans (this.2 l hl) (by have := HS1.out.2.1; omega)⟩)
    have HTl := Lib.hid (show oT.length ≤ 1000000 from by have := throughOut_few b aV aX; rw [h3] at this; exact Nat.le_trans this (by omega))
    have HC1 := Lib.hid (fun Y (hb : Below Y2.heap.size Y2 Y) => Fates_any _ _ b Y (HBk2.out.step hb) HS1.out fates_few)
    have HC2 := Lib.hid (fun Y (hb : Below Y2.heap.size Y2 Y) => rFates_any _ _ b Y (HBk2.out.step hb) HS1.out)
    have HC3 := Lib.hid (fun Y (hb : Below Y2.heap.size Y2 Y) => Count_any _ _ b Y (HBk2.out.step hb) HS1.out)
    have HC4 := Lib.hid (fun Y (hb : Below Y2.heap.size Y2 Y) => rCount_any _ _ b Y (HBk2.out.step hb) HS1.out)
    have HC5 := Lib.hid (fun Y (hb : Below Y2.heap.size Y2 Y) => Through_any _ _ b aV aX Y (HBk2.out.step hb) HS1.out fates_few)
    have HC6 := Lib.hid (fun Y (hb : Below Y2.heap.size Y2 Y) => rThrough_any _ _ b aV aX Y (HBk2.out.step hb) HS1.out)
    simp only [h1] at HC1 HC2
    simp only [h2] at HC3 HC4
    simp only [h3] at HC5 HC6
    have HB2' := Lib.hid (Below.refl Y2.heap.size Y2)
    clear h1 h2 h3 HS HBk2 HS1
    have HCc := Lib.hid (HC1.out _ HB2'.out)
    go_wp2_with fail
    (with_reducible refine HCc.out.mono ?_)
    rintro e Z1 ⟨⟨un1, rfl, hn⟩, hb⟩
    obtain ⟨An1, cn1, rfl⟩ := hn.form
    have HN1 := Lib.hid hn
    clear hn
    have HX1 := Lib.hid (HB2'.out.trans (hb.mono HB2'.out.size))
    clear k0 k1 q0 q1 q2 q3 q4 q5 hb HCc HC1
    obtain ⟨⟨k0, k1⟩, q0, q1, q2, q3, q4, q5⟩ := HCs.out Z1 (HB2.out.trans (HX1.out.mono HB2.out.size))
    have HCc := Lib.hid (HC2.out _ HX1.out)
    go_wp2_with fail
    (with_reducible refine HCc.out.mono ?_)
    rintro e Z2 ⟨⟨un2, rfl, hn⟩, hb⟩
    obtain ⟨An2, cn2, rfl⟩ := hn.form
    have HN2 := Lib.hid hn
    clear hn
    have HX2 := Lib.hid (HX1.out.trans (hb.mono HX1.out.size))
    have HN1 := Lib.hid ((HN1.out.below hb).mono hb.size)
    clear k0 k1 q0 q1 q2 q3 q4 q5 hb HCc HC2
    obtain ⟨⟨k0, k1⟩, q0, q1, q2, q3, q4, q5⟩ := HCs.out Z2 (HB2.out.trans (HX2.out.mono HB2.out.size))
    have HCc := Lib.hid (HC3.out _ HX2.out)
    go_wp2_with fail
    (with_reducible refine HCc.out.mono ?_)
    rintro e Z3 ⟨rfl, hb⟩
    have HX3 := Lib.hid (HX2.out.trans (hb.mono HX2.out.size))
    have HN1 := Lib.hid ((HN1.out.below hb).mono hb.size)
    have HN2 := Lib.hid ((HN2.out.below hb).mono hb.size)
    clear k0 k1 q0 q1 q2 q3 q4 q5 hb HCc HC3
    obtain ⟨⟨k0, k1⟩, q0, q1, q2, q3, q4, q5⟩ := HCs.out Z3 (HB2.out.trans (HX3.out.mono HB2.out.size))
    have HCc := Lib.hid (HC4.out _ HX3.out)
    go_wp2_with fail
    (with_reducible refine HCc.out.mono ?_)
    rintro e Z4 ⟨rfl, hb⟩
    have HX4 := Lib.hid (HX3.out.trans (hb.mono HX3.out.size))
    have HN1 := Lib.hid ((HN1.out.below hb).mono hb.size)
    have HN2 := Lib.hid ((HN2.out.below hb).mono hb.size)
    clear k0 k1 q0 q1 q2 q3 q4 q5 hb HCc HC4
    obtain ⟨⟨k0, k1⟩, q0, q1, q2, q3, q4, q5⟩ := HCs.out Z4 (HB2.out.trans (HX4.out.mono HB2.out.size))
    have HCc := Lib.hid (HC5.out _ HX4.out)
    go_wp2_with fail
    (with_reducible refine HCc.out.mono ?_)
    rintro e Z5 ⟨⟨un5, rfl, hn⟩, hb⟩
    obtain ⟨An5, cn5, rfl, _⟩ := hn.form
    have HN5 := Lib.hid hn
    clear hn
    have HX5 := Lib.hid (HX4.out.trans (hb.mono HX4.out.size))
    have HN1 := Lib.hid ((HN1.out.below hb).mono hb.size)
    have HN2 := Lib.hid ((HN2.out.below hb).mono hb.size)
    clear k0 k1 q0 q1 q2 q3 q4 q5 hb HCc HC5
    obtain ⟨⟨k0, k1⟩, q0, q1, q2, q3, q4, q5⟩ := HCs.out Z5 (HB2.out.trans (HX5.out.mono HB2.out.size))
    have HCc := Lib.hid (HC6.out _ HX5.out)
    go_wp2_with fail
    (with_reducible refine HCc.out.mono ?_)
    rintro e Z6 ⟨⟨un6, rfl, hn⟩, hb⟩
    obtain ⟨An6, cn6, rfl, _⟩ := hn.form
    have HN6 := Lib.hid hn
    clear hn
    have HX6 := Lib.hid (HX5.out.trans (hb.mono HX5.out.size))
    have HN1 := Lib.hid ((HN1.out.below hb).mono hb.size)
    have HN2 := Lib.hid ((HN2.out.below hb).mono hb.size)
    have HN5 := Lib.hid (HN5.out.step hb)
    clear k0 k1 q0 q1 q2 q3 q4 q5 hb HCc HC6
    obtain ⟨⟨k0, k1⟩, q0, q1, q2, q3, q4, q5⟩ := HCs.out Z6 (HB2.out.trans (HX6.out.mono HB2.out.size))
    have HSi := Lib.hid (SameLists_any _ _ oF oF _ HN1.out HN2.out HFl.out.1 HFl.out.2 HFl.out.2)
    rw [decide_eq_true rfl] at HSi
    have HBe := Lib.hid (HB0.out.trans ((HB2.out.trans (HX6.out.mono HB2.out.size)).mono HB0.out.size))
    go_wp2_with fail
    (with_reducible refine HSi.out.mono ?_)
    rintro e Z7 ⟨rfl, hb⟩
    have HBf := Lib.hid (HBe.out.trans (hb.mono HBe.out.size))
    have HSj := Lib.hid (SameInts_any _ _ oT oT _ (HN5.out.step hb) (HN6.out.step hb) HTl.out HTl.out)
    rw [decide_eq_true rfl] at HSj
    clear hb k0 k1 q0 q1 q2 q3 q4 q5
    go_wp2_with fail
    (with_reducible refine HSj.out.mono ?_)
    rintro e Z8 ⟨rfl, hb⟩
    have HBg := Lib.hid (HBf.out.trans (hb.mono HBf.out.size))
    clear hb
    go_wp2_with fail
    go_ret
    exact ⟨by simp, HBg.out⟩
end Go.Proofs.Ytplpogonkfnafaa
