/- NamesMeans: the walk. -/
import Derived.Test.YtplpogonkfnafaaNmWr
import Derived.Test.YtplpogonkfnafaaNmMs
import Derived.Test.YtplpogonkfnafaaNmMt
import Derived.Test.YtplpogonkfnafaaNmBe
namespace Go.Proofs.Ytplpogonkfnafaa
open Go.RowKit Go.Nm

theorem mns_short {b : Bk} (hb : Val b) {n m : Nat} {l A : List Int} (hA : (vers b)[n]? = some A) (hl : Inc l) (hs : ∀ z ∈ l, z ∈ A) (hn : n ≤ b.chs.length) (hm : m ≤ b.chs.length) : (mns b.chs n l m).length ≤ 400 := by
  obtain ⟨B, hB, h1, h2⟩ := mns_ok hb hA hl hs hn hm
  exact Nat.le_trans (inc_sub_len h1 h2) (vers_ok B (List.mem_of_getElem? hB)).2
theorem meansOut_few (b : Bk) (n x m : Int) : (meansOut b n x m).1.length ≤ 400 := by
  unfold meansOut
  split
  · rename_i h
    obtain ⟨hv, hV, hx⟩ := openAtE_zero h
    have hn := hV n (by simp)
    have hm := hV m (by simp)
    obtain ⟨A, hA, hxA⟩ := getD_mem hx
    exact mns_short hv hA (by simp [Inc]) (by simp; exact hxA) (by omega) (by omega)
  · exact Nat.zero_le _
theorem allOut_few (b : Bk) (n m : Int) (l : List Int) : (allOut b n l m).1.length ≤ 400 := by
  rw [allOut_r]
  split
  · rename_i h
    obtain ⟨hv, hV⟩ := openE_val h
    have hn := hV n (by simp)
    have hm := hV m (by simp)
    rw [val_len hv] at hn hm
    split
    · rename_i hi
      split
      · rename_i hs
        exact mns_short hv (rver_is hv (by omega)) hi hs (by omega) (by omega)
      · exact Nat.zero_le _
    · exact Nat.zero_le _
  · exact Nat.zero_le _
set_option maxRecDepth 100000 in
set_option maxHeartbeats 16000000 in
theorem NamesMeans_any (v vc u : Value) (b : Bk) (aV aW aX aY aR : Int) (L : List Int) (w : World) (hv : BkV w v b vc) (hu : InSl w w.heap.size u L) :
    Calls Try.prog 5 #[v, .agg #[.int .i64 aV, .int .i64 aW, .int .i64 aX, .int .i64 aY, .int .i64 aR, u]] w fun e w' => e = .returned (.bool true) ∧ Below w.heap.size w w' := by
  have hv0 := hv
  obtain ⟨v1, rfl, h1, h2⟩ := hv
  obtain ⟨A1, c1, rfl, _⟩ := h1.form
  obtain ⟨A2, c2, rfl⟩ := h2.form
  obtain ⟨Au, cu, rfl, _⟩ := hu.form
  obtain ⟨W0, hW0⟩ : ∃ W0, (w.alloc (.cells #[.slice A1 b.first.length c1, .slice A2 b.chs.length c2] 25)).alloc (.cells #[.int .i64 aV, .int .i64 aW, .int .i64 aX, .int .i64 aY, .int .i64 aR, .slice Au L.length cu] 27) = W0 := ⟨_, rfl⟩
  obtain ⟨hb0, hcs⟩ := args_cells w _ _ _ _ _ _ _ _ W0 hW0
  have HCs := Lib.hid hcs
  have HB0 := Lib.hid hb0
  have HBk0 := Lib.hid (hv0.step hb0)
  have HUl := Lib.hid (hu.step hb0)
  have HAw := Lib.hid (awake_any W0)
  clear hv0 h1 h2 hu hb0 hcs
  go_enter Try.func5, Try.ntmps5
  go_wp2_with fail
  (with_reducible refine HAw.out.mono ?_)
  rintro e Y1 ⟨rfl, hb⟩
  have HB1 := Lib.hid hb
  have HBk1 := Lib.hid (HBk0.out.step hb)
  have HSm := Lib.hid (small_any _ _ b Y1 HBk1.out)
  obtain ⟨⟨k0, k1⟩, q0, q1, q2, q3, q4, q5⟩ := HCs.out Y1 hb
  clear hb HBk0 HAw
  go_wp2_with fail
  (with_reducible refine HSm.out.mono ?_)
  rintro e Y2 ⟨⟨r, rfl, hs⟩, hb⟩
  have HB2 := Lib.hid (HB1.out.trans (hb.mono HB1.out.size))
  have HBk2 := Lib.hid (HBk1.out.step hb)
  have HS := Lib.hid hs
  clear k0 k1 q0 q1 q2 q3 q4 q5 hb HSm HB1 HBk1 hs
  obtain ⟨⟨k0, k1⟩, q0, q1, q2, q3, q4, q5⟩ := HCs.out Y2 HB2.out
  cases r with
  | false =>
    go_wp2_with fail
    go_ret
    exact ⟨rfl, HB0.out.trans (HB2.out.mono HB0.out.size)⟩
  | true =>
    by_cases hL : 100 < L.length
    · have hLi : (100 : Int) < (L.length : Int) := by omega
      go_wp2_with fail
      go_ret
      exact ⟨rfl, HB0.out.trans (HB2.out.mono HB0.out.size)⟩
    have hLi : ¬ (100 : Int) < (L.length : Int) := by omega
    have HS1 := Lib.hid (HS.out rfl)
    obtain ⟨⟨oA, o1⟩, h1⟩ : ∃ o, meansOut b aV aX aW = o := ⟨_, rfl⟩
    obtain ⟨⟨oC, o2⟩, h2⟩ : ∃ o, allOut b aV L aW = o := ⟨_, rfl⟩
    obtain ⟨⟨o3, o4⟩, h3⟩ : ∃ o, relOut b aV aX aW aY = o := ⟨_, rfl⟩
    obtain ⟨⟨o5, o6⟩, h4⟩ : ∃ o, exOut b aV aX aW = o := ⟨_, rfl⟩
    have HAl := Lib.hid (show oA.length ≤ 1000000 from by have := meansOut_few b aV aX aW; rw [h1] at this; exact Nat.le_trans this (by omega))
    have HCl := Lib.hid (show oC.length ≤ 1000000 from by have := allOut_few b aV aW L; rw [h2] at this; exact Nat.le_trans this (by omega))
    have HUy := Lib.hid (fun Y (hb : Below Y2.heap.size Y2 Y) => HUl.out.step (HB2.out.trans (hb.mono HB2.out.size)))
    have HC1 := Lib.hid (fun Y (hb : Below Y2.heap.size Y2 Y) => Means_any _ _ b aV aX aW Y (HBk2.out.step hb) HS1.out)
    have HC2 := Lib.hid (fun Y (hb : Below Y2.heap.size Y2 Y) => rMeans_any _ _ b aV aX aW Y (HBk2.out.step hb) HS1.out)
    have HC3 := Lib.hid (fun Y (hb : Below Y2.heap.size Y2 Y) => All_any _ _ _ b aV aW L Y (HBk2.out.step hb) HS1.out (HUy.out Y hb) (by omega))
    have HC4 := Lib.hid (fun Y (hb : Below Y2.heap.size Y2 Y) => rAll_any _ _ _ b aV aW L Y (HBk2.out.step hb) HS1.out (HUy.out Y hb) (by omega))
    have HC5 := Lib.hid (fun Y (hb : Below Y2.heap.size Y2 Y) => Relate_any _ _ b aV aX aW aY Y (HBk2.out.step hb) HS1.out)
    have HC6 := Lib.hid (fun Y (hb : Below Y2.heap.size Y2 Y) => rRelate_any _ _ b aV aX aW aY Y (HBk2.out.step hb) HS1.out)
    have HC7 := Lib.hid (fun Y (hb : Below Y2.heap.size Y2 Y) => Exact_any _ _ b aV aX aW Y (HBk2.out.step hb) HS1.out)
    have HC8 := Lib.hid (fun Y (hb : Below Y2.heap.size Y2 Y) => rExact_any _ _ b aV aX aW Y (HBk2.out.step hb) HS1.out)
    simp only [h1] at HC1 HC2
    simp only [h2] at HC3 HC4
    simp only [h3] at HC5 HC6
    simp only [h4] at HC7 HC8
    have HB2' := Lib.hid (Below.refl Y2.heap.size Y2)
    clear h1 h2 h3 h4 HS HBk2 HS1 HUy HUl hL
    have HCc := Lib.hid (HC1.out _ HB2'.out)
    go_wp2_with fail
    (with_reducible refine HCc.out.mono ?_)
    rintro e Z1 ⟨⟨un1, rfl, hn⟩, hb⟩
    obtain ⟨An1, cn1, rfl, _⟩ := hn.form
    have HN1 := Lib.hid hn
    clear hn
    have HX1 := Lib.hid (HB2'.out.trans (hb.mono HB2'.out.size))
    clear k0 k1 q0 q1 q2 q3 q4 q5 hb HCc HC1
    obtain ⟨⟨k0, k1⟩, q0, q1, q2, q3, q4, q5⟩ := HCs.out Z1 (HB2.out.trans (HX1.out.mono HB2.out.size))
    have HCc := Lib.hid (HC2.out _ HX1.out)
    go_wp2_with fail
    (with_reducible refine HCc.out.mono ?_)
    rintro e Z2 ⟨⟨un2, rfl, hn⟩, hb⟩
    obtain ⟨An2, cn2, rfl, _⟩ := hn.form
    have HN2 := Lib.hid hn
    clear hn
    have HX2 := Lib.hid (HX1.out.trans (hb.mono HX1.out.size))
    have HN1 := Lib.hid (HN1.out.step hb)
    clear k0 k1 q0 q1 q2 q3 q4 q5 hb HCc HC2
    obtain ⟨⟨k0, k1⟩, q0, q1, q2, q3, q4, q5⟩ := HCs.out Z2 (HB2.out.trans (HX2.out.mono HB2.out.size))
    have HCc := Lib.hid (HC3.out _ HX2.out)
    go_wp2_with fail
    (with_reducible refine HCc.out.mono ?_)
    rintro e Z3 ⟨⟨un3, rfl, hn⟩, hb⟩
    obtain ⟨An3, cn3, rfl, _⟩ := hn.form
    have HN3 := Lib.hid hn
    clear hn
    have HX3 := Lib.hid (HX2.out.trans (hb.mono HX2.out.size))
    have HN1 := Lib.hid (HN1.out.step hb)
    have HN2 := Lib.hid (HN2.out.step hb)
    clear k0 k1 q0 q1 q2 q3 q4 q5 hb HCc HC3
    obtain ⟨⟨k0, k1⟩, q0, q1, q2, q3, q4, q5⟩ := HCs.out Z3 (HB2.out.trans (HX3.out.mono HB2.out.size))
    have HCc := Lib.hid (HC4.out _ HX3.out)
    go_wp2_with fail
    (with_reducible refine HCc.out.mono ?_)
    rintro e Z4 ⟨⟨un4, rfl, hn⟩, hb⟩
    obtain ⟨An4, cn4, rfl, _⟩ := hn.form
    have HN4 := Lib.hid hn
    clear hn
    have HX4 := Lib.hid (HX3.out.trans (hb.mono HX3.out.size))
    have HN1 := Lib.hid (HN1.out.step hb)
    have HN2 := Lib.hid (HN2.out.step hb)
    have HN3 := Lib.hid (HN3.out.step hb)
    clear k0 k1 q0 q1 q2 q3 q4 q5 hb HCc HC4
    obtain ⟨⟨k0, k1⟩, q0, q1, q2, q3, q4, q5⟩ := HCs.out Z4 (HB2.out.trans (HX4.out.mono HB2.out.size))
    have HCc := Lib.hid (HC5.out _ HX4.out)
    go_wp2_with fail
    (with_reducible refine HCc.out.mono ?_)
    rintro e Z5 ⟨rfl, hb⟩
    have HX5 := Lib.hid (HX4.out.trans (hb.mono HX4.out.size))
    have HN1 := Lib.hid (HN1.out.step hb)
    have HN2 := Lib.hid (HN2.out.step hb)
    have HN3 := Lib.hid (HN3.out.step hb)
    have HN4 := Lib.hid (HN4.out.step hb)
    clear k0 k1 q0 q1 q2 q3 q4 q5 hb HCc HC5
    obtain ⟨⟨k0, k1⟩, q0, q1, q2, q3, q4, q5⟩ := HCs.out Z5 (HB2.out.trans (HX5.out.mono HB2.out.size))
    have HCc := Lib.hid (HC6.out _ HX5.out)
    go_wp2_with fail
    (with_reducible refine HCc.out.mono ?_)
    rintro e Z6 ⟨rfl, hb⟩
    have HX6 := Lib.hid (HX5.out.trans (hb.mono HX5.out.size))
    have HN1 := Lib.hid (HN1.out.step hb)
    have HN2 := Lib.hid (HN2.out.step hb)
    have HN3 := Lib.hid (HN3.out.step hb)
    have HN4 := Lib.hid (HN4.out.step hb)
    clear k0 k1 q0 q1 q2 q3 q4 q5 hb HCc HC6
    obtain ⟨⟨k0, k1⟩, q0, q1, q2, q3, q4, q5⟩ := HCs.out Z6 (HB2.out.trans (HX6.out.mono HB2.out.size))
    have HCc := Lib.hid (HC7.out _ HX6.out)
    go_wp2_with fail
    (with_reducible refine HCc.out.mono ?_)
    rintro e Z7 ⟨rfl, hb⟩
    have HX7 := Lib.hid (HX6.out.trans (hb.mono HX6.out.size))
    have HN1 := Lib.hid (HN1.out.step hb)
    have HN2 := Lib.hid (HN2.out.step hb)
    have HN3 := Lib.hid (HN3.out.step hb)
    have HN4 := Lib.hid (HN4.out.step hb)
    clear k0 k1 q0 q1 q2 q3 q4 q5 hb HCc HC7
    obtain ⟨⟨k0, k1⟩, q0, q1, q2, q3, q4, q5⟩ := HCs.out Z7 (HB2.out.trans (HX7.out.mono HB2.out.size))
    have HCc := Lib.hid (HC8.out _ HX7.out)
    go_wp2_with fail
    (with_reducible refine HCc.out.mono ?_)
    rintro e Z8 ⟨rfl, hb⟩
    have HX8 := Lib.hid (HX7.out.trans (hb.mono HX7.out.size))
    have HN1 := Lib.hid (HN1.out.step hb)
    have HN2 := Lib.hid (HN2.out.step hb)
    have HN3 := Lib.hid (HN3.out.step hb)
    have HN4 := Lib.hid (HN4.out.step hb)
    clear k0 k1 q0 q1 q2 q3 q4 q5 hb HCc HC8
    obtain ⟨⟨k0, k1⟩, q0, q1, q2, q3, q4, q5⟩ := HCs.out Z8 (HB2.out.trans (HX8.out.mono HB2.out.size))
    have HSi := Lib.hid (SameInts_any _ _ oA oA _ HN1.out HN2.out HAl.out HAl.out)
    rw [decide_eq_true rfl] at HSi
    have HBe := Lib.hid (HB0.out.trans ((HB2.out.trans (HX8.out.mono HB2.out.size)).mono HB0.out.size))
    go_wp2_with fail
    (with_reducible refine HSi.out.mono ?_)
    rintro e Z9 ⟨rfl, hb⟩
    have HBf := Lib.hid (HBe.out.trans (hb.mono HBe.out.size))
    have HSj := Lib.hid (SameInts_any _ _ oC oC _ (HN3.out.step hb) (HN4.out.step hb) HCl.out HCl.out)
    rw [decide_eq_true rfl] at HSj
    clear hb k0 k1 q0 q1 q2 q3 q4 q5
    go_wp2_with fail
    (with_reducible refine HSj.out.mono ?_)
    rintro e Z10 ⟨rfl, hb⟩
    have HBg := Lib.hid (HBf.out.trans (hb.mono HBf.out.size))
    clear hb
    go_wp2_with fail
    go_ret
    exact ⟨by simp, HBg.out⟩
end Go.Proofs.Ytplpogonkfnafaa
