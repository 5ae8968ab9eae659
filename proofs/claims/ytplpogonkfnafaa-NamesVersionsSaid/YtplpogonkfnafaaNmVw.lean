/- NamesVersions: the walk. -/
import Derived.Test.YtplpogonkfnafaaNmWr
import Derived.Test.YtplpogonkfnafaaNmQC
import Derived.Test.YtplpogonkfnafaaNmI
namespace Go.Proofs.Ytplpogonkfnafaa
open Go.RowKit Go.Nm

theorem names_len (b : Bk) (n : Int) : (namesOut b n).1.length ≤ 400 := by
  unfold namesOut
  split
  · show ((vers b).getD n.toNat []).length ≤ 400
    rw [List.getD_eq_getElem?_getD]
    cases h : (vers b)[n.toNat]? with
    | none => exact Nat.zero_le _
    | some L => exact (vers_ok L (List.mem_of_getElem? h)).2
  · exact Nat.zero_le _
set_option maxRecDepth 100000 in
set_option maxHeartbeats 16000000 in
theorem NamesVersions_any (v vc u : Value) (b : Bk) (aV aW aX aY aR : Int) (L : List Int) (w : World) (hv : BkV w v b vc) (hu : InSl w w.heap.size u L) :
    Calls Try.prog 3 #[v, .agg #[.int .i64 aV, .int .i64 aW, .int .i64 aX, .int .i64 aY, .int .i64 aR, u]] w fun e w' => e = .returned (.bool true) ∧ Below w.heap.size w w' := by
  have hv0 := hv
  obtain ⟨v1, rfl, h1, h2⟩ := hv
  obtain ⟨A1, c1, rfl, _⟩ := h1.form
  obtain ⟨A2, c2, rfl⟩ := h2.form
  obtain ⟨Au, cu, rfl, _⟩ := hu.form
  obtain ⟨W0, hW0⟩ : ∃ W0, (w.alloc (.cells #[.slice A1 b.first.length c1, .slice A2 b.chs.length c2] 25)).alloc (.cells #[.int .i64 aV, .int .i64 aW, .int .i64 aX, .int .i64 aY, .int .i64 aR, .slice Au L.length cu] 27) = W0 := ⟨_, rfl⟩
  obtain ⟨hb0, hcs⟩ := args_cells w _ _ _ _ _ _ _ _ W0 hW0
  have HCs := Lib.hid hcs
  have HB0 := Lib.hid hb0
  have HBk0 := Lib.hid (hv0.step hb0)
  have HAw := Lib.hid (awake_any W0)
  clear hv0 h1 h2 hu hb0 hcs
  go_enter Try.func3, Try.ntmps3
  go_wp2_with fail
  (with_reducible refine HAw.out.mono ?_)
  rintro e Y1 ⟨rfl, hb⟩
  have HB1 := Lib.hid hb
  have HBk1 := Lib.hid (HBk0.out.step hb)
  have HSm := Lib.hid (small_any _ _ b Y1 HBk1.out)
  obtain ⟨⟨k0, k1⟩, q0, q1, q2, q3, q4, q5⟩ := HCs.out Y1 hb
  clear hb HBk0 HAw
  go_wp2_with fail
  (with_reducible refine HSm.out.mono ?_)
  rintro e Y2 ⟨⟨r, rfl, hs⟩, hb⟩
  have HB2 := Lib.hid (HB1.out.trans (hb.mono HB1.out.size))
  have HBk2 := Lib.hid (HBk1.out.step hb)
  have HS := Lib.hid hs
  clear k0 k1 q0 q1 q2 q3 q4 q5 hb HSm HB1 HBk1 hs
  obtain ⟨⟨k0, k1⟩, q0, q1, q2, q3, q4, q5⟩ := HCs.out Y2 HB2.out
  cases r with
  | false =>
    go_wp2_with fail
    go_ret
    exact ⟨rfl, HB0.out.trans (HB2.out.mono HB0.out.size)⟩
  | true =>
    have HS1 := Lib.hid (HS.out rfl)
    obtain ⟨⟨o1, o2⟩, h1⟩ : ∃ o, checkOut b = o := ⟨_, rfl⟩
    obtain ⟨⟨o3, o4⟩, h2⟩ : ∃ o, lastOut b = o := ⟨_, rfl⟩
    obtain ⟨⟨o5, o6⟩, h3⟩ : ∃ o, verOfOut b aR = o := ⟨_, rfl⟩
    obtain ⟨⟨oN, o7⟩, h4⟩ : ∃ o, namesOut b aV = o := ⟨_, rfl⟩
    obtain ⟨⟨oB, o8⟩, h5⟩ : ∃ o, hasOut b aV aX = o := ⟨_, rfl⟩
    obtain ⟨⟨o9, oK⟩, h6⟩ : ∃ o, kindOut b aW = o := ⟨_, rfl⟩
    have HNl := Lib.hid (show oN.length ≤ 1000000 from by have := names_len b aV; rw [h4] at this; exact Nat.le_trans this (by omega))
    have HC1 := Lib.hid (fun Y (hb : Below Y2.heap.size Y2 Y) => Check_any _ _ b Y (HBk2.out.step hb) HS1.out)
    have HC2 := Lib.hid (fun Y (hb : Below Y2.heap.size Y2 Y) => rCheck_any _ _ b Y (HBk2.out.step hb) HS1.out)
    simp only [rcheck_is] at HC2
    have HC3 := Lib.hid (fun Y (hb : Below Y2.heap.size Y2 Y) => Last_any _ _ b Y (HBk2.out.step hb) HS1.out)
    have HC4 := Lib.hid (fun Y (hb : Below Y2.heap.size Y2 Y) => rLast_any _ _ b Y (HBk2.out.step hb) HS1.out)
    have HC5 := Lib.hid (fun Y (hb : Below Y2.heap.size Y2 Y) => VersionOf_any _ _ b aR Y (HBk2.out.step hb) HS1.out)
    have HC6 := Lib.hid (fun Y (hb : Below Y2.heap.size Y2 Y) => rVersionOf_any _ _ b aR Y (HBk2.out.step hb) HS1.out)
    have HC7 := Lib.hid (fun Y (hb : Below Y2.heap.size Y2 Y) => Names_any _ _ b aV Y (HBk2.out.step hb) HS1.out)
    have HC8 := Lib.hid (fun Y (hb : Below Y2.heap.size Y2 Y) => rNames_any _ _ b aV Y (HBk2.out.step hb) HS1.out)
    have HC9 := Lib.hid (fun Y (hb : Below Y2.heap.size Y2 Y) => Has_any _ _ b aV aX Y (HBk2.out.step hb) HS1.out)
    have HC10 := Lib.hid (fun Y (hb : Below Y2.heap.size Y2 Y) => rHas_any _ _ b aV aX Y (HBk2.out.step hb) HS1.out)
    have HC11 := Lib.hid (fun Y (hb : Below Y2.heap.size Y2 Y) => Kind_any _ _ b aW Y (HBk2.out.step hb) HS1.out)
    have HC12 := Lib.hid (fun Y (hb : Below Y2.heap.size Y2 Y) => rKind_any _ _ b aW Y (HBk2.out.step hb) HS1.out)
    simp only [h1] at HC1 HC2
    simp only [h2] at HC3 HC4
    simp only [h3] at HC5 HC6
    simp only [h4] at HC7 HC8
    simp only [h5] at HC9 HC10
    simp only [h6] at HC11 HC12
    have HB2' := Lib.hid (Below.refl Y2.heap.size Y2)
    clear h1 h2 h3 h4 h5 h6 HS HBk2 HS1
    have HCc := Lib.hid (HC1.out _ HB2'.out)
    go_wp2_with fail
    (with_reducible refine HCc.out.mono ?_)
    rintro e Z1 ⟨rfl, hb⟩
    have HX1 := Lib.hid (HB2'.out.trans (hb.mono HB2'.out.size))
    clear k0 k1 q0 q1 q2 q3 q4 q5 hb HCc HC1
    obtain ⟨⟨k0, k1⟩, q0, q1, q2, q3, q4, q5⟩ := HCs.out Z1 (HB2.out.trans (HX1.out.mono HB2.out.size))
    have HCc := Lib.hid (HC2.out _ HX1.out)
    go_wp2_with fail
    (with_reducible refine HCc.out.mono ?_)
    rintro e Z2 ⟨rfl, hb⟩
    have HX2 := Lib.hid (HX1.out.trans (hb.mono HX1.out.size))
    clear k0 k1 q0 q1 q2 q3 q4 q5 hb HCc HC2
    obtain ⟨⟨k0, k1⟩, q0, q1, q2, q3, q4, q5⟩ := HCs.out Z2 (HB2.out.trans (HX2.out.mono HB2.out.size))
    have HCc := Lib.hid (HC3.out _ HX2.out)
    go_wp2_with fail
    (with_reducible refine HCc.out.mono ?_)
    rintro e Z3 ⟨rfl, hb⟩
    have HX3 := Lib.hid (HX2.out.trans (hb.mono HX2.out.size))
    clear k0 k1 q0 q1 q2 q3 q4 q5 hb HCc HC3
    obtain ⟨⟨k0, k1⟩, q0, q1, q2, q3, q4, q5⟩ := HCs.out Z3 (HB2.out.trans (HX3.out.mono HB2.out.size))
    have HCc := Lib.hid (HC4.out _ HX3.out)
    go_wp2_with fail
    (with_reducible refine HCc.out.mono ?_)
    rintro e Z4 ⟨rfl, hb⟩
    have HX4 := Lib.hid (HX3.out.trans (hb.mono HX3.out.size))
    clear k0 k1 q0 q1 q2 q3 q4 q5 hb HCc HC4
    obtain ⟨⟨k0, k1⟩, q0, q1, q2, q3, q4, q5⟩ := HCs.out Z4 (HB2.out.trans (HX4.out.mono HB2.out.size))
    have HCc := Lib.hid (HC5.out _ HX4.out)
    go_wp2_with fail
    (with_reducible refine HCc.out.mono ?_)
    rintro e Z5 ⟨rfl, hb⟩
    have HX5 := Lib.hid (HX4.out.trans (hb.mono HX4.out.size))
    clear k0 k1 q0 q1 q2 q3 q4 q5 hb HCc HC5
    obtain ⟨⟨k0, k1⟩, q0, q1, q2, q3, q4, q5⟩ := HCs.out Z5 (HB2.out.trans (HX5.out.mono HB2.out.size))
    have HCc := Lib.hid (HC6.out _ HX5.out)
    go_wp2_with fail
    (with_reducible refine HCc.out.mono ?_)
    rintro e Z6 ⟨rfl, hb⟩
    have HX6 := Lib.hid (HX5.out.trans (hb.mono HX5.out.size))
    clear k0 k1 q0 q1 q2 q3 q4 q5 hb HCc HC6
    obtain ⟨⟨k0, k1⟩, q0, q1, q2, q3, q4, q5⟩ := HCs.out Z6 (HB2.out.trans (HX6.out.mono HB2.out.size))
    have HCc := Lib.hid (HC7.out _ HX6.out)
    go_wp2_with fail
    (with_reducible refine HCc.out.mono ?_)
    rintro e Z7 ⟨⟨un7, rfl, hn⟩, hb⟩
    have HN7 := Lib.hid hn
    obtain ⟨An7, cn7, rfl, _⟩ := hn.form
    clear hn
    have HX7 := Lib.hid (HX6.out.trans (hb.mono HX6.out.size))
    clear k0 k1 q0 q1 q2 q3 q4 q5 hb HCc HC7
    obtain ⟨⟨k0, k1⟩, q0, q1, q2, q3, q4, q5⟩ := HCs.out Z7 (HB2.out.trans (HX7.out.mono HB2.out.size))
    have HCc := Lib.hid (HC8.out _ HX7.out)
    go_wp2_with fail
    (with_reducible refine HCc.out.mono ?_)
    rintro e Z8 ⟨⟨un8, rfl, hn⟩, hb⟩
    have HN8 := Lib.hid hn
    obtain ⟨An8, cn8, rfl, _⟩ := hn.form
    clear hn
    have HX8 := Lib.hid (HX7.out.trans (hb.mono HX7.out.size))
    have HN7 := Lib.hid (HN7.out.step hb)
    clear k0 k1 q0 q1 q2 q3 q4 q5 hb HCc HC8
    obtain ⟨⟨k0, k1⟩, q0, q1, q2, q3, q4, q5⟩ := HCs.out Z8 (HB2.out.trans (HX8.out.mono HB2.out.size))
    have HCc := Lib.hid (HC9.out _ HX8.out)
    go_wp2_with fail
    (with_reducible refine HCc.out.mono ?_)
    rintro e Z9 ⟨rfl, hb⟩
    have HX9 := Lib.hid (HX8.out.trans (hb.mono HX8.out.size))
    have HN7 := Lib.hid (HN7.out.step hb)
    have HN8 := Lib.hid (HN8.out.step hb)
    clear k0 k1 q0 q1 q2 q3 q4 q5 hb HCc HC9
    obtain ⟨⟨k0, k1⟩, q0, q1, q2, q3, q4, q5⟩ := HCs.out Z9 (HB2.out.trans (HX9.out.mono HB2.out.size))
    have HCc := Lib.hid (HC10.out _ HX9.out)
    go_wp2_with fail
    (with_reducible refine HCc.out.mono ?_)
    rintro e Z10 ⟨rfl, hb⟩
    have HX10 := Lib.hid (HX9.out.trans (hb.mono HX9.out.size))
    have HN7 := Lib.hid (HN7.out.step hb)
    have HN8 := Lib.hid (HN8.out.step hb)
    clear k0 k1 q0 q1 q2 q3 q4 q5 hb HCc HC10
    obtain ⟨⟨k0, k1⟩, q0, q1, q2, q3, q4, q5⟩ := HCs.out Z10 (HB2.out.trans (HX10.out.mono HB2.out.size))
    have HCc := Lib.hid (HC11.out _ HX10.out)
    go_wp2_with fail
    (with_reducible refine HCc.out.mono ?_)
    rintro e Z11 ⟨rfl, hb⟩
    have HX11 := Lib.hid (HX10.out.trans (hb.mono HX10.out.size))
    have HN7 := Lib.hid (HN7.out.step hb)
    have HN8 := Lib.hid (HN8.out.step hb)
    clear k0 k1 q0 q1 q2 q3 q4 q5 hb HCc HC11
    obtain ⟨⟨k0, k1⟩, q0, q1, q2, q3, q4, q5⟩ := HCs.out Z11 (HB2.out.trans (HX11.out.mono HB2.out.size))
    have HCc := Lib.hid (HC12.out _ HX11.out)
    go_wp2_with fail
    (with_reducible refine HCc.out.mono ?_)
    rintro e Z12 ⟨rfl, hb⟩
    have HX12 := Lib.hid (HX11.out.trans (hb.mono HX11.out.size))
    have HN7 := Lib.hid (HN7.out.step hb)
    have HN8 := Lib.hid (HN8.out.step hb)
    clear k0 k1 q0 q1 q2 q3 q4 q5 hb HCc HC12
    obtain ⟨⟨k0, k1⟩, q0, q1, q2, q3, q4, q5⟩ := HCs.out Z12 (HB2.out.trans (HX12.out.mono HB2.out.size))
    have HSi := Lib.hid (SameInts_any _ _ oN oN _ HN7.out HN8.out HNl.out HNl.out)
    rw [decide_eq_true rfl] at HSi
    have HBe := Lib.hid (HB0.out.trans ((HB2.out.trans (HX12.out.mono HB2.out.size)).mono HB0.out.size))
    go_wp2_with fail
    (with_reducible refine HSi.out.mono ?_)
    rintro e Z13 ⟨rfl, hb⟩
    have HBf := Lib.hid (HBe.out.trans (hb.mono HBe.out.size))
    clear hb k0 k1 q0 q1 q2 q3 q4 q5
    go_wp2_with fail
    go_ret
    exact ⟨by simp, HBf.out⟩
end Go.Proofs.Ytplpogonkfnafaa
