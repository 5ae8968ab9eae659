/- NamesApplies: the walk. -/
import Derived.Test.YtplpogonkfnafaaNmOa
import Derived.Test.YtplpogonkfnafaaNmOc
import Derived.Deep.DeepCutAuto
namespace Go.Proofs.Ytplpogonkfnafaa
open Go.RowKit Go.Nm

theorem apply_good {b : Bk} {y : Ch} {oA : Bk} {oE : Int} (h : applyOut b y = (oA, oE)) : oE = 0 → Val b ∧ Val ⟨b.first, b.chs ++ [y]⟩ ∧ oA = ⟨b.first, b.chs ++ [y]⟩ := by
  intro h0
  subst h0
  rw [apply_out] at h
  by_cases h1 : Val b
  · rw [if_pos h1] at h
    by_cases h2 : b.chs.length = 64
    · rw [if_pos h2] at h; injection h with _ h; cases h
    · rw [if_neg h2] at h
      by_cases h3 : Val ⟨b.first, b.chs ++ [y]⟩
      · rw [if_pos h3] at h; injection h with h _; exact ⟨h1, h3, h.symm⟩
      · rw [if_neg h3] at h; injection h with _ h; cases h
  · rw [if_neg h1] at h; injection h with _ h; cases h
theorem apply_bad {b : Bk} {y : Ch} {oA : Bk} {oE : Int} (h : applyOut b y = (oA, oE)) : oE ≠ 0 → oA = ⟨[], []⟩ := by
  intro h0
  rw [apply_out] at h
  by_cases h1 : Val b
  · rw [if_pos h1] at h
    by_cases h2 : b.chs.length = 64
    · rw [if_pos h2] at h; injection h with h _; exact h.symm
    · rw [if_neg h2] at h
      by_cases h3 : Val ⟨b.first, b.chs ++ [y]⟩
      · rw [if_pos h3] at h; injection h with _ h; exact absurd h.symm h0
      · rw [if_neg h3] at h; injection h with h _; exact h.symm
  · rw [if_neg h1] at h; injection h with h _; exact h.symm
theorem last_good {b : Bk} (h : Val b) : lastOut b = ((b.chs.length : Int), 0) := by unfold lastOut; rw [openE_nil, if_pos h]; simp
theorem names_few (b : Bk) (n : Int) : (namesOut b n).1.length ≤ 400 := by
  unfold namesOut
  split
  · rename_i h
    obtain ⟨hv, hV⟩ := openE_val h
    have := hV n (by simp)
    rw [val_len hv] at this
    obtain ⟨A, hA, _, hl⟩ := vers_at hv (k := n.toNat) (by omega)
    rw [List.getD_eq_getElem?_getD, hA]; exact hl
  · simp
theorem means_few (b : Bk) (n x m : Int) : (meansOut b n x m).1.length ≤ 400 := by
  unfold meansOut
  split
  · rename_i h
    obtain ⟨hv, hV, hx⟩ := openAtE_zero h
    have hn := hV n (by simp)
    have hm := hV m (by simp)
    obtain ⟨A, hA, hxA⟩ := getD_mem hx
    obtain ⟨B, hB, h1, h2⟩ := mns_ok hv hA (l := [x]) (by simp [Inc]) (by simp; exact hxA) (by omega) (w := m.toNat) (by omega)
    exact Nat.le_trans (inc_sub_len h1 h2) (vers_ok B (List.mem_of_getElem? hB)).2
  · simp
set_option maxRecDepth 100000 in
set_option maxHeartbeats 40000000 in
theorem NamesApplies_any (v vc u vf vt : Value) (b : Bk) (aV aW aX aY aR : Int) (L : List Int) (y : Ch) (w : World) (hv : BkV w v b vc) (hu : InSl w w.heap.size u L) (hf : InSl w w.heap.size vf y.fr) (ht : InSl w w.heap.size vt y.to) :
    Calls Try.prog 12 #[v, .agg #[.int .i64 aV, .int .i64 aW, .int .i64 aX, .int .i64 aY, .int .i64 aR, u], .agg #[.int .i64 y.yr, vf, vt]] w fun e w' => e = .returned (.bool true) ∧ Below w.heap.size w w' := by
  have hv0 := hv
  obtain ⟨v1, rfl, h1, h2⟩ := hv
  obtain ⟨A1, c1, rfl, _⟩ := h1.form
  obtain ⟨A2, c2, rfl⟩ := h2.form
  obtain ⟨Au, cu, rfl, _⟩ := hu.form
  obtain ⟨Af, cf, rfl, _⟩ := hf.form
  obtain ⟨At, ct, rfl, _⟩ := ht.form
  obtain ⟨W1, hW1⟩ : ∃ W1, (w.alloc (.cells #[.slice A1 b.first.length c1, .slice A2 b.chs.length c2] 25)).alloc (.cells #[.int .i64 aV, .int .i64 aW, .int .i64 aX, .int .i64 aY, .int .i64 aR, .slice Au L.length cu] 27) = W1 := ⟨_, rfl⟩
  obtain ⟨hb1, hcs⟩ := args_cells w _ _ _ _ _ _ _ _ W1 hW1
  have hs1 : W1.heap.size = w.heap.size + 2 := by rw [← hW1]; simp
  obtain ⟨W0, hW0⟩ : ∃ W0, W1.alloc (.cells #[.int .i64 y.yr, .slice Af y.fr.length cf, .slice At y.to.length ct] 52) = W0 := ⟨_, rfl⟩
  have hE := below_new (w := W1) (.cells #[.int .i64 y.yr, .slice Af y.fr.length cf, .slice At y.to.length ct] 52)
  have hnw := fun Y h => new3 (w := W1) (a := .int .i64 y.yr) (b := .slice Af y.fr.length cf) (c := .slice At y.to.length ct) (t := 52) (Y := Y) h
  rw [hs1] at hnw
  rw [hW0] at hE hnw
  have hb0 := hb1.trans (hE.mono hb1.size)
  have HCs := Lib.hid (fun Y (h : Below W0.heap.size W0 Y) => And.intro (hcs Y (hE.trans (h.mono hE.size))) (hnw Y h))
  have HB0 := Lib.hid hb0
  have HBk0 := Lib.hid (hv0.step hb0)
  have HF := Lib.hid (hf.step hb0)
  have HT := Lib.hid (ht.step hb0)
  have HAw := Lib.hid (awake_any W0)
  have HW := Lib.hid (And.intro hW1 hW0)
  clear hv0 h1 h2 hu hf ht hb0 hb1 hcs hE hnw hs1 hW1 hW0
  go_enter Try.func12, Try.ntmps12
  go_wp2_with fail
  rw [HW.out.1, HW.out.2]
  (with_reducible refine HAw.out.mono ?_)
  rintro e Y1 ⟨rfl, hb⟩
  have HB1 := Lib.hid hb
  have HBk1 := Lib.hid (HBk0.out.step hb)
  have HSm := Lib.hid (small_any _ _ b Y1 HBk1.out)
  obtain ⟨⟨⟨k0, k1⟩, q0, q1, q2, q3, q4, q5⟩, x0, x1, x2⟩ := HCs.out Y1 hb
  clear hb HBk0 HAw HW
  go_wp2_with fail
  (with_reducible refine HSm.out.mono ?_)
  rintro e Y2 ⟨⟨r, rfl, hs⟩, hb⟩
  have HB2 := Lib.hid (HB1.out.trans (hb.mono HB1.out.size))
  have HBk2 := Lib.hid (HBk1.out.step hb)
  have HS := Lib.hid hs
  clear k0 k1 q0 q1 q2 q3 q4 q5 x0 x1 x2 hb HSm HB1 HBk1 hs
  obtain ⟨⟨⟨k0, k1⟩, q0, q1, q2, q3, q4, q5⟩, x0, x1, x2⟩ := HCs.out Y2 HB2.out
  cases r with
  | false =>
    go_wp2_with fail
    go_ret
    exact ⟨rfl, HB0.out.trans (HB2.out.mono HB0.out.size)⟩
  | true =>
    by_cases hL : 20 < y.fr.length
    · have hLi : (20 : Int) < (y.fr.length : Int) := by omega
      go_wp2_with fail
      go_ret
      exact ⟨rfl, HB0.out.trans (HB2.out.mono HB0.out.size)⟩
    have hLi : ¬ (20 : Int) < (y.fr.length : Int) := by omega
    by_cases hM : 20 < y.to.length
    · have hMi : (20 : Int) < (y.to.length : Int) := by omega
      go_wp2_with fail
      go_ret
      exact ⟨rfl, HB0.out.trans (HB2.out.mono HB0.out.size)⟩
    have hMi : ¬ (20 : Int) < (y.to.length : Int) := by omega
    have HS1 := Lib.hid (HS.out rfl)
    obtain ⟨⟨oA, oE⟩, h1⟩ : ∃ o, applyOut b y = o := ⟨_, rfl⟩
    have HAs := Lib.hid (show Sm oA from by have h := apply_sm (y := y) (HS.out rfl) (by omega) (by omega); rw [h1] at h; exact h)
    have HAg := Lib.hid (apply_good h1)
    have HAb := Lib.hid (apply_bad h1)
    have HYl := Lib.hid (show y.fr.length ≤ 20 ∧ y.to.length ≤ 20 from ⟨by omega, by omega⟩)
    have HF2 := Lib.hid (HF.out.step HB2.out)
    have HT2 := Lib.hid (HT.out.step HB2.out)
    have HC1 := Lib.hid (Apply_any _ _ _ _ b y Y2 HBk2.out HS1.out HF2.out HT2.out ⟨by omega, by omega⟩)
    simp only [h1] at HC1
    clear h1 HS hL hM HF HT
    go_wp2_with fail
    (with_reducible refine HC1.out.mono ?_)
    rintro e Z1 ⟨un1, vc1, rfl, hn, hb⟩
    have hn0 := hn
    obtain ⟨v3, rfl, h3, h4⟩ := hn
    obtain ⟨A3, c3, rfl, _⟩ := h3.form
    obtain ⟨A4, c4, rfl⟩ := h4.form
    obtain ⟨n3, hn3⟩ : ∃ n, oA.first.length = n := ⟨_, rfl⟩
    obtain ⟨n4, hn4⟩ : ∃ n, oA.chs.length = n := ⟨_, rfl⟩
    dsimp only at hn0 ⊢
    rw [hn3, hn4] at hn0 ⊢
    have hE := below_new (w := Z1) (.cells #[.slice A3 n3 c3, .slice A4 n4 c4] 25)
    have HNb := Lib.hid (hn0.step hE)
    have HXc := Lib.hid (hb.trans (hE.mono hb.size))
    have HP1 := Lib.hid (fun Y h => new2 (w := Z1) (a := .slice A3 n3 c3) (b := .slice A4 n4 c4) (t := 25) (Y := Y) h)
    clear k0 k1 q0 q1 q2 q3 q4 q5 x0 x1 x2 hb HC1 hE hn0 h3 h4
    obtain ⟨⟨⟨k0, k1⟩, q0, q1, q2, q3, q4, q5⟩, x0, x1, x2⟩ := HCs.out _ (HB2.out.trans (HXc.out.mono HB2.out.size))
    obtain ⟨p0, p1⟩ := HP1.out _ (Below.refl _ _)
    have HBe := Lib.hid (HB0.out.trans ((HB2.out.trans (HXc.out.mono HB2.out.size)).mono HB0.out.size))
    by_cases he : oE = 0
    case neg =>
      obtain rfl := HAb.out he
      have hb3 : (oE != 0) = true := by simpa using he
      simp only [List.length_nil] at hn3 hn4
      subst hn3 hn4
      clear HAg HAb HAs
      go_wp2_with fail
      go_ret
      exact ⟨by simp, HBe.out⟩
    case pos =>
      subst he
      obtain ⟨hvb, hvb2, rfl⟩ := HAg.out rfl
      have HN34 := Lib.hid (And.intro hn3 hn4)
      have HLn := Lib.hid (show (b.chs ++ [y]).length = b.chs.length + 1 from by simp)
      have HVb := Lib.hid (And.intro hvb hvb2)
      have hl64 : b.chs.length ≤ 64 := hvb.1
      have hHC2 := fun Y (h : Below Y2.heap.size Y2 Y) => Last_any _ _ b Y (HBk2.out.step h) HS1.out
      have hHC3 := fun Y (h : Below (Z1.alloc (.cells #[.slice A3 n3 c3, .slice A4 n4 c4] 25)).heap.size (Z1.alloc (.cells #[.slice A3 n3 c3, .slice A4 n4 c4] 25)) Y) => Last_any _ _ ⟨b.first, b.chs ++ [y]⟩ Y (HNb.out.step h) HAs.out
      rw [last_good hvb] at hHC2
      rw [last_good hvb2] at hHC3
      simp only [List.length_append, List.length_singleton, Int.natCast_add, Int.natCast_one] at hHC3
      have HC2 := Lib.hid hHC2
      have HC3 := Lib.hid hHC3
      have hNa := fun (v : Int) Y (h : Below Y2.heap.size Y2 Y) => Names_any _ _ b v Y (HBk2.out.step h) HS1.out
      clear hNa hHC2 hHC3 HAg HAb hn3 hn4
      have HGc := Lib.hid (Below.refl (Z1.alloc (.cells #[.slice A3 n3 c3, .slice A4 n4 c4] 25)).heap.size (Z1.alloc (.cells #[.slice A3 n3 c3, .slice A4 n4 c4] 25)))
      have hw : IntKind.i64.wrap ((b.chs.length : Int) + 1) = (b.chs.length : Int) + 1 := by rw [IntKind.wrap_i64]; omega
      have hq : (((b.chs.length : Int) + 1) != ((b.chs.length : Int) + 1)) = false := by simp
      obtain ⟨⟨oN, o1⟩, h4⟩ : ∃ o, namesOut b aV = o := ⟨_, rfl⟩
      obtain ⟨⟨oM, o2⟩, h5⟩ : ∃ o, namesOut ⟨b.first, b.chs ++ [y]⟩ aV = o := ⟨_, rfl⟩
      obtain ⟨⟨oP, o3⟩, h6⟩ : ∃ o, meansOut b aV aX aW = o := ⟨_, rfl⟩
      obtain ⟨⟨oQ, o4⟩, h7⟩ : ∃ o, meansOut ⟨b.first, b.chs ++ [y]⟩ aV aX aW = o := ⟨_, rfl⟩
      obtain ⟨⟨oR, o5⟩, h8⟩ : ∃ o, meansOut b aV aX (b.chs.length : Int) = o := ⟨_, rfl⟩
      obtain ⟨⟨oS, o6⟩, h9⟩ : ∃ o, meansOut ⟨b.first, b.chs ++ [y]⟩ aV aX ((b.chs.length : Int) + 1) = o := ⟨_, rfl⟩
      have HC4 := Lib.hid (fun Y (h : Below Y2.heap.size Y2 Y) => Names_any _ _ b aV Y (HBk2.out.step h) HS1.out)
      have HC5 := Lib.hid (fun Y (h : Below (Z1.alloc (.cells #[.slice A3 n3 c3, .slice A4 n4 c4] 25)).heap.size (Z1.alloc (.cells #[.slice A3 n3 c3, .slice A4 n4 c4] 25)) Y) => Names_any _ _ ⟨b.first, b.chs ++ [y]⟩ aV Y (HNb.out.step h) HAs.out)
      have HC6 := Lib.hid (fun Y (h : Below Y2.heap.size Y2 Y) => Means_any _ _ b aV aX aW Y (HBk2.out.step h) HS1.out)
      have HC7 := Lib.hid (fun Y (h : Below (Z1.alloc (.cells #[.slice A3 n3 c3, .slice A4 n4 c4] 25)).heap.size (Z1.alloc (.cells #[.slice A3 n3 c3, .slice A4 n4 c4] 25)) Y) => Means_any _ _ ⟨b.first, b.chs ++ [y]⟩ aV aX aW Y (HNb.out.step h) HAs.out)
      have HC8 := Lib.hid (fun Y (h : Below Y2.heap.size Y2 Y) => Means_any _ _ b aV aX (b.chs.length : Int) Y (HBk2.out.step h) HS1.out)
      have HC9 := Lib.hid (fun Y (h : Below (Z1.alloc (.cells #[.slice A3 n3 c3, .slice A4 n4 c4] 25)).heap.size (Z1.alloc (.cells #[.slice A3 n3 c3, .slice A4 n4 c4] 25)) Y) => Means_any _ _ ⟨b.first, b.chs ++ [y]⟩ aV aX ((b.chs.length : Int) + 1) Y (HNb.out.step h) HAs.out)
      simp only [h4] at HC4
      simp only [h5] at HC5
      simp only [h6] at HC6
      simp only [h7] at HC7
      simp only [h8] at HC8
      simp only [h9] at HC9
      have HP4 := Lib.hid (show o1 = 0 → oM = oN ∧ o2 = 0 from fun h => by subst h; have h := names_pre hvb hvb2 h4; rw [h5] at h; injection h with h1 h2; exact ⟨h1, h2⟩)
      have HP6 := Lib.hid (show o3 = 0 → oQ = oP ∧ o4 = 0 from fun h => by subst h; have h := means_pre hvb hvb2 h6; rw [h7] at h; injection h with h1 h2; exact ⟨h1, h2⟩)
      have HP8 := Lib.hid (show o5 = 0 → o6 = 0 ∧ ApD y oR oS from fun h => by subst h; obtain ⟨l2, h, hD⟩ := means_last hvb hvb2 h8; rw [h9] at h; injection h with h1 h2; subst h1; exact ⟨h2, hD⟩)
      have HL4 := Lib.hid (show oN.length ≤ 1000000 from by have := names_few b aV; rw [h4] at this; exact Nat.le_trans this (by omega))
      have HL6 := Lib.hid (show oP.length ≤ 1000000 from by have := means_few b aV aX aW; rw [h6] at this; exact Nat.le_trans this (by omega))
      clear h4 h5 h6 h7 h8 h9 hvb hvb2 HBk2 HS1 HNb HAs
      have HCc := Lib.hid (HC2.out _ HXc.out)
      go_wp2_with fail
      (with_reducible refine HCc.out.mono ?_)
      rintro e X2 ⟨rfl, hb⟩
      have HXc := Lib.hid (HXc.out.trans (hb.mono HXc.out.size))
      have HGc := Lib.hid (HGc.out.trans (hb.mono HGc.out.size))
      clear k0 k1 q0 q1 q2 q3 q4 q5 x0 x1 x2 p0 p1
      clear hb HCc
      obtain ⟨⟨⟨k0, k1⟩, q0, q1, q2, q3, q4, q5⟩, x0, x1, x2⟩ := HCs.out X2 (HB2.out.trans (HXc.out.mono HB2.out.size))
      obtain ⟨p0, p1⟩ := HP1.out X2 HGc.out
      have HCc := Lib.hid (HC3.out _ HGc.out)
      go_wp2_with fail
      (with_reducible refine HCc.out.mono ?_)
      rintro e X3 ⟨rfl, hb⟩
      have HXc := Lib.hid (HXc.out.trans (hb.mono HXc.out.size))
      have HGc := Lib.hid (HGc.out.trans (hb.mono HGc.out.size))
      clear k0 k1 q0 q1 q2 q3 q4 q5 x0 x1 x2 p0 p1
      clear hb HCc
      obtain ⟨⟨⟨k0, k1⟩, q0, q1, q2, q3, q4, q5⟩, x0, x1, x2⟩ := HCs.out X3 (HB2.out.trans (HXc.out.mono HB2.out.size))
      obtain ⟨p0, p1⟩ := HP1.out X3 HGc.out
      have HCc := Lib.hid (HC4.out _ HXc.out)
      go_wp2_with fail
      (with_reducible refine HCc.out.mono ?_)
      rintro e X4 ⟨⟨u4, rfl, hn⟩, hb⟩
      obtain ⟨A4, c4, rfl, _⟩ := hn.form
      have HN4 := Lib.hid hn
      clear hn
      have HXc := Lib.hid (HXc.out.trans (hb.mono HXc.out.size))
      have HGc := Lib.hid (HGc.out.trans (hb.mono HGc.out.size))
      clear k0 k1 q0 q1 q2 q3 q4 q5 x0 x1 x2 p0 p1
      clear hb HCc
      obtain ⟨⟨⟨k0, k1⟩, q0, q1, q2, q3, q4, q5⟩, x0, x1, x2⟩ := HCs.out X4 (HB2.out.trans (HXc.out.mono HB2.out.size))
      obtain ⟨p0, p1⟩ := HP1.out X4 HGc.out
      have HCc := Lib.hid (HC5.out _ HGc.out)
      go_wp2_with fail
      (with_reducible refine HCc.out.mono ?_)
      rintro e X5 ⟨⟨u5, rfl, hn⟩, hb⟩
      obtain ⟨A5, c5, rfl, _⟩ := hn.form
      have HN5 := Lib.hid hn
      clear hn
      have HXc := Lib.hid (HXc.out.trans (hb.mono HXc.out.size))
      have HGc := Lib.hid (HGc.out.trans (hb.mono HGc.out.size))
      have HN4 := Lib.hid (HN4.out.step hb)
      clear k0 k1 q0 q1 q2 q3 q4 q5 x0 x1 x2 p0 p1
      clear hb HCc
      obtain ⟨⟨⟨k0, k1⟩, q0, q1, q2, q3, q4, q5⟩, x0, x1, x2⟩ := HCs.out X5 (HB2.out.trans (HXc.out.mono HB2.out.size))
      obtain ⟨p0, p1⟩ := HP1.out X5 HGc.out
      go_upto_region 13 with fail
      go_cut [113] (fun s wx => s = .bool false ∧ Below X5.heap.size X5 wx)
      case first =>
        by_cases e1 : o1 = 0
        case pos =>
          subst e1
          obtain ⟨rfl, rfl⟩ := HP4.out rfl
          have HSi := Lib.hid (SameInts_any _ _ oM oM _ HN4.out HN5.out HL4.out HL4.out)
          rw [decide_eq_true rfl] at HSi
          have HCc := HSi
          clear HSi
          go_wp2_with fail
          (with_reducible refine HCc.out.mono ?_)
          rintro e XR ⟨rfl, hb⟩
          go_wp2_with fail
          go_meet
          exact ⟨rfl, hb⟩
        case neg =>
          have hb2 : (o1 == 0) = false := by simpa using e1
          go_wp2_with fail
          go_meet
          exact ⟨rfl, Below.refl _ _⟩
      case rest =>
        obtain ⟨rfl, hb⟩ := hcut
        as_aux_lemma =>
          clear HN4 HN5 HL4 HP4
          have HXc := Lib.hid (HXc.out.trans (hb.mono HXc.out.size))
          have HGc := Lib.hid (HGc.out.trans (hb.mono HGc.out.size))
          clear k0 k1 q0 q1 q2 q3 q4 q5 x0 x1 x2 p0 p1
          clear hb
          obtain ⟨⟨⟨k0, k1⟩, q0, q1, q2, q3, q4, q5⟩, x0, x1, x2⟩ := HCs.out wc (HB2.out.trans (HXc.out.mono HB2.out.size))
          obtain ⟨p0, p1⟩ := HP1.out wc HGc.out
          have HCc := Lib.hid (HC6.out _ HXc.out)
          go_wp2_with fail
          (with_reducible refine HCc.out.mono ?_)
          rintro e X6 ⟨⟨u6, rfl, hn⟩, hb⟩
          obtain ⟨A6, c6, rfl, _⟩ := hn.form
          have HN6 := Lib.hid hn
          clear hn
          have HXc := Lib.hid (HXc.out.trans (hb.mono HXc.out.size))
          have HGc := Lib.hid (HGc.out.trans (hb.mono HGc.out.size))
          clear k0 k1 q0 q1 q2 q3 q4 q5 x0 x1 x2 p0 p1
          clear hb HCc
          obtain ⟨⟨⟨k0, k1⟩, q0, q1, q2, q3, q4, q5⟩, x0, x1, x2⟩ := HCs.out X6 (HB2.out.trans (HXc.out.mono HB2.out.size))
          obtain ⟨p0, p1⟩ := HP1.out X6 HGc.out
          have HCc := Lib.hid (HC7.out _ HGc.out)
          go_wp2_with fail
          (with_reducible refine HCc.out.mono ?_)
          rintro e X7 ⟨⟨u7, rfl, hn⟩, hb⟩
          obtain ⟨A7, c7, rfl, _⟩ := hn.form
          have HN7 := Lib.hid hn
          clear hn
          have HXc := Lib.hid (HXc.out.trans (hb.mono HXc.out.size))
          have HGc := Lib.hid (HGc.out.trans (hb.mono HGc.out.size))
          have HN6 := Lib.hid (HN6.out.step hb)
          clear k0 k1 q0 q1 q2 q3 q4 q5 x0 x1 x2 p0 p1
          clear hb HCc
          obtain ⟨⟨⟨k0, k1⟩, q0, q1, q2, q3, q4, q5⟩, x0, x1, x2⟩ := HCs.out X7 (HB2.out.trans (HXc.out.mono HB2.out.size))
          obtain ⟨p0, p1⟩ := HP1.out X7 HGc.out
          go_upto_region 17 with fail
          go_cut [147] (fun s wx => s = .bool false ∧ Below X7.heap.size X7 wx)
          case first =>
            by_cases e1 : o3 = 0
            case pos =>
              subst e1
              obtain ⟨rfl, rfl⟩ := HP6.out rfl
              have HSi := Lib.hid (SameInts_any _ _ oQ oQ _ HN6.out HN7.out HL6.out HL6.out)
              rw [decide_eq_true rfl] at HSi
              have HCc := HSi
              clear HSi
              go_wp2_with fail
              (with_reducible refine HCc.out.mono ?_)
              rintro e XS ⟨rfl, hb⟩
              go_wp2_with fail
              go_meet
              exact ⟨rfl, hb⟩
            case neg =>
              have hb2 : (o3 == 0) = false := by simpa using e1
              go_wp2_with fail
              go_meet
              exact ⟨rfl, Below.refl _ _⟩
          case rest =>
            obtain ⟨rfl, hb⟩ := hcut
            as_aux_lemma =>
              clear HN6 HN7 HL6 HP6
              have HXc := Lib.hid (HXc.out.trans (hb.mono HXc.out.size))
              have HGc := Lib.hid (HGc.out.trans (hb.mono HGc.out.size))
              clear k0 k1 q0 q1 q2 q3 q4 q5 x0 x1 x2 p0 p1
              clear hb
              obtain ⟨⟨⟨k0, k1⟩, q0, q1, q2, q3, q4, q5⟩, x0, x1, x2⟩ := HCs.out wc (HB2.out.trans (HXc.out.mono HB2.out.size))
              obtain ⟨p0, p1⟩ := HP1.out wc HGc.out
              have HCc := Lib.hid (HC8.out _ HXc.out)
              go_wp2_with fail
              (with_reducible refine HCc.out.mono ?_)
              rintro e X8 ⟨⟨u8, rfl, hn⟩, hb⟩
              obtain ⟨A8, c8, rfl, _⟩ := hn.form
              have HN8 := Lib.hid hn
              clear hn
              have HXc := Lib.hid (HXc.out.trans (hb.mono HXc.out.size))
              have HGc := Lib.hid (HGc.out.trans (hb.mono HGc.out.size))
              clear k0 k1 q0 q1 q2 q3 q4 q5 x0 x1 x2 p0 p1
              clear hb HCc
              obtain ⟨⟨⟨k0, k1⟩, q0, q1, q2, q3, q4, q5⟩, x0, x1, x2⟩ := HCs.out X8 (HB2.out.trans (HXc.out.mono HB2.out.size))
              obtain ⟨p0, p1⟩ := HP1.out X8 HGc.out
              have HCc := Lib.hid (HC9.out _ HGc.out)
              go_wp2_with fail
              (with_reducible refine HCc.out.mono ?_)
              rintro e X9 ⟨⟨u9, rfl, hn⟩, hb⟩
              obtain ⟨A9, c9, rfl, _⟩ := hn.form
              have HN9 := Lib.hid hn
              clear hn
              have HXc := Lib.hid (HXc.out.trans (hb.mono HXc.out.size))
              have HGc := Lib.hid (HGc.out.trans (hb.mono HGc.out.size))
              have HN8 := Lib.hid (HN8.out.step hb)
              clear k0 k1 q0 q1 q2 q3 q4 q5 x0 x1 x2 p0 p1
              clear hb HCc
              obtain ⟨⟨⟨k0, k1⟩, q0, q1, q2, q3, q4, q5⟩, x0, x1, x2⟩ := HCs.out X9 (HB2.out.trans (HXc.out.mono HB2.out.size))
              obtain ⟨p0, p1⟩ := HP1.out X9 HGc.out
              by_cases e5 : o5 = 0
              case neg =>
                have hb5 : (o5 != 0) = true := by simpa using e5
                have HBf := Lib.hid (HB0.out.trans ((HB2.out.trans (HXc.out.mono HB2.out.size)).mono HB0.out.size))
                go_wp2_with fail
                go_ret
                exact ⟨by simp, HBf.out⟩
              case pos =>
                subst e5
                obtain ⟨rfl, hD⟩ := HP8.out rfl
                have HD := Lib.hid hD
                clear hD
                obtain ⟨lm, hlm⟩ : ∃ n, oR.length = n := ⟨_, rfl⟩
                obtain ⟨ln, hln⟩ : ∃ n, oS.length = n := ⟨_, rfl⟩
                obtain ⟨lt, hlt⟩ : ∃ n, y.to.length = n := ⟨_, rfl⟩
                have HLm := Lib.hid hlm
                have HLs := Lib.hid hln
                have HLt := Lib.hid hlt
                have hlm4 : lm ≤ 400 := by have := HD.out.lm; omega
                have hln4 : ln ≤ 400 := by have := HD.out.ln; omega
                have hlt4 : lt ≤ 20 := by have := HYl.out.2; omega
                have HF3 := Lib.hid (fun Z (h : Below Y2.heap.size Y2 Z) => HF2.out.step h)
                rw [hlm] at HN8 ⊢
                rw [hln] at HN9 ⊢
                rw [hlt] at HCs HT2 x2
                have HA8 := Lib.hid (show InA X9 X9.heap.size A8 oR from by obtain ⟨_, _, e, _, _, h⟩ := HN8.out; cases e; exact h)
                have HA9 := Lib.hid (show InA X9 X9.heap.size A9 oS from by obtain ⟨_, _, e, _, _, h⟩ := HN9.out; cases e; exact h)
                have HAt := Lib.hid (show InA Y2 Y2.heap.size At y.to from by obtain ⟨_, _, e, _, _, h⟩ := HT2.out; cases e; exact h)
                have HB9 := Lib.hid (HB0.out.trans (HB2.out.mono HB0.out.size))
                clear hlm hln hlt HP8 HN8 HN9 HT2 HC8 HC9 HC7 HC6 HC5 HC4 HC3 HC2 HGc HP1 p0 p1
                obtain ⟨nw, hnw⟩ : ∃ n : Nat, n = 65536 := ⟨_, rfl⟩
                have HNw := Lib.hid hnw
                clear hnw
                go_upto_region 25 with fail
                as_aux_lemma =>
                  go_wp2_with (first | (refine wpList_make_bools rfl _ _ rfl nw (congrArg (Value.int .i64) (congrArg Int.ofNat HNw.out).symm) (congrArg (Value.int .i64) (congrArg Int.ofNat HNw.out).symm) (by have := HNw.out; omega) ?_; intro cs hcs1 hcs2; have HW0 := Lib.hid (WaI.start (W := X9) (hcs1.trans HNw.out) (fun k hk => hcs2 k (by have := HNw.out; omega))); clear hcs1 hcs2))
                  clear k0 k1 q0 q1 q2 q3 q4 q5 x0 x1 x2
                  go_loopw [23] (fun iv wr => ∃ (i : Nat) (S : Nat → Bool), iv = .int .i64 (i : Int) ∧ i ≤ lm ∧ WaI X9 X9.heap.size S wr ∧ WtP oR y.fr y.to i S) (fun iv _ => lm - (intOf iv).toNat)
                  case atStart => exact ⟨0, _, rfl, by omega, HW0.out, WtP.zero _ _ _⟩
                  case round =>
                    obtain ⟨i, S, rfl, hil, hw0, hs0⟩ := hrel
                    have HW := Lib.hid hw0
                    have HSp := Lib.hid hs0
                    have HXr := Lib.hid (HXc.out.trans (hw0.bel.mono HXc.out.size))
                    clear hw0 hs0
                    by_cases hlt : i < lm
                    · obtain ⟨xi, ad, hx, rfl, hadb, hcx0⟩ := HA8.out.at_ HLm.out hlt
                      have hcx := (HW.out.bel.cell (p := ad.add i) (by rw [add_block]; exact hadb)).trans hcx0
                      obtain ⟨hx1, hx2⟩ := HD.out.wm xi (List.mem_of_getElem? hx)
                      obtain ⟨xn, rfl⟩ : ∃ k : Nat, xi = (k : Int) := ⟨xi.toNat, by omega⟩
                      have hxa : ¬ (xn : Int) < 0 := by omega
                      have hxb : ¬ (65535 : Int) < (xn : Int) := by omega
                      have hxn : xn < nw := by have := HNw.out; omega
                      have HXn := Lib.hid (show xn < 65536 from by omega)
                      have HX := Lib.hid hx
                      obtain ⟨_, x0, x1, x2⟩ := HCs.out wr (HB2.out.trans (HXr.out.mono HB2.out.size))
                      have HHo := Lib.hid (holds_any _ y.fr (xn : Int) wr.drew (HF3.out wr.drew HXr.out.drew) (by have := HYl.out.1; omega))
                      clear hcx0 hadb hx hx1 hx2
                      go_wp2_with fail
                      refine wp_region_tail 6 (by kernel_rfl) (by kernel_rfl) ?_
                      simp only [List.take_succ_cons, List.take_zero, List.drop_succ_cons, List.drop_zero]
                      iterate 6 ((with_reducible refine wpStill_step ?_); intro K hK; go_simp; (try (refine ite_neg_of (by simp [undef] <;> assumption) ?_)); (with_reducible refine hK _ ?_); clear hK K)
                      (with_reducible refine wpStill_nil ?_)
                      go_wp2_with fail
                      (with_reducible refine HHo.out.mono ?_)
                      rintro e YH ⟨rfl, hb⟩
                      have HBH := Lib.hid (show Below wr.heap.size wr YH from (Below.refl _ _).drew.trans hb)
                      have HWH := Lib.hid (HW.out.step HBH.out)
                      have HXH := Lib.hid (HXr.out.trans (HBH.out.mono HXr.out.size))
                      have hcy := (HBH.out.cell (p := ad.add i) (World.block_lt_of_cell? _ _ hcx)).trans hcx
                      clear hb HHo hcx x0 x1 x2
                      obtain ⟨_, x0, x1, x2⟩ := HCs.out YH (HB2.out.trans (HXH.out.mono HB2.out.size))
                      by_cases hfr : (xn : Int) ∈ y.fr
                      case neg =>
                        have HFr := Lib.hid hfr
                        have hcs := HWH.out.cell HXn.out
                        have hfs := HWH.out.froz xn
                        rw [add_zero_k] at hcs hfs
                        rw [decide_eq_false hfr]
                        clear hfr
                        go_wp2_with fail
                        go_roundw
                        case rel =>
                          have h := HWH.out.set xn HXn.out
                          rw [add_zero_k] at h
                          exact ⟨i + 1, _, by go_num, by omega, h, HSp.out.keep HX.out HFr.out⟩
                        case measure => simp [intOf]; omega
                      case pos =>
                        have HFr := Lib.hid hfr
                        rw [decide_eq_true hfr]
                        clear hfr x0 x1 x2 hcy
                        obtain ⟨_, x0, x1, x2⟩ := HCs.out YH (HB2.out.trans (HXH.out.mono HB2.out.size))
                        go_wp2_with fail
                        clear x0 x1 x2
                        go_loopw [24] (fun kv wq => ∃ (k : Nat) (S2 : Nat → Bool), kv = .int .i64 (k : Int) ∧ k ≤ lt ∧ WaI X9 X9.heap.size S2 wq ∧ StP S y.to k S2) (fun kv _ => lt - (intOf kv).toNat)
                        case atStart => exact ⟨0, S, rfl, by omega, HWH.out, StP.zero _ _⟩
                        case round =>
                          obtain ⟨k, S2, rfl, hkl, hw2, hs2⟩ := hrel
                          have HW2 := Lib.hid hw2
                          have HS2 := Lib.hid hs2
                          have HX2 := Lib.hid (HXc.out.trans (hw2.bel.mono HXc.out.size))
                          clear hw2 hs2
                          obtain ⟨_, x0, x1, x2⟩ := HCs.out wr (HB2.out.trans (HX2.out.mono HB2.out.size))
                          by_cases hkt : k < lt
                          · obtain ⟨zi, adt, hz, rfl, hzb, hcz0⟩ := HAt.out.at_ HLt.out hkt
                            have hcz := (HX2.out.cell (p := adt.add k) (by rw [add_block]; exact hzb)).trans hcz0
                            obtain ⟨hz1, hz2⟩ := HD.out.wt zi (List.mem_of_getElem? hz)
                            obtain ⟨zn, rfl⟩ : ∃ q : Nat, zi = (q : Int) := ⟨zi.toNat, by omega⟩
                            have hza : ¬ (zn : Int) < 0 := by omega
                            have hzg : ¬ (65535 : Int) < (zn : Int) := by omega
                            have hznw : zn < nw := by have := HNw.out; omega
                            have HZn := Lib.hid (show zn < 65536 from by omega)
                            have HZ := Lib.hid hz
                            have hcs := HW2.out.cell HZn.out
                            have hfs := HW2.out.froz zn
                            rw [add_zero_k] at hcs hfs
                            clear hcz0 hzb hz hz1 hz2
                            go_wp2_with fail
                            go_roundw
                            case rel =>
                              have h := HW2.out.set zn HZn.out
                              rw [add_zero_k] at h
                              exact ⟨k + 1, _, by go_num, by omega, h, HS2.out.next HZ.out⟩
                            case measure => simp [intOf]; omega
                          · obtain rfl : lt = k := by omega
                            go_wp2_with fail
                            go_roundw
                            case rel => exact ⟨i + 1, S2, by go_num, by omega, HW2.out, HSp.out.swap HX.out HFr.out (by rw [HLt.out]; exact HS2.out)⟩
                            case measure => simp [intOf]; omega
                    · as_aux_lemma =>
                        obtain rfl : lm = i := by omega
                        obtain ⟨hE, hM⟩ := HSp.out.fin HD.out HLm.out
                        have HE := Lib.hid (show cntB S nw = ln from by rw [HNw.out, hE, HLs.out])
                        have HM := Lib.hid hM
                        have hnw9 : nw ≤ 100000 := by have := HNw.out; omega
                        clear hE hM HSp
                        go_wp2_with fail
                        go_loopw [25, 26] (fun mv iv wq => ∃ i : Nat, iv = .int .i64 (i : Int) ∧ mv = .int .i64 (cntB S i : Int) ∧ i ≤ nw ∧ WaI X9 X9.heap.size S wq) (fun _ iv _ => nw - (intOf iv).toNat)
                        case atStart => exact ⟨0, rfl, rfl, by omega, HW.out⟩
                        case round =>
                          obtain ⟨i3, rfl, rfl, hi3, hw3⟩ := hrel
                          have HW3 := Lib.hid hw3
                          clear hw3
                          by_cases hlt3 : i3 < nw
                          · have hcs := HW3.out.cell (k := i3) (by have := HNw.out; omega)
                            rw [add_zero_k] at hcs
                            have hcl := cntB_le S i3
                            have HNx := Lib.hid (cntB_next S i3)
                            cases hSi : S i3 with
                            | true =>
                              rw [hSi] at hcs HNx
                              clear hSi
                              go_wp2_with fail
                              go_roundw
                              case rel => exact ⟨i3 + 1, by go_num, by rw [HNx.out, if_pos rfl]; go_num, by omega, HW3.out⟩
                              case measure => simp [intOf]; omega
                            | false =>
                              rw [hSi] at hcs HNx
                              clear hSi
                              go_wp2_with fail
                              go_roundw
                              case rel => exact ⟨i3 + 1, by go_num, by rw [HNx.out, if_neg (by simp)]; go_num, by omega, HW3.out⟩
                              case measure => simp [intOf]; omega
                          · obtain rfl : nw = i3 := by omega
                            rw [HE.out]
                            go_wp2_with fail
                            go_loopw [27] (fun iv wq => ∃ i : Nat, iv = .int .i64 (i : Int) ∧ i ≤ ln ∧ WaI X9 X9.heap.size S wq) (fun iv _ => ln - (intOf iv).toNat)
                            case atStart => exact ⟨0, rfl, by omega, HW3.out⟩
                            case round =>
                              obtain ⟨i4, rfl, hi4, hw4⟩ := hrel
                              have HW4 := Lib.hid hw4
                              clear hw4
                              by_cases hlt4 : i4 < ln
                              · obtain ⟨zi, adz, hz, rfl, hzb, hcz0⟩ := HA9.out.at_ HLs.out hlt4
                                have hcz := (HW4.out.bel.cell (p := adz.add i4) (by rw [add_block]; exact hzb)).trans hcz0
                                obtain ⟨hz1, hz2⟩ := HD.out.wn zi (List.mem_of_getElem? hz)
                                obtain ⟨zn, rfl⟩ : ∃ q : Nat, zi = (q : Int) := ⟨zi.toNat, by omega⟩
                                have hza : ¬ (zn : Int) < 0 := by omega
                                have hzg : ¬ (65535 : Int) < (zn : Int) := by omega
                                have hznw : zn < nw := by have := HNw.out; omega
                                have hcs := HW4.out.cell (k := zn) (by omega)
                                rw [add_zero_k, HM.out zn (List.mem_of_getElem? hz)] at hcs
                                clear hcz0 hzb hz hz1 hz2
                                go_wp2_with fail
                                go_roundw
                                case rel => exact ⟨i4 + 1, by go_num, by omega, HW4.out⟩
                                case measure => simp [intOf]; omega
                              · obtain rfl : ln = i4 := by omega
                                go_wp2_with fail
                                go_ret
                                exact ⟨by simp, HB9.out.trans ((HXc.out.trans (HW4.out.bel.mono HXc.out.size)).mono HB9.out.size)⟩
end Go.Proofs.Ytplpogonkfnafaa
