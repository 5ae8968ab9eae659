/- merge, replace: the names of two lists. -/
import Derived.Test.YtplpogonkfnafaaNmW
namespace Go.Proofs.Ytplpogonkfnafaa
open Go.RowKit Go.Nm

theorem mg_next {l g : List Int} {i : Nat} {x : Int} (h : l[i]? = some x) : mg (l.drop i) g = g.takeWhile (fun y => decide (y < x)) ++ x :: mg (l.drop (i + 1)) (g.dropWhile (fun y => decide (y < x))) := by
  obtain ⟨hi, rfl⟩ := List.getElem?_eq_some_iff.1 h
  rw [List.drop_eq_getElem_cons hi]
  conv => lhs; unfold mg
/-- what is left of the second list's lower names, and all behind -/
def mgr (x : Int) (l g : List Int) : List Int := g.takeWhile (fun y => decide (y < x)) ++ x :: mg l (g.dropWhile (fun y => decide (y < x)))
theorem mgr_lt {x y : Int} {l g : List Int} (h : y < x) : mgr x l (y :: g) = y :: mgr x l g := by unfold mgr; simp [h]
theorem mgr_ge {x : Int} {l g : List Int} (h : ∀ y, g.head? = some y → ¬ y < x) : mgr x l g = x :: mg l g := by
  cases g with
  | nil => simp [mgr]
  | cons y g => have := h y rfl; simp [mgr, this]
theorem pre_le {pre a R : List Int} (h : pre ++ a = R) : pre.length ≤ R.length := by rw [← h, List.length_append]; omega
set_option maxRecDepth 100000 in
set_option maxHeartbeats 8000000 in
theorem merge_any (u v : Value) (l g : List Int) (w : World) (hu : InSl w w.heap.size u l) (hv : InSl w w.heap.size v g) (hl : l.length ≤ 1000000) (hg : g.length ≤ 1000000) :
    Calls Try.prog 115 #[u, v] w fun e w' => ∃ r, e = .returned r ∧ OwN w r (mg l g) w' := by
  have HRl := Lib.hid (show (mg l g).length ≤ 2000000 from by rw [mg_len]; omega)
  obtain ⟨A, c, rfl, hc, hcm, hA⟩ := hu
  obtain ⟨B, d, rfl, hd, hdm, hB⟩ := hv
  have HA := Lib.hid hA
  have HB := Lib.hid hB
  obtain ⟨i0, hi0, hz0, hz1, hz2⟩ := infoI
  have HZ := Lib.hid (show i0.size = 1 ∧ i0.bytes = 8 ∧ Try.prog.info? 3 = some i0 ∧ i0.zero = some (.int .i64 0) from ⟨hz1, hz2, hi0, hz0⟩)
  clear hA hB hz0 hz1 hz2 hi0
  obtain ⟨R, hR⟩ : ∃ R, mg l g = R := ⟨_, rfl⟩
  rw [hR] at HRl ⊢
  have HR := Lib.hid hR
  clear hR
  generalize hnl : l.length = n at *
  generalize hnm : g.length = m at *
  have HL := Lib.hid hnl
  have HM := Lib.hid hnm
  clear hnl hnm
  go_enter Try.func115, Try.ntmps115
  go_wp2_with (refine wpList_make_own _ rfl _ _ 22 rfl w.heap.size 3 i0 (.int .i64 0) 1 Try.underlying22 HZ.out.2.2.1 HZ.out.2.2.2 HZ.out.1 .i64 .i64 ((n : Int) + (m : Int)) (n + m) rfl rfl (by omega) (by rw [HZ.out.2.1]; omega) (by unfold maxLen; omega) (Nat.le_refl _) ?_; intro w1 hown hgr)
  go_wp2_with fail
  have HO0 := Lib.hid (show OwN w (.slice (some ⟨w.heap.size, 0, none⟩) 0 (n + m)) [] w1 from ⟨(Below.refl _ _).grown hgr (Nat.le_refl _) (fun r e => by cases e), hown⟩)
  clear hown hgr
  go_loopw [1, 5, 16] (fun s v k wr => ∃ (i : Nat) (pre g' : List Int) (B' : Option Addr) (d' : Nat), k = .int .i64 (i : Int) ∧ i ≤ n ∧ s = .slice B' g'.length d' ∧ g'.length ≤ d' ∧ g'.length ≤ 1000000 ∧ InA w w.heap.size B' g' ∧ pre ++ mg (l.drop i) g' = R ∧ OwN w v pre wr) (fun _ _ k _ => n - (intOf k).toNat)
  case atStart => exact ⟨0, [], g, B, d, rfl, by omega, by rw [HM.out], by rw [HM.out]; exact hd, by rw [HM.out]; exact hg, HB.out, by simpa using HR.out, HO0.out⟩
  case round =>
    obtain ⟨i, pre, g', B', d', rfl, hin, rfl, hgd, hgl, hg', hpre, hO⟩ := hrel
    have HG := Lib.hid (And.intro hg' (And.intro hgd hgl))
    have HP := Lib.hid (And.intro hpre hO)
    clear hg' hgd hgl hpre hO
    by_cases hlt : i < n
    · obtain ⟨x, ad, hx, rfl, hb, hcx⟩ := (HA.out.below HP.out.2.bel).at_ HL.out hlt
      have HX := Lib.hid (show pre ++ mgr x (l.drop (i + 1)) g' = R from by rw [← HP.out.1, mg_next hx]; rfl)
      have HOw := Lib.hid HP.out.2
      clear hx HP hb
      go_wp2_with fail
      go_loopw [1, 5] (fun s v wq => ∃ (pre2 g2 : List Int) (B2 : Option Addr) (d2 : Nat), s = .slice B2 g2.length d2 ∧ InA w w.heap.size B2 g2 ∧ g2.length ≤ d2 ∧ g2.length ≤ 1000000 ∧ pre2 ++ mgr x (l.drop (i + 1)) g2 = R ∧ OwN w v pre2 wq) (fun s _ _ => lenOf s)
      case atStart => exact ⟨pre, g', B', d', rfl, HG.out.1, HG.out.2.1, HG.out.2.2, HX.out, HOw.out⟩
      case round =>
        obtain ⟨pre2, g2, B2, d2, rfl, h1, h2, h3, h4, h5⟩ := hrel
        have HG2 := Lib.hid (And.intro h1 (And.intro h2 h3))
        have HE2 := Lib.hid h4
        have HO2 := Lib.hid h5
        have hpl : pre2.length ≤ 2000000 := Nat.le_trans (pre_le h4) HRl.out
        clear h1 h2 h3 h4 h5 HX HOw HG
        cases g2 with
        | nil =>
          have HE := Lib.hid (show (pre2 ++ [x]) ++ mg (l.drop (i + 1)) [] = R from by
            rw [← HE2.out, mgr_ge (by simp)]; simp)
          clear HE2
          have HO3 := Lib.hid ((HO2.out.own).alloc (.cells #[.int .i64 x] 3))
          have HNw := Lib.hid (cell_one_new wr (.int .i64 x) 3)
          have HBs := Lib.hid (show w.heap.size ≤ (wr.alloc (.cells #[.int .i64 x] 3)).heap.size from by have := HO2.out.bound; simp; omega)
          go_wp2_with (at_builtin; refine wpList_append_own _ rfl _ _ 22 rfl w.heap.size 3 i0 (.int .i64 0) 1 8 Try.underlying22 HZ.out.2.2.1 HZ.out.2.2.2 HZ.out.1 HZ.out.2.1 rfl (by decide) u5 pre2.length (intsV pre2) rfl HO3.out ⟨wr.heap.size, 0, none⟩ 1 1 [.int .i64 x] rfl rfl HNw.out (by intro u hu; simp at hu; subst hu; rfl) (by unfold maxLen; omega) (by omega) HBs.out ?_; intro v4 w4 hown4 hg4 hnn4)
          have HO4 := Lib.hid (show OwN w v4 (pre2 ++ [x]) w4 from HO2.out.grown (M := [x]) (below_new _) hg4 hown4)
          clear hown4 hg4 hnn4
          go_roundw
          case rel => exact ⟨i + 1, pre2 ++ [x], [], _, _, by go_num, by omega, rfl, by simp, by simp, InA.nil _ _ _, HE.out, HO4.out⟩
          case measure => simp [intOf]; omega
        | cons y g3 =>
          obtain ⟨ad2, rfl, hbd2, hcy⟩ := (HG2.out.1.below HO2.out.bel).first
          have HD2 := Lib.hid (And.intro HG2.out.2.1 HG2.out.2.2)
          have hd2 : g3.length + 1 ≤ d2 := by have := HG2.out.2.1; simpa using this
          rw [List.length_cons]
          generalize hg3 : g3.length = k3 at *
          have HG3 := Lib.hid hg3
          clear hg3 hbd2
          by_cases hyx : y < x
          · have HT := Lib.hid (tail_sl (c := d2) HG2.out.1 (by rw [HG3.out]; exact hd2))
            have HE := Lib.hid (show (pre2 ++ [y]) ++ mgr x (l.drop (i + 1)) g3 = R from by
              rw [← HE2.out, mgr_lt hyx]; simp)
            clear HG2 HE2
            have HO3 := Lib.hid ((HO2.out.own).alloc (.cells #[.int .i64 y] 3))
            have HNw := Lib.hid (cell_one_new wr (.int .i64 y) 3)
            have HBs := Lib.hid (show w.heap.size ≤ (wr.alloc (.cells #[.int .i64 y] 3)).heap.size from by have := HO2.out.bound; simp; omega)
            go_wp2_with (at_builtin; refine wpList_append_own _ rfl _ _ 22 rfl w.heap.size 3 i0 (.int .i64 0) 1 8 Try.underlying22 HZ.out.2.2.1 HZ.out.2.2.2 HZ.out.1 HZ.out.2.1 rfl (by decide) u5 pre2.length (intsV pre2) rfl HO3.out ⟨wr.heap.size, 0, none⟩ 1 1 [.int .i64 y] rfl rfl HNw.out (by intro u hu; simp at hu; subst hu; rfl) (by unfold maxLen; omega) (by omega) HBs.out ?_; intro v4 w4 hown4 hg4 hnn4)
            have HO4 := Lib.hid (show OwN w v4 (pre2 ++ [y]) w4 from HO2.out.grown (M := [y]) (below_new _) hg4 hown4)
            clear hown4 hg4 hnn4
            go_wp2_with fail
            go_roundw
            case rel => exact ⟨pre2 ++ [y], g3, _, d2 - 1, by rw [HG3.out], HT.out, by rw [HG3.out]; omega, by have := HD2.out.2; simp at this; omega, HE.out, HO4.out⟩
            case measure => simp [lenOf]
          · have hne : ¬ y < x := hyx
            have HE := Lib.hid (show (pre2 ++ [x]) ++ mg (l.drop (i + 1)) (y :: g3) = R from by
              rw [← HE2.out, mgr_ge (by intro z hz; simp at hz; subst hz; exact hyx)]; simp)
            have HGy := Lib.hid HG2.out
            clear HG2 HE2
            have HO3 := Lib.hid ((HO2.out.own).alloc (.cells #[.int .i64 x] 3))
            have HNw := Lib.hid (cell_one_new wr (.int .i64 x) 3)
            have HBs := Lib.hid (show w.heap.size ≤ (wr.alloc (.cells #[.int .i64 x] 3)).heap.size from by have := HO2.out.bound; simp; omega)
            go_wp2_with (at_builtin; refine wpList_append_own _ rfl _ _ 22 rfl w.heap.size 3 i0 (.int .i64 0) 1 8 Try.underlying22 HZ.out.2.2.1 HZ.out.2.2.2 HZ.out.1 HZ.out.2.1 rfl (by decide) u5 pre2.length (intsV pre2) rfl HO3.out ⟨wr.heap.size, 0, none⟩ 1 1 [.int .i64 x] rfl rfl HNw.out (by intro u hu; simp at hu; subst hu; rfl) (by unfold maxLen; omega) (by omega) HBs.out ?_; intro v4 w4 hown4 hg4 hnn4)
            have HO4 := Lib.hid (show OwN w v4 (pre2 ++ [x]) w4 from HO2.out.grown (M := [x]) (below_new _) hg4 hown4)
            clear hown4 hg4 hnn4
            go_roundw
            case rel => exact ⟨i + 1, pre2 ++ [x], y :: g3, _, _, by go_num, by omega, by rw [List.length_cons, HG3.out], HGy.out.2.1, HGy.out.2.2, HGy.out.1, HE.out, HO4.out⟩
            case measure => simp [intOf]; omega
    · have HE := Lib.hid (show pre ++ g' = R from by
        have h := HP.out.1
        rw [List.drop_eq_nil_of_le (by rw [HL.out]; omega)] at h
        simpa [mg] using h)
      have hpl : pre.length ≤ 2000000 := Nat.le_trans (pre_le HE.out) HRl.out
      have hgl : g'.length ≤ 1000000 := HG.out.2.2
      cases B' with
      | none =>
        have hn0 := HG.out.1.none_nil
        subst hn0
        have HO2 := Lib.hid HP.out.2.own
        go_wp2_with (at_builtin; refine wpList_append_nil rfl _ _ 22 rfl w.heap.size 3 i0 1 d' Try.underlying22 HZ.out.2.2.1 u5 pre.length (intsV pre) rfl HO2.out rfl ?_)
        go_wp2_with fail
        go_ret
        exact ⟨_, rfl, by rw [← HE.out, List.append_nil]; exact HP.out.2⟩
      | some ad2 =>
        have HC := Lib.hid (HG.out.1.below HP.out.2.bel).cells
        have HO2 := Lib.hid HP.out.2.own
        have HLn := Lib.hid (intsV_len g')
        have HOne := Lib.hid (intsV_one g')
        have HBs := Lib.hid HP.out.2.bound
        go_wp2_with (at_builtin; refine wpList_append_own _ rfl _ _ 22 rfl w.heap.size 3 i0 (.int .i64 0) 1 8 Try.underlying22 HZ.out.2.2.1 HZ.out.2.2.2 HZ.out.1 HZ.out.2.1 rfl (by decide) u5 pre.length (intsV pre) rfl HO2.out ad2 g'.length d' (intsV g') rfl (by rw [HLn.out, Nat.mul_one]) HC.out HOne.out (by unfold maxLen; omega) (by omega) HBs.out ?_; intro v4 w4 hown4 hg4 hnn4)
        have HO4 := Lib.hid (show OwN w v4 (pre ++ g') w4 from HP.out.2.grown (Below.refl _ _) hg4 hown4)
        clear hown4 hg4 hnn4
        go_wp2_with fail
        go_ret
        exact ⟨_, rfl, by rw [← HE.out]; exact HO4.out⟩
set_option maxRecDepth 100000 in
set_option maxHeartbeats 4000000 in
/-- replace returns the list itself or a new one -/
theorem replace_any (u v t : Value) (l fr to : List Int) (w : World) (hu : InSl w w.heap.size u l) (hv : InSl w w.heap.size v fr) (ht : InSl w w.heap.size t to) (hl : l.length ≤ 1000000) (hf : fr.length ≤ 1000000) (hto : to.length ≤ 1000000) :
    Calls Try.prog 95 #[u, v, t] w fun e w' => (∃ r, e = .returned r ∧ InSl w' w'.heap.size r (rep l fr to) ∧ (r = u ∨ ∀ g, r.ownBlock = some g → w.heap.size ≤ g)) ∧ Below w.heap.size w w' := by
  have HU := Lib.hid hu
  have HV := Lib.hid hv
  have HT := Lib.hid ht
  have HW := Lib.hid (without_any u v l fr w hu hv hl hf)
  obtain ⟨A, c, rfl, _⟩ := hu.form
  obtain ⟨B, d, rfl, _⟩ := hv.form
  obtain ⟨C, e, rfl, _⟩ := ht.form
  have HLn := Lib.hid (And.intro hl (And.intro hto (wo_len l fr)))
  have HRp := Lib.hid (show rep l fr to = if (wo l fr).length = l.length then l else mg (wo l fr) to from rfl)
  clear hu hv ht hl hf hto
  obtain ⟨R, hR⟩ : ∃ R, rep l fr to = R := ⟨_, rfl⟩
  rw [hR] at HRp ⊢
  clear hR
  generalize hwo : wo l fr = W at *
  clear hwo
  go_enter Try.func95, Try.ntmps95
  go_wp2_with fail
  refine HW.out.mono ?_
  rintro e w1 ⟨r, rfl, hO⟩
  have HO := Lib.hid hO
  obtain ⟨A1, c1, rfl, _⟩ := hO.sl.form
  clear hO
  by_cases he : (W.length : Int) = (l.length : Int)
  · have HF := Lib.hid (show R = l from by rw [HRp.out, if_pos (by omega)])
    go_wp2_with fail
    go_ret
    exact ⟨⟨_, rfl, by rw [HF.out]; exact HU.out.step HO.out.bel, .inl rfl⟩, HO.out.bel⟩
  · have HF := Lib.hid (show R = mg W to from by rw [HRp.out, if_neg (by omega)])
    go_wp2_with fail
    refine (merge_any _ _ W to w1 HO.out.sl (HT.out.step HO.out.bel) (by have := HLn.out; omega) HLn.out.2.1).mono ?_
    rintro e w2 ⟨r, rfl, hO2⟩
    have HO2 := Lib.hid hO2
    obtain ⟨A2, c2, rfl, _⟩ := hO2.sl.form
    clear hO2
    go_wp2_with fail
    go_ret
    exact ⟨⟨_, rfl, by rw [HF.out]; exact HO2.out.sl, .inr fun g e => Nat.le_trans HO.out.bound (HO2.out.own.lt g e).1⟩, HO.out.bel.trans (HO2.out.bel.mono HO.out.bel.size)⟩
end Go.Proofs.Ytplpogonkfnafaa
