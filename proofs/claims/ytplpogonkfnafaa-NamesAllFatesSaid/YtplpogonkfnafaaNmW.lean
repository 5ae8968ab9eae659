/- without: the names of a list that are not in another one. -/
import Derived.Test.YtplpogonkfnafaaNmC
namespace Go.Proofs.Ytplpogonkfnafaa
open Go.RowKit Go.Nm

/-- a slice whose first element is struck -/
theorem tail_sl {w : World} {B : Nat} {ad : Addr} {x : Int} {g : List Int} {c : Nat} (h : InA w B (some ad) (x :: g)) (hc : g.length + 1 ≤ c) :
    InA w B (if c = 1 then some ad else some ⟨ad.block, ad.off + 1, none⟩) g := by
  by_cases h1 : c = 1
  · have hg : g = [] := List.length_eq_zero_iff.1 (by omega)
    subst hg
    exact InA.nil _ _ _
  · rw [if_neg h1]
    exact h.drop 1
theorem wo_next {l g : List Int} {i : Nat} {x : Int} (h : l[i]? = some x) : wo (l.drop i) g = (if (g.dropWhile (fun y => decide (y < x))).head? = some x then wo (l.drop (i + 1)) (g.dropWhile (fun y => decide (y < x))) else x :: wo (l.drop (i + 1)) (g.dropWhile (fun y => decide (y < x)))) := by
  obtain ⟨hi, rfl⟩ := List.getElem?_eq_some_iff.1 h
  rw [List.drop_eq_getElem_cons hi]
  conv => lhs; unfold wo
def lenOf : Value → Nat
  | .slice _ n _ => n
  | _ => 0
set_option maxRecDepth 100000 in
set_option maxHeartbeats 4000000 in
theorem without_any (u v : Value) (l g : List Int) (w : World) (hu : InSl w w.heap.size u l) (hv : InSl w w.heap.size v g) (hl : l.length ≤ 1000000) (hg : g.length ≤ 1000000) :
    Calls Try.prog 94 #[u, v] w fun e w' => ∃ r, e = .returned r ∧ OwN w r (wo l g) w' := by
  have HU := Lib.hid hu
  have HV := Lib.hid hv
  obtain ⟨A, c, rfl, hc, hcm, hA⟩ := hu
  obtain ⟨B, d, rfl, hd, hdm, hB⟩ := hv
  have HA := Lib.hid hA
  have HB := Lib.hid hB
  obtain ⟨i0, hi0, hz0, hz1, hz2⟩ := infoI
  have HZ := Lib.hid (show i0.size = 1 ∧ i0.bytes = 8 ∧ Try.prog.info? 3 = some i0 ∧ i0.zero = some (.int .i64 0) from ⟨hz1, hz2, hi0, hz0⟩)
  clear hA hB hz0 hz1 hz2 hi0
  generalize hnl : l.length = n at *
  have HL := Lib.hid hnl
  clear hnl
  obtain ⟨R, hR⟩ : ∃ R, wo l g = R := ⟨_, rfl⟩
  rw [hR]
  have HR := Lib.hid hR
  clear hR
  go_enter Try.func94, Try.ntmps94
  go_wp2_with (refine wpList_make_own _ rfl _ _ 22 rfl w.heap.size 3 i0 (.int .i64 0) 1 Try.underlying22 HZ.out.2.2.1 HZ.out.2.2.2 HZ.out.1 .i64 .i64 (n : Int) n rfl rfl rfl (by rw [HZ.out.2.1]; omega) (by unfold maxLen; omega) (Nat.le_refl _) ?_; intro w1 hown hgr)
  go_wp2_with fail
  have HO0 := Lib.hid (show OwN w (.slice (some ⟨w.heap.size, 0, none⟩) 0 n) [] w1 from ⟨(Below.refl _ _).grown hgr (Nat.le_refl _) (fun r e => by cases e), hown⟩)
  clear hown hgr
  go_loopw [1, 5, 13] (fun s v k wr => ∃ (i : Nat) (pre g' : List Int) (B' : Option Addr) (d' : Nat), k = .int .i64 (i : Int) ∧ i ≤ n ∧ s = .slice B' g'.length d' ∧ g'.length ≤ d' ∧ g'.length ≤ 1000000 ∧ InA w w.heap.size B' g' ∧ pre.length ≤ i ∧ pre ++ wo (l.drop i) g' = R ∧ OwN w v pre wr) (fun _ _ k _ => n - (intOf k).toNat)
  case atStart => exact ⟨0, [], g, B, d, rfl, by omega, rfl, hd, hg, HB.out, by simp, by simpa using HR.out, HO0.out⟩
  case round =>
    obtain ⟨i, pre, g', B', d', rfl, hin, rfl, hgd, hgl, hg', hpl, hpre, hO⟩ := hrel
    have HG := Lib.hid (And.intro hg' (And.intro hgd hgl))
    have HP := Lib.hid (And.intro hpre hO)
    clear hg' hgd hgl hpre hO
    by_cases hlt : i < n
    · obtain ⟨x, ad, hx, rfl, hb, hcx⟩ := (HA.out.below HP.out.2.bel).at_ HL.out hlt
      have HX := Lib.hid (wo_next (g := g') hx)
      clear hx
      clear hb
      go_wp2_with fail
      go_loop [1] (fun s => ∃ (g2 : List Int) (B2 : Option Addr) (d2 : Nat), s = .slice B2 g2.length d2 ∧ InA w w.heap.size B2 g2 ∧ g2.length ≤ d2 ∧ g2.length ≤ 1000000 ∧ g2.dropWhile (fun y => decide (y < x)) = g'.dropWhile (fun y => decide (y < x))) (fun s => lenOf s)
      case atStart => exact ⟨g', B', d', rfl, HG.out.1, HG.out.2.1, HG.out.2.2, rfl⟩
      case round =>
        obtain ⟨g2, B2, d2, rfl, h1, h2, h3, h4⟩ := hrel
        have HG2 := Lib.hid (And.intro h1 (And.intro h2 h3))
        have HDr := Lib.hid h4
        clear h1 h2 h3 h4
        cases g2 with
        | nil =>
          have HE := Lib.hid (show (pre ++ [x]) ++ wo (l.drop (i + 1)) [] = R from by
            have h := HDr.out
            rw [← HP.out.1, HX.out, ← h]; simp)
          clear HX HDr
          have HO3 := Lib.hid ((HP.out.2.own).alloc (.cells #[.int .i64 x] 3))
          have HNw := Lib.hid (cell_one_new wr (.int .i64 x) 3)
          have HBs := Lib.hid (show w.heap.size ≤ (wr.alloc (.cells #[.int .i64 x] 3)).heap.size from by have := HP.out.2.bound; simp; omega)
          go_wp2_with (at_builtin; refine wpList_append_own _ rfl _ _ 22 rfl w.heap.size 3 i0 (.int .i64 0) 1 8 Try.underlying22 HZ.out.2.2.1 HZ.out.2.2.2 HZ.out.1 HZ.out.2.1 rfl (by decide) u5 pre.length (intsV pre) rfl HO3.out ⟨wr.heap.size, 0, none⟩ 1 1 [.int .i64 x] rfl rfl HNw.out (by intro u hu; simp at hu; subst hu; rfl) (by unfold maxLen; omega) (by omega) HBs.out ?_; intro v4 w4 hown4 hg4 hnn4)
          have HO4 := Lib.hid (show OwN w v4 (pre ++ [x]) w4 from HP.out.2.grown (M := [x]) (below_new _) hg4 hown4)
          clear hown4 hg4 hnn4
          go_roundw
          case rel => exact ⟨i + 1, pre ++ [x], [], _, _, by go_num, by omega, rfl, by simp, by simp, InA.nil _ _ _, by simp; omega, HE.out, HO4.out⟩
          case measure => simp [intOf]; omega
        | cons y g3 =>
          obtain ⟨ad2, rfl, hbd2, hcy⟩ := (HG2.out.1.below HP.out.2.bel).first
          have HD2 := Lib.hid (And.intro HG2.out.2.1 HG2.out.2.2)
          have hd2 : g3.length + 1 ≤ d2 := by have := HG2.out.2.1; simpa using this
          rw [List.length_cons]
          generalize hg3 : g3.length = m at *
          have HG3 := Lib.hid hg3
          clear hg3 hbd2
          by_cases hyx : y < x
          · have HT := Lib.hid (tail_sl (c := d2) HG2.out.1 (by rw [HG3.out]; exact hd2))
            have HDr3 := Lib.hid (show g3.dropWhile (fun y => decide (y < x)) = g'.dropWhile (fun y => decide (y < x)) from by
              have h := HDr.out
              rw [List.dropWhile_cons, if_pos (by simpa using hyx)] at h
              exact h)
            clear HG2
            go_wp2_with fail
            go_round
            case rel => exact ⟨g3, _, d2 - 1, by rw [HG3.out], HT.out, by rw [HG3.out]; omega, by have := HD2.out.2; simp at this; omega, HDr3.out⟩
            case measure => simp [lenOf]
          · have hne : ¬ y < x := hyx
            by_cases hxy : y = x
            · have HE := Lib.hid (show pre ++ wo (l.drop (i + 1)) (y :: g3) = R from by
                have h := HDr.out
                rw [List.dropWhile_cons, if_neg (by simpa using hyx)] at h
                rw [← HP.out.1, HX.out, ← h, if_pos (by rw [List.head?_cons, hxy])])
              have HGy := Lib.hid HG2.out
              clear HX HDr HG2
              subst hxy
              go_wp2_with fail
              go_roundw
              case rel => exact ⟨i + 1, pre, y :: g3, _, _, by go_num, by omega, by rw [List.length_cons, HG3.out], HGy.out.2.1, HGy.out.2.2, HGy.out.1, by omega, HE.out, HP.out.2⟩
              case measure => simp [intOf]; omega
            · have HE := Lib.hid (show (pre ++ [x]) ++ wo (l.drop (i + 1)) (y :: g3) = R from by
                have h := HDr.out
                rw [List.dropWhile_cons, if_neg (by simpa using hyx)] at h
                rw [← HP.out.1, HX.out, ← h, if_neg (by rw [List.head?_cons]; intro e; injection e with e; exact hxy e)]; simp)
              have HGy := Lib.hid HG2.out
              clear HX HDr HG2
              have hb1 : (y != x) = true := by simpa using hxy
              have HO3 := Lib.hid ((HP.out.2.own).alloc (.cells #[.int .i64 x] 3))
              have HNw := Lib.hid (cell_one_new wr (.int .i64 x) 3)
              have HBs := Lib.hid (show w.heap.size ≤ (wr.alloc (.cells #[.int .i64 x] 3)).heap.size from by have := HP.out.2.bound; simp; omega)
              go_wp2_with (at_builtin; refine wpList_append_own _ rfl _ _ 22 rfl w.heap.size 3 i0 (.int .i64 0) 1 8 Try.underlying22 HZ.out.2.2.1 HZ.out.2.2.2 HZ.out.1 HZ.out.2.1 rfl (by decide) u5 pre.length (intsV pre) rfl HO3.out ⟨wr.heap.size, 0, none⟩ 1 1 [.int .i64 x] rfl rfl HNw.out (by intro u hu; simp at hu; subst hu; rfl) (by unfold maxLen; omega) (by omega) HBs.out ?_; intro v4 w4 hown4 hg4 hnn4)
              have HO4 := Lib.hid (show OwN w v4 (pre ++ [x]) w4 from HP.out.2.grown (M := [x]) (below_new _) hg4 hown4)
              clear hown4 hg4 hnn4
              go_roundw
              case rel => exact ⟨i + 1, pre ++ [x], y :: g3, _, _, by go_num, by omega, by rw [List.length_cons, HG3.out], HGy.out.2.1, HGy.out.2.2, HGy.out.1, by simp; omega, HE.out, HO4.out⟩
              case measure => simp [intOf]; omega
    · have HE := Lib.hid (show pre = R from by
        have h := HP.out.1
        rw [List.drop_eq_nil_of_le (by rw [HL.out]; omega)] at h
        simpa [wo] using h)
      go_wp2_with fail
      go_ret
      exact ⟨_, rfl, by rw [← HE.out]; exact HP.out.2⟩
end Go.Proofs.Ytplpogonkfnafaa
