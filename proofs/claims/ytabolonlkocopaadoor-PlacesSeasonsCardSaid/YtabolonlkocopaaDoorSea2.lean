/- PlacesSeasons: the walk. -/
import Derived.Test.YtabolonlkocopaaDoorSeaS
import Derived.Test.YtabolonlkocopaaDoorAwk
import Derived.Test.YtabolonlkocopaaDoorFact
namespace Go.Proofs.YtabolonlkocopaaDoor
open Go.RowKit Go.Plc

def seaG (w : World) (f t n : Int) (ri : Bool) (a : Act) (X : World) : Prop := a.tmps.size = 68 ∧ a.tmps.getD 1 undef = .int .i64 n ∧ a.tmps.getD 2 undef = .pointer (some ⟨w.heap.size, 0, none⟩) ∧ a.tmps.getD 5 undef = .bool true ∧ a.tmps.getD 6 undef = .bool ri ∧ a.defers = [] ∧ GS w f t X
def seaF (w : World) (f t c2 c3 : Int) (i : Nat) (a : Act) (X : World) : Prop :=
  match i with
  | 0 => a.tmps.getD 38 undef = .pointer (some ⟨w.heap.size, 1, none⟩)
  | 1 => a.tmps.getD 39 undef = .int .i64 t
  | 2 => a.tmps.getD 40 undef = .int .i64 c2
  | 3 => a.tmps.getD 41 undef = .pointer (some ⟨w.heap.size, 0, none⟩)
  | 4 => a.tmps.getD 42 undef = .int .i64 f
  | 5 => a.tmps.getD 43 undef = .int .i64 c3
  | 6 => a.tmps.getD 44 undef = .agg #[.int .i64 c2, .int .i64 c3]
  | 7 => ∃ g x y, a.tmps.getD 8 undef = .pointer (some ⟨g, 0, none⟩) ∧ w.heap.size < g ∧ X.heap[g]? = some (.cells #[x, y] 40)
  | 8 => ∃ g, a.tmps.getD 8 undef = .pointer (some ⟨g, 0, none⟩) ∧ X.heap[g]? = some (.cells #[.int .i64 c2, .int .i64 c3] 40)
  | _ => True

set_option maxRecDepth 100000 in
set_option maxHeartbeats 16000000 in
theorem PlacesSeasons_any (f t n : Int) (w : World) (hM : MonthDays w) (hT : TabW w) (f0 : -9223372036854775808 ≤ f) (f1 : f ≤ 9223372036854775807) (t0 : -9223372036854775808 ≤ t) (t1 : t ≤ 9223372036854775807) :
    Calls Tryd.prog 11 #[.agg #[.int .i64 f, .int .i64 t], .int .i64 n] w fun e w' => e = .returned (.bool true) ∧ Below w.heap.size w w' := by
  have HM := Lib.hid hM
  have HT := Lib.hid hT
  have HI := Lib.hid (fun w hM => InSeason_any f t n w hM f0 f1 t0 t1)
  have HVs := Lib.hid (fun w hM => ValidSeason_any f t w hM f0 f1 t0 t1)
  clear hM hT
  go_enter Tryd.func11, Tryd.ntmps11
  go_wp2_with fail
  refine (awake_any _ (HM.out.alloc _) (HT.out.below (below_new _))).mono ?_
  rintro e w1 ⟨rfl, hb1⟩
  have H1 := Lib.hid (show Below w.heap.size w w1 ∧ w1.heap[w.heap.size]? = some (.cells #[.int .i64 f, .int .i64 t] 40) from ⟨(below_new _).trans (hb1.mono (by simp)), (hb1.block _ (by simp)).trans (World.alloc_heap_new w _)⟩)
  clear hb1
  obtain ⟨q0, q1⟩ := two_cells H1.out.2
  go_wp2_with fail
  refine (HI.out w1 (HM.out.below H1.out.1)).mono ?_
  rintro e w2 ⟨(⟨hvs, hn0, hn1, y, m, d, rfl, hv, hnm⟩ | ⟨er, rfl, her, hwhy, hee⟩), hb2⟩
  · have H2 := Lib.hid (show Below w.heap.size w w2 ∧ w2.heap[w.heap.size]? = some (.cells #[.int .i64 f, .int .i64 t] 40) from ⟨H1.out.1.trans (hb2.mono H1.out.1.size), (hb2.block _ (Array.getElem?_eq_some_iff.1 H1.out.2).1).trans H1.out.2⟩)
    clear hb2 q0 q1
    have hvs' := hvs
    rw [Bool.and_eq_true] at hvs'
    obtain ⟨c2, k1, k2, hS1⟩ := step_one t 1 hvs'.2 (.inl rfl)
    obtain ⟨c3, k3, k4, hS2⟩ := step_one f (-1) hvs'.1 (.inr rfl)
    have HA := Lib.hid (And.intro hvs' (And.intro (And.intro k1 k2) (And.intro k3 k4)))
    have HNt := Lib.hid (And.intro (And.intro hn0 hn1) (And.intro hv hnm))
    have HS1 := Lib.hid (fun X (h : GS w f t X) => (hS1 X (HM.out.below h.bel)).mono fun e w' k => (⟨k.1, k.2, h.below k.2⟩ : e = _ ∧ Below X.heap.size X w' ∧ GS w f t w'))
    have HS2 := Lib.hid (fun X (h : GS w f t X) => (hS2 X (HM.out.below h.bel)).mono fun e w' k => (⟨k.1, k.2, h.below k.2⟩ : e = _ ∧ Below X.heap.size X w' ∧ GS w f t w'))
    have g2 : GS w f t w2 := ⟨H2.out.1, H2.out.2⟩
    have hz2 := g2.lt
    obtain ⟨q0, q1⟩ := two_cells g2.box
    clear hvs hvs' k1 k2 k3 k4 hS1 hS2 hn0 hn1 hv hnm H2
    go_wp2_with fail
    refine wp_mono (Q := onlyN (fun a' X => ∃ gq, a'.tmps.size = 68 ∧ a'.tmps.getD 1 undef = .int .i64 n ∧ a'.tmps.getD 2 undef = .pointer (some ⟨w.heap.size, 0, none⟩) ∧ a'.tmps.getD 5 undef = .bool true ∧ a'.tmps.getD 6 undef = .bool (inC f t (100 * m + d)) ∧ a'.tmps.getD 8 undef = .pointer (some ⟨gq, 0, none⟩) ∧ a'.defers = [] ∧ GS w f t X ∧ X.heap[gq]? = some (.cells #[.int .i64 c2, .int .i64 c3] 40))) ?_ ?_
    · generalize inC f t (100 * m + d) = ri at *
      clear HI HVs HM HT HA HNt f0 f1 t0 t1
      refine wp_region_facts (seaG w f t n ri) (seaF w f t c2 c3) (by kernel_rfl) (by kernel_rfl) ⟨by simp, rfl, rfl, rfl, rfl, rfl, g2.drew⟩ ?_ ?_
      · intro i o hi a X hG hD
        obtain ⟨tm, ds⟩ := a
        obtain ⟨hsz, s1, s2, s5, s6, sd, hgs⟩ := hG
        obtain ⟨fn, rfl⟩ := arr68 hsz
        have hi9 : i < 9 := by
          have := (Array.getElem?_eq_some_iff.1 hi).1
          simpa using this
        simp [Array.getD] at s1 s2 s5 s6
        have hz0 := hgs.lt
        obtain ⟨q0, q1⟩ := two_cells hgs.box
        rcases (show i = 0 ∨ i = 1 ∨ i = 2 ∨ i = 3 ∨ i = 4 ∨ i = 5 ∨ i = 6 ∨ i = 7 ∨ i = 8 by omega) with rfl | rfl | rfl | rfl | rfl | rfl | rfl | rfl | rfl
        · obtain rfl := Option.some.inj hi
          refine wpOp_bare hi rfl ?_
          go_simp
          refine ⟨⟨rfl, rfl, rfl, rfl, rfl, sd, hgs⟩, rfl, fun j hj hne hw hF => ?_⟩
          clear hi hD
          rcases (show j = 0 ∨ j = 1 ∨ j = 2 ∨ j = 3 ∨ j = 4 ∨ j = 5 ∨ j = 6 ∨ j = 7 ∨ j = 8 by first | omega | (simp at hj; omega)) with rfl | rfl | rfl | rfl | rfl | rfl | rfl | rfl | rfl
          all_goals first | exact absurd rfl hne | exact hF | exact absurd hw (by decide +kernel)
        · obtain rfl := Option.some.inj hi
          have d0 := hD ⟨0, .data⟩ (by simp) rfl
          simp [seaF, Array.getD] at d0
          refine wpOp_bare hi rfl ?_
          go_simp
          refine ⟨⟨rfl, rfl, rfl, rfl, rfl, sd, hgs⟩, rfl, fun j hj hne hw hF => ?_⟩
          clear hi hD
          rcases (show j = 0 ∨ j = 1 ∨ j = 2 ∨ j = 3 ∨ j = 4 ∨ j = 5 ∨ j = 6 ∨ j = 7 ∨ j = 8 by first | omega | (simp at hj; omega)) with rfl | rfl | rfl | rfl | rfl | rfl | rfl | rfl | rfl
          all_goals first | exact absurd rfl hne | exact hF | exact absurd hw (by decide +kernel)
        · obtain rfl := Option.some.inj hi
          have d1 := hD ⟨1, .data⟩ (by simp) rfl
          simp [seaF, Array.getD] at d1
          refine wpOp_bare hi rfl ?_
          go_simp
          refine (HS1.out X hgs).mono ?_
          rintro e Y ⟨rfl, hb, hgs'⟩
          refine ⟨⟨rfl, rfl, rfl, rfl, rfl, sd, hgs'⟩, rfl, fun j hj hne hw hF => ?_⟩
          clear hi hD
          rcases (show j = 0 ∨ j = 1 ∨ j = 2 ∨ j = 3 ∨ j = 4 ∨ j = 5 ∨ j = 6 ∨ j = 7 ∨ j = 8 by first | omega | (simp at hj; omega)) with rfl | rfl | rfl | rfl | rfl | rfl | rfl | rfl | rfl
          all_goals first | exact absurd rfl hne | exact hF | exact absurd hw (by decide +kernel) | (obtain ⟨g, x, y, h1, h2, h3⟩ := hF; exact ⟨g, x, y, h1, h2, (hb.block _ (Array.getElem?_eq_some_iff.1 h3).1).trans h3⟩)
        · obtain rfl := Option.some.inj hi
          refine wpOp_bare hi rfl ?_
          go_simp
          refine ⟨⟨rfl, rfl, rfl, rfl, rfl, sd, hgs⟩, rfl, fun j hj hne hw hF => ?_⟩
          clear hi hD
          rcases (show j = 0 ∨ j = 1 ∨ j = 2 ∨ j = 3 ∨ j = 4 ∨ j = 5 ∨ j = 6 ∨ j = 7 ∨ j = 8 by first | omega | (simp at hj; omega)) with rfl | rfl | rfl | rfl | rfl | rfl | rfl | rfl | rfl
          all_goals first | exact absurd rfl hne | exact hF | exact absurd hw (by decide +kernel)
        · obtain rfl := Option.some.inj hi
          have d3 := hD ⟨3, .data⟩ (by simp) rfl
          simp [seaF, Array.getD] at d3
          refine wpOp_bare hi rfl ?_
          go_simp
          refine ⟨⟨rfl, rfl, rfl, rfl, rfl, sd, hgs⟩, rfl, fun j hj hne hw hF => ?_⟩
          clear hi hD
          rcases (show j = 0 ∨ j = 1 ∨ j = 2 ∨ j = 3 ∨ j = 4 ∨ j = 5 ∨ j = 6 ∨ j = 7 ∨ j = 8 by first | omega | (simp at hj; omega)) with rfl | rfl | rfl | rfl | rfl | rfl | rfl | rfl | rfl
          all_goals first | exact absurd rfl hne | exact hF | exact absurd hw (by decide +kernel)
        · obtain rfl := Option.some.inj hi
          have d4 := hD ⟨4, .data⟩ (by simp) rfl
          simp [seaF, Array.getD] at d4
          refine wpOp_bare hi rfl ?_
          go_simp
          refine (HS2.out X hgs).mono ?_
          rintro e Y ⟨rfl, hb, hgs'⟩
          refine ⟨⟨rfl, rfl, rfl, rfl, rfl, sd, hgs'⟩, rfl, fun j hj hne hw hF => ?_⟩
          clear hi hD
          rcases (show j = 0 ∨ j = 1 ∨ j = 2 ∨ j = 3 ∨ j = 4 ∨ j = 5 ∨ j = 6 ∨ j = 7 ∨ j = 8 by first | omega | (simp at hj; omega)) with rfl | rfl | rfl | rfl | rfl | rfl | rfl | rfl | rfl
          all_goals first | exact absurd rfl hne | exact hF | exact absurd hw (by decide +kernel) | (obtain ⟨g, x, y, h1, h2, h3⟩ := hF; exact ⟨g, x, y, h1, h2, (hb.block _ (Array.getElem?_eq_some_iff.1 h3).1).trans h3⟩)
        · obtain rfl := Option.some.inj hi
          have d2 := hD ⟨2, .data⟩ (by simp) rfl
          simp [seaF, Array.getD] at d2
          have d5 := hD ⟨5, .data⟩ (by simp) rfl
          simp [seaF, Array.getD] at d5
          refine wpOp_bare hi rfl ?_
          go_simp
          refine ⟨⟨rfl, rfl, rfl, rfl, rfl, sd, hgs⟩, rfl, fun j hj hne hw hF => ?_⟩
          clear hi hD
          rcases (show j = 0 ∨ j = 1 ∨ j = 2 ∨ j = 3 ∨ j = 4 ∨ j = 5 ∨ j = 6 ∨ j = 7 ∨ j = 8 by first | omega | (simp at hj; omega)) with rfl | rfl | rfl | rfl | rfl | rfl | rfl | rfl | rfl
          all_goals first | exact absurd rfl hne | exact hF | exact absurd hw (by decide +kernel)
        · obtain rfl := Option.some.inj hi
          refine wpOp_bare hi rfl ?_
          go_simp
          refine ⟨⟨rfl, rfl, rfl, rfl, rfl, sd, hgs.alloc _⟩, ⟨X.heap.size, _, _, rfl, hz0, World.alloc_heap_new X _⟩, fun j hj hne hw hF => ?_⟩
          clear hi hD
          rcases (show j = 0 ∨ j = 1 ∨ j = 2 ∨ j = 3 ∨ j = 4 ∨ j = 5 ∨ j = 6 ∨ j = 7 ∨ j = 8 by first | omega | (simp at hj; omega)) with rfl | rfl | rfl | rfl | rfl | rfl | rfl | rfl | rfl
          all_goals first | exact absurd rfl hne | exact hF | exact absurd hw (by decide +kernel)
        · obtain rfl := Option.some.inj hi
          have d6 := hD ⟨6, .data⟩ (by simp) rfl
          simp [seaF, Array.getD] at d6
          obtain ⟨g, x, y, d7, hg, hbx⟩ := hD ⟨7, .data⟩ (by simp) rfl
          simp [Array.getD] at d7
          obtain ⟨z0, z1⟩ := two_cells hbx
          have hfz := frozen_row hbx
          refine wpOp_bare hi rfl ?_
          go_simp
          refine ⟨⟨rfl, rfl, rfl, rfl, rfl, sd, (hgs.set hg).set hg⟩, ⟨g, rfl, set_at (set_at hbx)⟩, fun j hj hne hw hF => ?_⟩
          clear hi hD
          rcases (show j = 0 ∨ j = 1 ∨ j = 2 ∨ j = 3 ∨ j = 4 ∨ j = 5 ∨ j = 6 ∨ j = 7 ∨ j = 8 by first | omega | (simp at hj; omega)) with rfl | rfl | rfl | rfl | rfl | rfl | rfl | rfl | rfl
          all_goals first | exact absurd rfl hne | exact hF | exact absurd hw (by decide +kernel) | exact ⟨g, _, _, rfl, hg, set_at (set_at hbx)⟩
      · intro a X hG hF
        obtain ⟨hsz, s1, s2, s5, s6, sd, hgs⟩ := hG
        obtain ⟨g, h8, hbx⟩ := hF 8 (by simp)
        exact ⟨g, hsz, s1, s2, s5, s6, h8, sd, hgs, hbx⟩
    · rintro e ⟨tm, ds⟩ X h
      cases e with
      | normal =>
        obtain ⟨gq, hsz, s1, s2, s5, s6, s8, sd, hgs, hbx⟩ := h
        obtain ⟨F', hF'⟩ := arr68 hsz
        subst hF'
        have s1' : F' 1 = .int .i64 n := s1
        have s2' : F' 2 = .pointer (some ⟨w.heap.size, 0, none⟩) := s2
        have s5' : F' 5 = .bool true := s5
        have s6' : F' 6 = .bool (inC f t (100 * m + d)) := s6
        have s8' : F' 8 = .pointer (some ⟨gq, 0, none⟩) := s8
        have sd' : ds = [] := sd
        subst sd'
        rw [s1', s2', s5', s6', s8']
        clear s1 s2 s5 s6 s8 sd s1' s2' s5' s6' s8' hsz
        simp only [Exit.then]
        have hr2 := vday_rng HA.out.2.1.1
        have hr3 := vday_rng HA.out.2.2.1
        have HI2 := Lib.hid (InSeason_any c2 c3 n X (HM.out.below hgs.bel) (by omega) (by omega) (by omega) (by omega))
        obtain ⟨r0, r1⟩ := two_cells hbx
        have HX := Lib.hid (And.intro hgs hbx)
        clear hgs hbx hr2 hr3 q0 q1
        generalize hin : inC f t (100 * m + d) = ri at *
        have HIn := Lib.hid hin
        clear hin
        go_wp2_with fail
        refine HI2.out.mono ?_
        rintro e X2 ⟨(⟨_, _, _, y2, m2, d2, rfl, hv2, hn2⟩ | ⟨er, rfl, her, hwhy, hee⟩), hb2⟩
        · obtain ⟨rfl, rfl, rfl⟩ := date_one hv2 HNt.out.2.1 (hn2.trans HNt.out.2.2.symm)
          have HY := Lib.hid (show GS w f t X2 ∧ X2.heap[gq]? = some (.cells #[.int .i64 c2, .int .i64 c3] 40) from ⟨HX.out.1.below hb2, (hb2.block _ (Array.getElem?_eq_some_iff.1 HX.out.2).1).trans HX.out.2⟩)
          have hvn : vday (100 * m2 + d2) = true := by
            obtain ⟨a1, a2, a3, a4, a5, a6⟩ := (vdate_iff _ _ _).1 hv2
            have := dom_leap y2 m2
            exact (vday_mk a3 a4 a5 (by omega)).1
          have HO := Lib.hid (show c2 ≠ f → inC c2 c3 (100 * m2 + d2) = !ri from fun hne => by
            rw [← HIn.out]
            exact season_main HA.out.1.1 HA.out.1.2 HA.out.2.1.1 HA.out.2.2.1 hvn HA.out.2.1.2 HA.out.2.2.2 hne)
          clear hv2 hn2 hb2 hvn r0 r1
          obtain ⟨r0, r1⟩ := two_cells HY.out.2
          obtain ⟨q0, q1⟩ := two_cells HY.out.1.box
          by_cases hcf : c2 = f
          · generalize inC c2 c3 (100 * m2 + d2) = ro at *
            have hbe : ((c2 == f) = true) := by simpa using hcf
            clear hcf HO
            go_wp2_with fail
            go_ret
            exact ⟨ret_b (by simp), HY.out.1.bel⟩
          · have ho := HO.out hcf
            rw [ho]
            have hbe : ((c2 == f) = false) := by simpa using hcf
            clear hcf HO ho
            cases ri
            all_goals
              go_wp2_with fail
              go_ret
              exact ⟨ret_b (by simp), HY.out.1.bel⟩
        · rcases hwhy with h | h
          · rw [HA.out.2.1.1, HA.out.2.2.1] at h; cases h
          · exact absurd HNt.out.1 h
      | _ => exact h.elim
  · clear hee
    have H2 := Lib.hid (show Below w.heap.size w w2 ∧ w2.heap[w.heap.size]? = some (.cells #[.int .i64 f, .int .i64 t] 40) from ⟨H1.out.1.trans (hb2.mono H1.out.1.size), (hb2.block _ (Array.getElem?_eq_some_iff.1 H1.out.2).1).trans H1.out.2⟩)
    clear hb2 q0 q1
    obtain ⟨q0, q1⟩ := two_cells H2.out.2
    have HV := Lib.hid (HVs.out w2 (HM.out.below H2.out.1))
    cases hvs : (vday f && vday t)
    · rw [hvs] at HV
      clear hvs hwhy
      go_wp2_with fail
      refine HV.out.mono ?_
      rintro e w3 ⟨rfl, hb3⟩
      have H3 := Lib.hid (H2.out.1.trans (hb3.mono H2.out.1.size))
      clear hb3 q0 q1
      go_wp2_with fail
      go_ret
      exact ⟨rfl, H3.out⟩
    · rw [hvs] at HV
      have hcase : decide (n < 0) = true ∨ (decide (n < 0) = false ∧ decide (99999 < n) = true) := by
        rcases hwhy with h | h
        · rw [hvs] at h; cases h
        · simp; omega
      clear hvs hwhy
      rcases hcase with c1 | ⟨c1, c2⟩
      all_goals
        go_wp2_with fail
        refine HV.out.mono ?_
        rintro e w3 ⟨rfl, hb3⟩
        have H3 := Lib.hid (H2.out.1.trans (hb3.mono H2.out.1.size))
        clear hb3 q0 q1
        go_wp2_with fail
        go_ret
        exact ⟨ret_b (by simp_all), H3.out⟩
end Go.Proofs.YtabolonlkocopaaDoor
