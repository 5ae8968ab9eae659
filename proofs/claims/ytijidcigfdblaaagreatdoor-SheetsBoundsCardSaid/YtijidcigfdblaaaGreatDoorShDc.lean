/- What rules doubt: the program. -/
import Derived.Test.YtijidcigfdblaaaGreatDoorShDb
import Derived.Test.YtijidcigfdblaaaGreatDoorShD
namespace Go.Proofs.YtijidcigfdblaaaGreatDoor
open Go.RowKit Go.Nm Go.Sh Go.Plc

theorem bet_rngD {n a b : Int} (h : betB n a b = true) : a ≤ n ∧ n ≤ b := by
  unfold betB at h
  simp only [Bool.and_eq_true, decide_eq_true_eq] at h
  exact h
set_option maxRecDepth 100000 in
set_option maxHeartbeats 16000000 in
theorem nextDoubt_any (r : Rl) (Ar : Option Addr) (cr : Nat) (p : Pg) (A : Option Addr) (n c : Nat) (x : Ln) (Ax : Option Addr) (ax cx : Nat) (fr : Int) (w : World) (hr : SqSl w w.heap.size (.slice Ar r.rg.length cr) r.rg) (hrl : r.rg.length ≤ 1000000) (hrb : rlB r = true) (hf : i64B r.fr) (ht : i64B r.to) (hok : PgOk p) (hG : GlO w) :
    Calls Tryz.prog 115 #[rlV r (.slice Ar r.rg.length cr), pgV p (.slice A n c), lnV x (.slice Ax ax cx), .int .i64 fr] w fun e w' => e = .returned (.int .i64 (nxF (kdP r (pgSq p)) (kdS r p.nt) (kdM r x.lo) fr)) ∧ Below w.heap.size w w' := by
  have hb1 := below_new (w := w) (.cells #[.int .i64 r.nm, .slice Ar r.rg.length cr, .int .i64 r.fr, .int .i64 r.to, .int .i64 r.mo] 92)
  have hn1 := World.alloc_heap_new w (.cells #[.int .i64 r.nm, .slice Ar r.rg.length cr, .int .i64 r.fr, .int .i64 r.to, .int .i64 r.mo] 92)
  obtain ⟨V1, hV1⟩ : ∃ V, w.alloc (.cells #[.int .i64 r.nm, .slice Ar r.rg.length cr, .int .i64 r.fr, .int .i64 r.to, .int .i64 r.mo] 92) = V := ⟨_, rfl⟩
  have z1 : V1.heap.size = w.heap.size + 1 := by rw [← hV1]; simp
  rw [hV1] at hb1 hn1
  have hb2 := below_new (w := V1) (.cells (pgC p (.slice A n c)) 28)
  have hn2 := World.alloc_heap_new V1 (.cells (pgC p (.slice A n c)) 28)
  obtain ⟨V2, hV2⟩ : ∃ V, V1.alloc (.cells (pgC p (.slice A n c)) 28) = V := ⟨_, rfl⟩
  have z2 : V2.heap.size = w.heap.size + 1 + 1 := by rw [← hV2]; simp [z1]
  rw [hV2] at hb2 hn2
  rw [z1] at hn2
  have hb3 := below_new (w := V2) (.cells #[.int .i64 x.nm, .int .i64 x.lo, .int .i64 x.hi, .slice Ax ax cx] 83)
  have hn3 := World.alloc_heap_new V2 (.cells #[.int .i64 x.nm, .int .i64 x.lo, .int .i64 x.hi, .slice Ax ax cx] 83)
  obtain ⟨V, hV3⟩ : ∃ V, V2.alloc (.cells #[.int .i64 x.nm, .int .i64 x.lo, .int .i64 x.hi, .slice Ax ax cx] 83) = V := ⟨_, rfl⟩
  rw [hV3] at hb3 hn3
  rw [z2] at hn3
  have hbV : Below w.heap.size w V := hb1.trans ((hb2.trans (hb3.mono hb2.size)).mono hb1.size)
  have e1 := (hb3.block _ (by omega)).trans ((hb2.block _ (by omega)).trans hn1)
  have e2 := (hb3.block _ (by omega)).trans hn2
  have HX := Lib.hid (show ∀ Y, Below V.heap.size V Y → (Y.cell? ⟨w.heap.size, 0, none⟩ = some (.int .i64 r.nm) ∧ Y.cell? ⟨w.heap.size, 1, none⟩ = some (.slice Ar r.rg.length cr) ∧ Y.cell? ⟨w.heap.size, 2, none⟩ = some (.int .i64 r.fr) ∧ Y.cell? ⟨w.heap.size, 3, none⟩ = some (.int .i64 r.to) ∧ Y.cell? ⟨w.heap.size, 4, none⟩ = some (.int .i64 r.mo)) ∧ PgC Y (w.heap.size + 1) p (.slice A n c) ∧ (Y.cell? ⟨w.heap.size + 1 + 1, 0, none⟩ = some (.int .i64 x.nm) ∧ Y.cell? ⟨w.heap.size + 1 + 1, 1, none⟩ = some (.int .i64 x.lo) ∧ Y.cell? ⟨w.heap.size + 1 + 1, 2, none⟩ = some (.int .i64 x.hi) ∧ Y.cell? ⟨w.heap.size + 1 + 1, 3, none⟩ = some (.slice Ax ax cx)) from fun Y h =>
    ⟨cells_five ((h.block _ (Array.getElem?_eq_some_iff.1 e1).1).trans e1), pg_cells ((h.block _ (Array.getElem?_eq_some_iff.1 e2).1).trans e2), cells_four ((h.block _ (Array.getElem?_eq_some_iff.1 hn3).1).trans hn3)⟩)
  have HBV := Lib.hid hbV
  obtain ⟨aa, haa⟩ : ∃ q, kdP r (pgSq p) = q := ⟨_, rfl⟩
  obtain ⟨bb, hbb⟩ : ∃ q, kdS r p.nt = q := ⟨_, rfl⟩
  obtain ⟨cc, hcc⟩ : ∃ q, kdM r x.lo = q := ⟨_, rfl⟩
  obtain ⟨nx, hnx⟩ : ∃ q, nxF aa bb cc fr = q := ⟨_, rfl⟩
  have hrp : (betB r.mo 0 100000 = true ∧ (vday r.fr && vday r.to) = true) ∧ regB r.rg = true := by
    unfold rlB at hrb
    rw [Bool.and_eq_true, Bool.and_eq_true] at hrb
    exact hrb
  have hsq : (pgSq p).okB = true := by
    have h := hok.sq
    unfold sqB at h
    rw [Bool.and_eq_true] at h
    exact h.2
  have hnt := bet_rngD hok.nt
  have HHas := Lib.hid (show Calls Tryz.prog 172 #[.slice Ar r.rg.length cr, .agg #[.int .i64 p.lv, .int .i64 p.sx, .int .i64 p.sy]] V fun e w' => e = .returned (.tuple #[.bool (!aa), .int .i64 0]) ∧ Below V.heap.size V w' from by
    have h := Has_any (.slice Ar r.rg.length cr) r.rg (pgSq p) V ((hr.below hbV).mono hbV.size) hrl
    have ha : askOut r.rg (pgSq p) (hasS r.rg (pgSq p)) = (!aa, 0) := by
      unfold askOut
      rw [if_pos hrp.2, if_pos hsq, ← haa]
      unfold kdP
      rw [Bool.not_not]
    rw [ha] at h
    exact h)
  have HSea := Lib.hid (show ∀ Y, Below V.heap.size V Y → Calls Tryz.prog 173 #[.agg #[.int .i64 r.fr, .int .i64 r.to], .int .i64 p.nt] Y fun e w' => e = .returned (.tuple #[.bool (!bb), .int .i64 0]) ∧ Below Y.heap.size Y w' from fun Y hY => by
    refine (InSeason_any r.fr r.to p.nt Y (hG.below (hbV.trans (hY.mono hbV.size))).md hf.1 hf.2 ht.1 ht.2).mono ?_
    rintro e w' ⟨h | h, hb⟩
    · obtain ⟨_, _, _, y, m, d, rfl, hv, hn⟩ := h
      refine ⟨?_, hb⟩
      rw [← hbb]
      unfold kdS
      rw [Bool.not_not, sea_is hv hn]
    · obtain ⟨er, _, _, h2, _⟩ := h
      rcases h2 with h2 | h2
      · rw [hrp.1.2] at h2; cases h2
      · exact absurd hnt h2)
  have HM := Lib.hid (show cc = true ↔ r.mo < x.lo from by rw [← hcc]; unfold kdM; simp)
  rw [haa, hbb, hcc, hnx]
  have HNx := Lib.hid hnx
  unfold rlV pgV lnV
  unfold pgC at hV2
  obtain ⟨⟨m0, m1, m2, m3, m4⟩, ⟨g0, g1, g2, g3, g4, g5, g6, g7, g8, g9⟩, ⟨d0, d1, d2, d3⟩⟩ := HX.out V (Below.refl _ _)
  have HVr := Lib.hid (Below.refl V.heap.size V)
  clear hr hrl hrb hf ht hok hG hb1 hn1 hb2 hn2 hb3 hn3 hbV e1 e2 haa hbb hcc hnx hrp hsq hnt
  by_cases f1 : fr = 1
  · subst f1
    have HN := Lib.hid (show nx = nxF aa bb cc 1 from HNx.out.symm)
    go_enter Tryz.func115, Tryz.ntmps115
    go_wp2_with fail
    refine HHas.out.mono ?_
    rintro e w1 ⟨rfl, hb1⟩
    have HB1 := Lib.hid hb1
    clear hb1 m0 m1 m2 m3 m4 g0 g1 g2 g3 g4 g5 g6 g7 g8 g9 d0 d1 d2 d3
    cases aa with
    | true =>
      have HF := Lib.hid (show nx = 1 from by rw [HN.out]; rfl)
      go_wp2_with fail
      go_ret
      exact ⟨by rw [HF.out]; rfl, HBV.out.trans (HB1.out.mono HBV.out.size)⟩
    | false =>
      have HS1 := Lib.hid (HSea.out w1 HB1.out)
      obtain ⟨⟨m0, m1, m2, m3, m4⟩, ⟨g0, g1, g2, g3, g4, g5, g6, g7, g8, g9⟩, _⟩ := HX.out w1 HB1.out
      go_wp2_with fail
      refine HS1.out.mono ?_
      rintro e w2 ⟨rfl, hb2⟩
      have HB2 := Lib.hid (HB1.out.trans (hb2.mono HB1.out.size))
      clear hb2 HS1 m0 m1 m2 m3 m4 g0 g1 g2 g3 g4 g5 g6 g7 g8 g9
      obtain ⟨⟨m0, m1, m2, m3, m4⟩, _, ⟨d0, d1, d2, d3⟩⟩ := HX.out w2 HB2.out
      cases bb with
      | true =>
        have HF := Lib.hid (show nx = 2 from by rw [HN.out]; rfl)
        go_wp2_with fail
        go_ret
        exact ⟨by rw [HF.out]; rfl, HBV.out.trans (HB2.out.mono HBV.out.size)⟩
      | false =>
        cases cc with
        | true =>
          have hm : r.mo < x.lo := HM.out.1 rfl
          have HF := Lib.hid (show nx = 3 from by rw [HN.out]; rfl)
          go_wp2_with fail
          go_ret
          exact ⟨by rw [HF.out]; rfl, HBV.out.trans (HB2.out.mono HBV.out.size)⟩
        | false =>
          have hm : ¬ r.mo < x.lo := fun h => by have := HM.out.2 h; cases this
          have HF := Lib.hid (show nx = 0 from by rw [HN.out]; rfl)
          go_wp2_with fail
          go_ret
          exact ⟨by rw [HF.out]; rfl, HBV.out.trans (HB2.out.mono HBV.out.size)⟩
  · by_cases f2 : fr = 2
    · subst f2
      have HN := Lib.hid (show nx = nxF aa bb cc 2 from HNx.out.symm)
      have HN := Lib.hid (show nx = nxF false bb cc 2 from by rw [HN.out]; rfl)
      clear m0 m1 m2 m3 m4 g0 g1 g2 g3 g4 g5 g6 g7 g8 g9 d0 d1 d2 d3
      have HS1 := Lib.hid (HSea.out V HVr.out)
      obtain ⟨⟨m0, m1, m2, m3, m4⟩, ⟨g0, g1, g2, g3, g4, g5, g6, g7, g8, g9⟩, _⟩ := HX.out V HVr.out
      go_enter Tryz.func115, Tryz.ntmps115
      go_wp2_with fail
      refine HS1.out.mono ?_
      rintro e w2 ⟨rfl, hb2⟩
      have HB2 := Lib.hid (HVr.out.trans (hb2.mono HVr.out.size))
      clear hb2 HS1 m0 m1 m2 m3 m4 g0 g1 g2 g3 g4 g5 g6 g7 g8 g9
      obtain ⟨⟨m0, m1, m2, m3, m4⟩, _, ⟨d0, d1, d2, d3⟩⟩ := HX.out w2 HB2.out
      cases bb with
      | true =>
        have HF := Lib.hid (show nx = 2 from by rw [HN.out]; rfl)
        go_wp2_with fail
        go_ret
        exact ⟨by rw [HF.out]; rfl, HBV.out.trans (HB2.out.mono HBV.out.size)⟩
      | false =>
        cases cc with
        | true =>
          have hm : r.mo < x.lo := HM.out.1 rfl
          have HF := Lib.hid (show nx = 3 from by rw [HN.out]; rfl)
          go_wp2_with fail
          go_ret
          exact ⟨by rw [HF.out]; rfl, HBV.out.trans (HB2.out.mono HBV.out.size)⟩
        | false =>
          have hm : ¬ r.mo < x.lo := fun h => by have := HM.out.2 h; cases this
          have HF := Lib.hid (show nx = 0 from by rw [HN.out]; rfl)
          go_wp2_with fail
          go_ret
          exact ⟨by rw [HF.out]; rfl, HBV.out.trans (HB2.out.mono HBV.out.size)⟩
    · by_cases f3 : fr = 3
      · subst f3
        have HN := Lib.hid (show nx = nxF aa bb cc 3 from HNx.out.symm)
        have HN := Lib.hid (show nx = nxF false false cc 3 from by rw [HN.out]; rfl)
        cases cc with
        | true =>
          have hm : r.mo < x.lo := HM.out.1 rfl
          have HF := Lib.hid (show nx = 3 from by rw [HN.out]; rfl)
          go_enter Tryz.func115, Tryz.ntmps115
          go_wp2_with fail
          go_ret
          exact ⟨by rw [HF.out]; rfl, HBV.out⟩
        | false =>
          have hm : ¬ r.mo < x.lo := fun h => by have := HM.out.2 h; cases this
          have HF := Lib.hid (show nx = 0 from by rw [HN.out]; rfl)
          go_enter Tryz.func115, Tryz.ntmps115
          go_wp2_with fail
          go_ret
          exact ⟨by rw [HF.out]; rfl, HBV.out⟩
      · have HF := Lib.hid (show nx = 0 from by rw [← HNx.out]; unfold nxF; rw [if_neg (by omega), if_neg (by omega), if_neg (by omega)])
        have q1 : (fr == 1) = false := by simpa using f1
        have q2 : (fr == 2) = false := by simpa using f2
        have q3 : (fr == 3) = false := by simpa using f3
        go_enter Tryz.func115, Tryz.ntmps115
        go_wp2_with fail
        go_ret
        exact ⟨by rw [HF.out]; rfl, HBV.out⟩
end Go.Proofs.YtijidcigfdblaaaGreatDoor
