/- PlacesTexts: the walk. -/
import Derived.Test.YtabolonlkocopaaGreatDoorTxN
namespace Go.Proofs.YtabolonlkocopaaGreatDoor
open Go.RowKit Go.Plc

theorem night_both (n : Int) (w : World) : ∃ (tx : ByteArray) (E : Int), (∀ w, MonthDays w → TabW w → Calls Tryz.prog 31 #[.int .i64 n] w fun e w' => e = .returned (.tuple #[.string tx, .int .i64 E]) ∧ Below w.heap.size w w') ∧
    (∀ w, Calls Tryz.prog 32 #[.int .i64 n] w fun e w' => e = .returned (.tuple #[.string tx, .int .i64 E]) ∧ Below w.heap.size w w') := by
  obtain ⟨tx, E, h1, h2⟩ := night_det n w
  refine ⟨⟨tx.toArray⟩, E, h1, fun w => (rPrintNight_any n w).mono ?_⟩
  rintro e w' ⟨(⟨g0, g1, y, m, d, y', m', d', rfl, k1, k2, k3, k4⟩ | ⟨hno, rfl⟩), hb⟩
  · rcases h2 with ⟨rfl, _, h⟩ | ⟨_, _, h⟩
    · have := text_same h (⟨y, m, d, y', m', d', k1, k2, g1, k3, k4, rfl⟩ : NightOfText (nightT y m d y' m' d') n)
      subst this
      exact ⟨rfl, hb⟩
    · exact absurd ⟨g0, g1⟩ h
  · rcases h2 with ⟨_, _, h⟩ | ⟨rfl, rfl, _⟩
    · exact absurd (text_rng h) hno
    · exact ⟨rfl, hb⟩
theorem parse_both (cs : List UInt8) (hc : cs.length ≤ 1000000) : ∃ n E : Int, (∀ w, MonthDays w → TabW w → Calls Tryz.prog 33 #[.string ⟨cs.toArray⟩] w fun e w' => e = .returned (.tuple #[.int .i64 n, .int .i64 E]) ∧ Below w.heap.size w w') ∧
    (∀ w, Calls Tryz.prog 34 #[.string ⟨cs.toArray⟩] w fun e w' => e = .returned (.tuple #[.int .i64 n, .int .i64 E]) ∧ Below w.heap.size w w') := by
  obtain ⟨n, E, h1, h2⟩ := parse_det cs hc
  by_cases h : ∃ n, NightOfText cs n
  · obtain ⟨k, hk⟩ := h
    rcases h2 with ⟨rfl, h2⟩ | ⟨_, h2⟩
    · refine ⟨n, 0, h1, fun w => (rParseNight_any cs w hc).mono ?_⟩
      rintro e w' ⟨(⟨n', rfl, g1⟩ | ⟨rfl, g1⟩), hb⟩
      · rw [text_one g1 h2]; exact ⟨rfl, hb⟩
      · exact absurd h2 (g1 n)
    · exact absurd hk (h2 k)
  · refine ⟨0, 13, fun w hM hT => (ParseNight_any cs w hM hT hc).mono ?_, fun w => (rParseNight_any cs w hc).mono ?_⟩
    · rintro e w' ⟨(⟨n', rfl, g1⟩ | ⟨rfl, g1⟩), hb⟩
      · exact absurd ⟨n', g1⟩ h
      · exact ⟨rfl, hb⟩
    · rintro e w' ⟨(⟨n', rfl, g1⟩ | ⟨rfl, g1⟩), hb⟩
      · exact absurd ⟨n', g1⟩ h
      · exact ⟨rfl, hb⟩
theorem sq_both (s : Sq) : ∃ (tx : ByteArray) (E : Int), (∀ w, TabW w → Calls Tryz.prog 27 #[sqv s] w fun e w' => e = .returned (.tuple #[.string tx, .int .i64 E]) ∧ Below w.heap.size w w') ∧
    (∀ w, Calls Tryz.prog 28 #[sqv s] w fun e w' => e = .returned (.tuple #[.string tx, .int .i64 E]) ∧ Below w.heap.size w w') :=
  ⟨_, _, fun w h => PrintSquare_any s w h, fun w => rPrintSquare_any s w⟩
theorem psq_both (cs : List UInt8) (hc : cs.length ≤ 1000000) : ∃ (q : Sq) (E : Int), (∀ w, TabW w → Calls Tryz.prog 29 #[.string ⟨cs.toArray⟩] w fun e w' => e = .returned (.tuple #[sqv q, .int .i64 E]) ∧ Below w.heap.size w w') ∧
    (∀ w, Calls Tryz.prog 30 #[.string ⟨cs.toArray⟩] w fun e w' => e = .returned (.tuple #[sqv q, .int .i64 E]) ∧ Below w.heap.size w w') :=
  ⟨_, _, fun w h => ParseSquare_any cs w h hc, fun w => rParseSquare_any cs w hc⟩

set_option maxRecDepth 100000 in
set_option maxHeartbeats 16000000 in
theorem PlacesTexts_any (s : Sq) (n : Int) (cs : List UInt8) (w : World) (hM : MonthDays w) (hT : TabW w) :
    Calls Tryz.prog 5 #[sqv s, .int .i64 n, .string ⟨cs.toArray⟩] w fun e w' => e = .returned (.bool true) ∧ Below w.heap.size w w' := by
  have HM := Lib.hid hM
  have HT := Lib.hid hT
  have hs1 : (⟨cs.toArray⟩ : ByteArray).size = cs.length := by simp [ByteArray.size]
  obtain ⟨tx, E, hP1, hP2⟩ := sq_both s
  have HP := Lib.hid (And.intro hP1 hP2)
  obtain ⟨ty, F, hN1, hN2⟩ := night_both n w
  have HN := Lib.hid (And.intro hN1 hN2)
  have K0 := Lib.hid (show KB w [(w.heap.size, sqO s)] [] (w.alloc (sqO s)) from (KB.mk (Below.refl _ _) (fun p hp => (by cases hp)) (fun q hq => (by cases hq)) : KB w [] [] w).new (sqO s))
  clear hM hT hP1 hP2 hN1 hN2
  unfold sqv at *
  unfold sqO at K0
  go_enter Tryz.func5, Tryz.ntmps5
  go_wp2_with fail
  refine (awake_any _ (HM.out.below K0.out.bel) (HT.out.below K0.out.bel)).mono ?_
  rintro e x1 ⟨rfl, hb1⟩
  have K1 := Lib.hid (K0.out.step hb1)
  clear hb1 K0
  by_cases hbig : 1000 < cs.length
  · go_wp2_with fail
    go_ret
    exact ⟨rfl, K1.out.bel⟩
  · have hc : cs.length ≤ 1000000 := by omega
    obtain ⟨k, G, hQ1, hQ2⟩ := parse_both cs hc
    have HQ := Lib.hid (And.intro hQ1 hQ2)
    obtain ⟨q, H, hR1, hR2⟩ := psq_both cs hc
    have HR := Lib.hid (And.intro hR1 hR2)
    clear hQ1 hQ2 hR1 hR2
    unfold sqv at HR
    obtain ⟨a0, a1, a2⟩ := sq_cells (s := s) (K1.out.mem (w.heap.size, _) List.mem_cons_self)
    go_wp2_with fail
    refine (HP.out.1 _ (HT.out.below K1.out.bel)).mono ?_
    rintro e x2 ⟨rfl, hb2⟩
    have K2 := Lib.hid (K1.out.step hb2)
    clear hb2 K1 a0 a1 a2
    obtain ⟨a0, a1, a2⟩ := sq_cells (s := s) (K2.out.mem (w.heap.size, _) List.mem_cons_self)
    go_wp2_with fail
    refine (HP.out.2 _).mono ?_
    rintro e x3 ⟨rfl, hb3⟩
    have K3 := Lib.hid (K2.out.step hb3)
    clear hb3 K2 a0 a1 a2 HP
    go_wp2_with fail
    refine (HR.out.1 _ (HT.out.below K3.out.bel)).mono ?_
    rintro e x4 ⟨rfl, hb4⟩
    have K4 := Lib.hid ((K3.out.step hb4).new (.cells #[.int .i64 q.l, .int .i64 q.x, .int .i64 q.y] 31))
    clear hb4 K3
    go_wp2_with fail
    generalize hg4 : x4.heap.size = g4 at *
    clear hg4
    refine (HR.out.2 _).mono ?_
    rintro e x5 ⟨rfl, hb5⟩
    have K5 := Lib.hid ((K4.out.step hb5).new (.cells #[.int .i64 q.l, .int .i64 q.x, .int .i64 q.y] 31))
    clear hb5 K4 HR
    go_wp2_with fail
    generalize hg5 : x5.heap.size = g5 at *
    clear hg5
    refine (HN.out.1 _ (HM.out.below K5.out.bel) (HT.out.below K5.out.bel)).mono ?_
    rintro e x6 ⟨rfl, hb6⟩
    have K6 := Lib.hid (K5.out.step hb6)
    clear hb6 K5
    go_wp2_with fail
    refine (HN.out.2 _).mono ?_
    rintro e x7 ⟨rfl, hb7⟩
    have K7 := Lib.hid (K6.out.step hb7)
    clear hb7 K6 HN
    go_wp2_with fail
    refine (HQ.out.1 _ (HM.out.below K7.out.bel) (HT.out.below K7.out.bel)).mono ?_
    rintro e x8 ⟨rfl, hb8⟩
    have K8 := Lib.hid (K7.out.step hb8)
    clear hb8 K7
    go_wp2_with fail
    refine (HQ.out.2 _).mono ?_
    rintro e x9 ⟨rfl, hb9⟩
    have K9 := Lib.hid (K8.out.step hb9)
    clear hb9 K8 HQ
    obtain ⟨a0, a1, a2⟩ := sq_cells (s := q) (K9.out.mem (g4, _) (List.mem_cons_of_mem _ List.mem_cons_self))
    obtain ⟨b0, b1, b2⟩ := sq_cells (s := q) (K9.out.mem (g5, _) List.mem_cons_self)
    go_wp2_with fail
    go_ret
    exact ⟨ret_b (by simp), K9.out.bel⟩
end Go.Proofs.YtabolonlkocopaaGreatDoor
