/- PlacesNights: the walk. -/
import Derived.Test.YtabolonlkocopaaDoorRnt
import Derived.Test.YtabolonlkocopaaDoorSquW
namespace Go.Proofs.YtabolonlkocopaaDoor
open Go.RowKit Go.Plc

def daO (y m d : Int) : Obj := .cells #[.int .i64 y, .int .i64 m, .int .i64 d] 38
def seO (f t : Int) : Obj := .cells #[.int .i64 f, .int .i64 t] 40

theorem date_has {n : Int} (w : World) (h0 : 0 ≤ n) (h1 : n ≤ 100000) : ∃ y m d, vdate y m d = true ∧ num y m d = n := by
  obtain ⟨e, w', fr, ⟨y, m, d, _, hv, hn, _⟩, _⟩ := rdate_any n w h0 h1 []
  exact ⟨y, m, d, hv, hn⟩
theorem date_det (n : Int) (w : World) : ∃ Y M D E : Int, (∀ w, MonthDays w → Calls Tryd.prog 27 #[.int .i64 n] w fun e w' => e = .returned (.tuple #[.agg #[.int .i64 Y, .int .i64 M, .int .i64 D], .int .i64 E]) ∧ Below w.heap.size w w') ∧
    (∀ w, Calls Tryd.prog 28 #[.int .i64 n] w fun e w' => e = .returned (.tuple #[.agg #[.int .i64 Y, .int .i64 M, .int .i64 D], .int .i64 E]) ∧ Below w.heap.size w w') := by
  by_cases hn : 0 ≤ n ∧ n ≤ 99999
  · obtain ⟨y, m, d, hv, hnm⟩ := date_has w hn.1 (by omega)
    refine ⟨y, m, d, 0, fun w hM => (DateOf_any n w hM).mono ?_, fun w => (rDateOf_any n w).mono ?_⟩
    all_goals
      rintro e w' ⟨(⟨_, _, y1, m1, d1, rfl, hv1, hn1⟩ | ⟨hno, rfl⟩), hb⟩
      · obtain ⟨rfl, rfl, rfl⟩ := date_one hv1 hv (hn1.trans hnm.symm)
        exact ⟨rfl, hb⟩
      · exact absurd hn hno
  · refine ⟨0, 0, 0, 1, fun w hM => (DateOf_any n w hM).mono ?_, fun w => (rDateOf_any n w).mono ?_⟩
    all_goals
      rintro e w' ⟨(⟨h0, h1, y1, m1, d1, rfl, hv1, hn1⟩ | ⟨hno, rfl⟩), hb⟩
      · exact absurd ⟨h0, h1⟩ hn
      · exact ⟨rfl, hb⟩
theorem season_det (f t n : Int) (w : World) (f0 : -9223372036854775808 ≤ f) (f1 : f ≤ 9223372036854775807) (t0 : -9223372036854775808 ≤ t) (t1 : t ≤ 9223372036854775807) : ∃ (B : Bool) (E : Int), (∀ w, MonthDays w → Calls Tryd.prog 29 #[.agg #[.int .i64 f, .int .i64 t], .int .i64 n] w fun e w' => e = .returned (.tuple #[.bool B, .int .i64 E]) ∧ Below w.heap.size w w') ∧
    (∀ w, Calls Tryd.prog 30 #[.agg #[.int .i64 f, .int .i64 t], .int .i64 n] w fun e w' => e = .returned (.tuple #[.bool B, .int .i64 E]) ∧ Below w.heap.size w w') := by
  by_cases hn : (vday f && vday t) = true ∧ 0 ≤ n ∧ n ≤ 99999
  · obtain ⟨y, m, d, hv, hnm⟩ := date_has w hn.2.1 (by omega)
    refine ⟨inC f t (100 * m + d), 0, fun w hM => (InSeason_any f t n w hM f0 f1 t0 t1).mono ?_, fun w => (rInSeason_any f t n w).mono ?_⟩
    all_goals
      rintro e w' ⟨(⟨_, _, _, y1, m1, d1, rfl, hv1, hn1⟩ | ⟨er, rfl, _, hno, _⟩), hb⟩
      · obtain ⟨rfl, rfl, rfl⟩ := date_one hv1 hv (hn1.trans hnm.symm)
        exact ⟨rfl, hb⟩
      · rcases hno with h | h
        · rw [hn.1] at h; cases h
        · exact absurd hn.2 h
  · refine ⟨false, if (vday f && vday t) = true then 1 else 12, fun w hM => (InSeason_any f t n w hM f0 f1 t0 t1).mono ?_, fun w => (rInSeason_any f t n w).mono ?_⟩
    all_goals
      rintro e w' ⟨(⟨h0, h1, h2, y1, m1, d1, rfl, hv1, hn1⟩ | ⟨er, rfl, _, _, he⟩), hb⟩
      · exact absurd ⟨h0, h1, h2⟩ hn
      · rw [he]; exact ⟨rfl, hb⟩

set_option maxRecDepth 100000 in
set_option maxHeartbeats 16000000 in
theorem PlacesNights_any (y m d n f t : Int) (w : World) (hM : MonthDays w) (hT : TabW w) (f0 : -9223372036854775808 ≤ f) (f1 : f ≤ 9223372036854775807) (t0 : -9223372036854775808 ≤ t) (t1 : t ≤ 9223372036854775807) :
    Calls Tryd.prog 4 #[.agg #[.int .i64 y, .int .i64 m, .int .i64 d], .int .i64 n, .agg #[.int .i64 f, .int .i64 t]] w fun e w' => e = .returned (.bool true) ∧ Below w.heap.size w w' := by
  have HM := Lib.hid hM
  have HT := Lib.hid hT
  obtain ⟨Y, M, D, E, hD1, hD2⟩ := date_det n w
  obtain ⟨B, F, hS1, hS2⟩ := season_det f t n w f0 f1 t0 t1
  have HN := Lib.hid (And.intro (fun w h => NightOf_any y m d w h) (fun w => rNightOf_any y m d w))
  have HD := Lib.hid (And.intro hD1 hD2)
  have HS := Lib.hid (And.intro hS1 hS2)
  have HVd := Lib.hid (And.intro (fun w h => ValidDate_any y m d w h) (fun w => rValidDate_any y m d w))
  have HVs := Lib.hid (And.intro (fun w h => ValidSeason_any f t w h f0 f1 t0 t1) (fun w => rValidSeason_any f t w))
  clear hM hT hD1 hD2 hS1 hS2 f0 f1 t0 t1
  generalize nightV y m d = nv at *
  generalize nightE y m d = ne at *
  generalize vdate y m d = vd at *
  generalize (vday f && vday t) = vs at *
  have K2 := Lib.hid (show KB w [(w.heap.size + 1, seO f t), (w.heap.size, daO y m d)] [] ((w.alloc (daO y m d)).alloc (seO f t)) from by
    have h := ((KB.mk (Below.refl _ _) (fun p hp => by cases hp) (fun q hq => by cases hq) : KB w [] [] w).new (daO y m d)).new (seO f t)
    rwa [World.size_alloc] at h)
  unfold daO seO at K2
  go_enter Tryd.func4, Tryd.ntmps4
  go_wp2_with fail
  refine (HN.out.1 _ (HM.out.below K2.out.bel)).mono ?_
  rintro e x1 ⟨rfl, hb1⟩
  have K3 := Lib.hid (K2.out.step hb1)
  obtain ⟨a0, a1, a2⟩ := three_cells (K3.out.mem (w.heap.size, _) (List.mem_cons_of_mem _ List.mem_cons_self))
  clear hb1 K2
  go_wp2_with fail
  refine (HN.out.2 _).mono ?_
  rintro e x2 ⟨rfl, hb2⟩
  have K4 := Lib.hid (K3.out.step hb2)
  clear hb2 K3 a0 a1 a2
  go_wp2_with fail
  refine (HD.out.1 _ (HM.out.below K4.out.bel)).mono ?_
  rintro e x3 ⟨rfl, hb3⟩
  have K5 := Lib.hid ((K4.out.step hb3).new (daO Y M D))
  clear hb3 K4
  unfold daO at K5
  go_wp2_with fail
  refine (HD.out.2 _).mono ?_
  rintro e x4 ⟨rfl, hb4⟩
  have K6 := Lib.hid ((K5.out.step hb4).new (daO Y M D))
  have k5 := K5.out.step hb4
  obtain ⟨b0, b1⟩ := two_cells (k5.mem (w.heap.size + 1, _) (List.mem_cons_of_mem _ List.mem_cons_self))
  have hz1 : w.heap.size + 1 < x4.heap.size := k5.lt (List.mem_cons_of_mem _ List.mem_cons_self)
  generalize x3.heap.size = g3 at *
  clear hb4 K5 k5
  unfold daO at K6
  go_wp2_with fail
  refine (HS.out.1 _ (HM.out.below K6.out.bel)).mono ?_
  rintro e x5 ⟨rfl, hb5⟩
  have K7 := Lib.hid (K6.out.step hb5)
  obtain ⟨b0, b1⟩ := two_cells (K7.out.mem (w.heap.size + 1, _) (List.mem_cons_of_mem _ (List.mem_cons_of_mem _ List.mem_cons_self)))
  generalize x4.heap.size = g4 at *
  clear hb5 K6 hz1
  go_wp2_with fail
  refine (HS.out.2 _).mono ?_
  rintro e X ⟨rfl, hb6⟩
  have KA := Lib.hid (K7.out.step hb6)
  clear hb6 K7 b0 b1
  go_wp2_with fail
  have ta := three_cells (KA.out.mem (w.heap.size, _) (List.mem_cons_of_mem _ (List.mem_cons_of_mem _ (List.mem_cons_of_mem _ List.mem_cons_self))))
  have tb := two_cells (KA.out.mem (w.heap.size + 1, _) (List.mem_cons_of_mem _ (List.mem_cons_of_mem _ List.mem_cons_self)))
  have tc := three_cells (KA.out.mem (g3, _) (List.mem_cons_of_mem _ List.mem_cons_self))
  have td := three_cells (KA.out.mem (g4, _) List.mem_cons_self)
  have ss := fun p => (⟨⟨Wb.cell ta.1 p, Wb.cell ta.2.1 p, Wb.cell ta.2.2 p⟩, ⟨Wb.cell tb.1 p, Wb.cell tb.2 p⟩, ⟨Wb.cell tc.1 p, Wb.cell tc.2.1 p, Wb.cell tc.2.2 p⟩, ⟨Wb.cell td.1 p, Wb.cell td.2.1 p, Wb.cell td.2.2 p⟩⟩ : (_ ∧ _ ∧ _) ∧ (_ ∧ _) ∧ (_ ∧ _ ∧ _) ∧ (_ ∧ _ ∧ _))
  have HAw := Lib.hid (fun p : Wb X => awake_any p.v (HM.out.below (KA.out.step p.h).bel) (HT.out.below (KA.out.step p.h).bel))
  have HVd1 := Lib.hid (fun p : Wb X => HVd.out.1 p.v (HM.out.below (KA.out.step p.h).bel))
  have HVs1 := Lib.hid (fun p : Wb X => HVs.out.1 p.v (HM.out.below (KA.out.step p.h).bel))
  clear HM HT HN HD HS ta tb tc td
  refine wp_region_wb (by kernel_rfl) (by kernel_rfl) ?_; (repeat ((with_reducible refine wpQuiet_step ?_); intro K hK; go_simp; (try (refine ite_neg_of (by simp [undef]) ?_)); first | (with_reducible refine hK _ ?_; clear hK K) | (apply Exists.intro; (with_reducible refine ⟨fun _ => ?_, hK _ ?_⟩); (first | (go_at_call 21; exact Calls.wb (HAw.out _)) | (go_at_call 31; exact Calls.wb (HVd1.out _)) | (go_at_call 32; exact Calls.wb (HVd.out.2 _)) | (go_at_call 33; exact Calls.wb (HVs1.out _)) | (go_at_call 34; exact Calls.wb (HVs.out.2 _))); clear hK K))); (with_reducible refine wpQuiet_nil ?_); rintro w1 ⟨⟨_, hb1⟩, rfl⟩; (try dsimp only)
  go_wp2_with fail
  go_ret
  exact ⟨ret_b (by simp), KA.out.bel.trans (hb1.mono KA.out.bel.size)⟩
end Go.Proofs.YtabolonlkocopaaDoor
