/- The sample of the document; lists of doubts compared. -/
import Derived.Test.YtijidcigfdblaaaGreatDoorShDd
import Derived.Test.YtijidcigfdblaaaGreatDoorShTi
import Derived.Test.YtijidcigfdblaaaGreatDoorShS
namespace Go.Sh
open Go.Plc Go.Nm Go.Proofs.YtijidcigfdblaaaGreatDoor
def awkR : List Rl := [⟨4, [⟨10, 0, 0⟩], 101, 1231, 2⟩]
theorem awk_rest : agE (awkP 0 9) = 0 ∧ sHi (awkP 0 9).ls = 14 ∧ sLo (awkP 0 9).ls = 8 ∧ agE (awkP 0 7) = 3 := by decide +kernel
theorem awk_tight : (tight (awkP 0 9)).lo = 8 ∧ (tight (awkP 0 9)).hi = 9 := by decide +kernel
theorem awk_rules : rlsB awkR = true ∧ okP (awkP 10 20) = true := by decide +kernel
theorem awk_doubts : dbE awkR (awkP 10 20) = 0 ∧ dbF awkR (awkP 10 20) = [(0, 0, 3)] := by
  obtain ⟨h1, h2⟩ := awk_rules
  have he : dbE awkR (awkP 10 20) = 0 := by unfold dbE; rw [if_pos h1, if_pos h2]
  refine ⟨he, ?_⟩
  have hs : seaB 101 1231 100 = true := by rw [sea_is (y := 0) (m := 4) (d := 10) (by decide) (by decide)]; decide
  have hk : lnK ⟨4, [⟨10, 0, 0⟩], 101, 1231, 2⟩ (awkP 10 20) ⟨4, 3, 9, []⟩ = [3] := by
    unfold lnK kdS
    rw [show (⟨4, [⟨10, 0, 0⟩], 101, 1231, 2⟩ : Rl).fr = 101 from rfl, show (⟨4, [⟨10, 0, 0⟩], 101, 1231, 2⟩ : Rl).to = 1231 from rfl, show (awkP 10 20).nt = 100 from rfl, hs]
    have h3 : kdP ⟨4, [⟨10, 0, 0⟩], 101, 1231, 2⟩ (pgSq (awkP 10 20)) = false := by decide +kernel
    have h4 : kdM ⟨4, [⟨10, 0, 0⟩], 101, 1231, 2⟩ (⟨4, 3, 9, []⟩ : Ln).lo = true := by decide +kernel
    rw [h3, h4]
    rfl
  have a1 : lnD awkR (awkP 10 20) 0 ⟨4, 3, 9, []⟩ = [(0, 0, 3)] := by
    unfold lnD
    rw [show ixF (rlN awkR) (⟨4, 3, 9, []⟩ : Ln).nm = some 0 from by decide +kernel]
    simp only
    rw [show awkR[0]? = some ⟨4, [⟨10, 0, 0⟩], 101, 1231, 2⟩ from rfl]
    simp only
    rw [hk]
    rfl
  have a2 : lnD awkR (awkP 10 20) 1 ⟨8, 5, 5, [3, 1]⟩ = [] := by
    unfold lnD
    rw [show ixF (rlN awkR) (⟨8, 5, 5, [3, 1]⟩ : Ln).nm = none from by decide +kernel]
  unfold dbF
  rw [if_pos he]
  rw [show (awkP 10 20).ls.length = 1 + 1 from rfl, db_next (i := 1) (x := ⟨8, 5, 5, [3, 1]⟩) rfl, show (1 : Nat) = 0 + 1 from rfl, db_next (i := 0) (x := ⟨4, 3, 9, []⟩) rfl, a1, a2]
  rfl
end Go.Sh
namespace Go.Proofs.YtijidcigfdblaaaGreatDoor
open Go.RowKit Go.Nm Go.Sh Go.Plc

set_option maxRecDepth 100000 in
set_option maxHeartbeats 8000000 in
theorem sample_any (lo hi : Int) (w : World) : Calls Tryz.prog 66 #[.agg #[.int .i64 lo, .int .i64 hi]] w fun e w' => (∃ v, e = .returned v ∧ PgV w' v (awkP lo hi)) ∧ Below w.heap.size w w' := by
  have b1 := below_new (w := w) (.cells #[.int .i64 lo, .int .i64 hi] 25)
  have n1 := World.alloc_heap_new w (.cells #[.int .i64 lo, .int .i64 hi] 25)
  obtain ⟨X1, hX1⟩ : ∃ X, w.alloc (.cells #[.int .i64 lo, .int .i64 hi] 25) = X := ⟨_, rfl⟩
  have z1 : X1.heap.size = w.heap.size + 1 := by rw [← hX1]; simp
  rw [hX1] at b1 n1
  have b2 := below_new (w := X1) (.cells pgZ 28)
  have n2 := World.alloc_heap_new X1 (.cells pgZ 28)
  obtain ⟨X2, hX2⟩ : ∃ X, X1.alloc (.cells pgZ 28) = X := ⟨_, rfl⟩
  have z2 : X2.heap.size = w.heap.size + 1 + 1 := by rw [← hX2]; simp [z1]
  rw [hX2] at b2 n2
  rw [z1] at n2
  have b3 := below_new (w := X2) (.cells #[.int .i64 3, .int .i64 1] 3)
  have n3 := World.alloc_heap_new X2 (.cells #[.int .i64 3, .int .i64 1] 3)
  obtain ⟨X3, hX3⟩ : ∃ X, X2.alloc (.cells #[.int .i64 3, .int .i64 1] 3) = X := ⟨_, rfl⟩
  have z3 : X3.heap.size = w.heap.size + 1 + 1 + 1 := by rw [← hX3]; simp [z2]
  rw [hX3] at b3 n3
  rw [z2] at n3
  have b4 := below_new (w := X3) (.cells #[.int .i64 4, .int .i64 3, .int .i64 9, .slice none 0 0, .int .i64 8, .int .i64 5, .int .i64 5, .slice (some ⟨w.heap.size + 1 + 1, 0, none⟩) 2 2] 83)
  have n4 := World.alloc_heap_new X3 (.cells #[.int .i64 4, .int .i64 3, .int .i64 9, .slice none 0 0, .int .i64 8, .int .i64 5, .int .i64 5, .slice (some ⟨w.heap.size + 1 + 1, 0, none⟩) 2 2] 83)
  obtain ⟨X4, hX4⟩ : ∃ X, X3.alloc (.cells #[.int .i64 4, .int .i64 3, .int .i64 9, .slice none 0 0, .int .i64 8, .int .i64 5, .int .i64 5, .slice (some ⟨w.heap.size + 1 + 1, 0, none⟩) 2 2] 83) = X := ⟨_, rfl⟩
  rw [hX4] at b4 n4
  rw [z3] at n4
  have z4 : X4.heap.size = w.heap.size + 4 := by rw [← hX4]; simp [z3]
  have hb4 : Below w.heap.size w X4 := b1.trans ((b2.trans ((b3.trans (b4.mono b3.size)).mono b2.size)).mono b1.size)
  have m1 := (b4.block _ (by omega)).trans ((b3.block _ (by omega)).trans ((b2.block _ (by omega)).trans n1))
  have m2 := (b4.block _ (by omega)).trans ((b3.block _ (by omega)).trans n2)
  have m3 := (b4.block _ (by omega)).trans n3
  obtain ⟨Y, hY⟩ : ∃ Y, put10 X4 (w.heap.size + 1) (awkP lo hi) (.slice (some ⟨w.heap.size + 1 + 1 + 1, 0, none⟩) 2 2) = Y := ⟨_, rfl⟩
  have yo : ∀ k, k ≠ w.heap.size + 1 → Y.heap[k]? = X4.heap[k]? := fun k hk => by rw [← hY]; exact put10_other hk _ _
  have ys : Y.heap.size = w.heap.size + 4 := by rw [← hY, put10_size, z4]
  have y2 : Y.heap[w.heap.size + 1]? = some (.cells (pgC (awkP lo hi) (.slice (some ⟨w.heap.size + 1 + 1 + 1, 0, none⟩) 2 2)) 28) := by rw [← hY]; exact put10_heap m2
  have hbY : Below w.heap.size w Y := by rw [← hY]; exact put10_below hb4 (by omega) _ _
  have q3 := (yo (w.heap.size + 1 + 1) (by omega)).trans m3
  have q4 := (yo (w.heap.size + 1 + 1 + 1) (by omega)).trans n4
  have hsl : LnSl Y Y.heap.size (.slice (some ⟨w.heap.size + 1 + 1 + 1, 0, none⟩) 2 2) (awkP lo hi).ls := by
    refine ⟨_, _, rfl, fun i x hx => ?_⟩
    have hi2 : i < 2 := (List.getElem?_eq_some_iff.1 hx).1
    rcases (show i = 0 ∨ i = 1 by omega) with rfl | rfl
    · have hx2 : (⟨4, 3, 9, []⟩ : Ln) = x := by injection hx
      subst hx2
      refine ⟨_, .slice none 0 0, rfl, by rw [ys]; show w.heap.size + 3 < w.heap.size + 4; omega, ?_, ?_, ?_, ?_, InSl.nil _ _⟩ <;> rw [add_zeroB] <;> simp [World.cell?, q4]
    · have hx2 : (⟨8, 5, 5, [3, 1]⟩ : Ln) = x := by injection hx
      subst hx2
      refine ⟨_, .slice (some ⟨w.heap.size + 1 + 1, 0, none⟩) 2 2, rfl, by rw [ys]; show w.heap.size + 3 < w.heap.size + 4; omega, ?_, ?_, ?_, ?_, ⟨_, _, rfl, Nat.le_refl _, by unfold maxLen; omega, fun j y hy => ?_⟩⟩
      · rw [add_zeroB]; simp [World.cell?, q4]
      · rw [add_zeroB]; simp [World.cell?, q4]
      · rw [add_zeroB]; simp [World.cell?, q4]
      · rw [add_zeroB]; simp [World.cell?, q4]
      · have hj : j < 2 := (List.getElem?_eq_some_iff.1 hy).1
        refine ⟨_, rfl, by rw [ys]; show w.heap.size + 2 < w.heap.size + 4; omega, ?_⟩
        rcases (show j = 0 ∨ j = 1 by omega) with rfl | rfl
        · have e : (3 : Int) = y := by injection hy
          subst e
          rw [add_zeroB]; simp [World.cell?, q3]
        · have e : (1 : Int) = y := by injection hy
          subst e
          rw [add_zeroB]; simp [World.cell?, q3]
  obtain ⟨c0, c1⟩ := cells_two n1
  obtain ⟨s0, s1⟩ := cells_two m1
  obtain ⟨s0', s1'⟩ := cells_two ((b2.block _ (by omega)).trans n1)
  obtain ⟨j0, j1, j2, j3, j4, j5, j6, j7, j8, j9⟩ := pg_cells (p := pg0) (vl := .slice none 0 0) m2
  have f0 := frozen_cells m2 0
  have f1 := frozen_cells m2 1
  have f2 := frozen_cells m2 2
  have f3 := frozen_cells m2 3
  have f4 := frozen_cells m2 4
  have f5 := frozen_cells m2 5
  have f6 := frozen_cells m2 6
  have f7 := frozen_cells m2 7
  have f8 := frozen_cells m2 8
  have f9 := frozen_cells m2 9
  obtain ⟨r0, r1, r2, r3, r4, r5, r6, r7, r8, r9⟩ := pg_cells y2
  have HF := Lib.hid (And.intro hsl hbY)
  unfold put10 awkP at hY
  unfold pgZ at hX2
  clear b1 n1 b2 n2 b3 n3 b4 n4 hb4 m1 m2 m3 yo ys y2 hbY q3 q4 hsl z4
  go_enter Tryz.func66, Tryz.ntmps66
  go_wp2_with fail
  refine bodyPost_ret (v := pgV (awkP lo hi) (.slice (some ⟨w.heap.size + 1 + 1 + 1, 0, none⟩) 2 2)) (by simp [results, Tryz.results66, go_sem, r0, r1, r2, r3, r4, r5, r6, r7, r8, r9, pgV]) rfl ?_
  exact ⟨⟨_, rfl, _, rfl, HF.out.1⟩, HF.out.2⟩
end Go.Proofs.YtijidcigfdblaaaGreatDoor
