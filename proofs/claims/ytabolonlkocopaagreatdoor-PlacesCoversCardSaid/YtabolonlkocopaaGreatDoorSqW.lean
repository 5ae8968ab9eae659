
/- Squares: what the small functions on one square return. -/
import Derived.Test.YtabolonlkocopaaGreatDoorBase
import Derived.Test.YtabolonlkocopaaGreatDoorSqM
import Derived.Sort.Grow
namespace Go.Proofs.YtabolonlkocopaaGreatDoor
open Go.RowKit Go.Plc

/-- the value of a square -/
def sqv (s : Sq) : Value := .agg #[.int .i64 s.l, .int .i64 s.x, .int .i64 s.y]
def I64 (a : Int) : Prop := -9223372036854775808 ≤ a ∧ a ≤ 9223372036854775807

theorem pow_bd (l : Int) (h0 : 0 ≤ l) : 1 ≤ (2 : Int) ^ (10 - l).toNat ∧ (2 : Int) ^ (10 - l).toNat ≤ 1024 := ⟨side_pos l, side_le l h0⟩

set_option maxHeartbeats 400000 in
theorem ValidSquare_any (l x y : Int) (w : World) :
    Calls Tryz.prog 38 #[.agg #[.int .i64 l, .int .i64 x, .int .i64 y]] w fun e w' => e = .returned (.bool (Sq.okB ⟨l, x, y⟩)) ∧ Below w.heap.size w w' := by
  have HV := Lib.hid (Sq.okB_iff ⟨l, x, y⟩)
  by_cases hl : 0 ≤ l ∧ l ≤ 10
  · obtain ⟨h1, h2⟩ := hl
    obtain ⟨p1, p2⟩ := pow_bd l h1
    go_enter Tryz.func38, Tryz.ntmps38
    go_wp2_with fail
    all_goals
      go_ret
      exact ⟨ret_b (by rw [Bool.eq_iff_iff, HV.out]; simp; unfold sideOf; omega), below_new _⟩
  · have HF := Lib.hid (show Sq.okB ⟨l, x, y⟩ = false by
      cases h : Sq.okB ⟨l, x, y⟩
      · rfl
      · exact absurd (by have := HV.out.1 h; simp at this; omega) hl)
    go_enter Tryz.func38, Tryz.ntmps38
    go_wp2_with fail
    all_goals
      go_ret
      exact ⟨ret_b (by rw [HF.out]), below_new _⟩

set_option maxHeartbeats 400000 in
theorem blur_any (s : Sq) (L : Int) (w : World) (h0 : 0 ≤ s.l) (h1 : s.l ≤ L) (h2 : L ≤ 10) :
    Calls Tryz.prog 94 #[sqv s, .int .i64 L] w fun e w' => e = .returned (sqv (blurS s L)) ∧ Below w.heap.size w w' := by
  unfold sqv blurS
  go_enter Tryz.func94, Tryz.ntmps94
  go_wp2_with fail
  go_region
  go_wp2_with fail
  refine bodyPost_ret (v := .agg #[.int .i64 L, .int .i64 (s.x / 2 ^ (L - s.l).toNat), .int .i64 (s.y / 2 ^ (L - s.l).toNat)]) (by simp [results, Tryz.results94, go_sem]) rfl ⟨rfl, ?_⟩
  (repeat (first | exact Below.refl _ _ | refine Below.drew ?_ | refine below_drewN ?_ _ | refine Below.alloc ?_ (by simp; try omega) _ | refine Below.setCell ?_ (by simp; try omega) _))

def cmpI (a b : Int) : Int := if a < b then -1 else if b < a then 1 else 0

set_option maxHeartbeats 400000 in
theorem compare_any (a b : Int) (w : World) :
    Calls Tryz.prog 93 #[.int .i64 a, .int .i64 b] w fun e w' => e = .returned (.int .i64 (cmpI a b)) ∧ w = w' := by
  have HC := Lib.hid (show cmpI a b = if a < b then -1 else if b < a then 1 else 0 from rfl)
  have na : (a != a) = false := by simp
  have nb : (b != b) = false := by simp
  rcases Int.lt_trichotomy a b with h | h | h
  · go_enter Tryz.func93, Tryz.ntmps93
    go_wp2
    go_ret
    exact ⟨ret_i (by rw [HC.out, if_pos h]), rfl⟩
  · subst h
    go_enter Tryz.func93, Tryz.ntmps93
    go_wp2
    go_ret
    exact ⟨ret_i (by rw [HC.out]; simp), rfl⟩
  · go_enter Tryz.func93, Tryz.ntmps93
    go_wp2
    go_ret
    exact ⟨ret_i (by rw [HC.out, if_neg (by omega), if_pos h]), rfl⟩

set_option maxHeartbeats 400000 in
theorem order_lays (a b : Sq) (w : World) :
    Calls Tryz.prog 46 #[sqv a, sqv b] w fun e w' => e = .returned (.int .i64 (cmpS a b)) ∧ ∃ q os, w' = Sort.grow (w.drewN q) os := by
  have HC := Lib.hid (show cmpS a b = if a.l ≠ b.l then cmpI a.l b.l else if a.y ≠ b.y then cmpI a.y b.y else cmpI a.x b.x by
    unfold cmpS cmpI; repeat' split
    all_goals (try omega)
    all_goals (try simp_all)
    all_goals omega)
  unfold sqv
  obtain ⟨al, ax, ay⟩ := a
  obtain ⟨bl, bx, bY⟩ := b
  dsimp only at *
  cases h1 : (al != bl) <;> cases h2 : (ay != bY)
  all_goals
    go_enter Tryz.func46, Tryz.ntmps46
    go_wp2_with (go_at_call 93; refine (compare_any _ _ _).mono ?_; rintro e w' ⟨rfl, rfl⟩)
    go_ret
    refine ⟨ret_i ?_, 0, #[.cells #[.int .i64 al, .int .i64 ax, .int .i64 ay] 31, .cells #[.int .i64 bl, .int .i64 bx, .int .i64 bY] 31], ?_⟩
    · rw [HC.out]; simp at h1 h2; simp [h1, h2]
    · rw [Sort.alloc_eq_grow, Sort.alloc_eq_grow, Sort.grow_grow]; rfl

end Go.Proofs.YtabolonlkocopaaGreatDoor
