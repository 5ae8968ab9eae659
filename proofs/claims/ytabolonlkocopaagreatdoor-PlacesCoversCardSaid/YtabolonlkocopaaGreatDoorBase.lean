
/- Arithmetic contracts of the calendar's small functions. No conditions beyond the bounds in each statement. -/
import Derived.Test.YtabolonlkocopaaGreatDoorProg
import Derived.WalkKit
import Derived.WalkSpells
import Derived.WalkLawsBesides
import Derived.Deep.QuietTactic
import Derived.BigQuiet
import Derived.IntWalk
import Derived.Outline
import Derived.Lib.Hide
import Derived.Test.YtabolonlkocopaaGreatDoorCld
namespace Go.Proofs.YtabolonlkocopaaGreatDoor
open Go.RowKit Go.Plc

theorem ret_b {a b : Bool} (h : a = b) : Ending.returned (.bool a) = .returned (.bool b) := by rw [h]
theorem ret_v {a b : Value} (h : a = b) : Ending.returned a = .returned b := by rw [h]
theorem quiet_l {P : Program} {f : FuncId} {args : Array Value} {w : World} {n : Nat} {v : Value}
    (h : Calls P f args (w.drewN n) fun e w' => e = .returned v ∧ w.drewN n = w') : Calls P f args (w.drewN n) fun e w'' => e = .returned v ∧ ∃ m, w'' = w.drewN m :=
  h.mono fun _ _ ⟨he, hm⟩ => ⟨he, n, hm.symm⟩
theorem quiet_al {P : Program} {f : FuncId} {args : Array Value} {w : World} {a n : Nat} {v : Value}
    (h : Calls P f args (w.drewN (a + n)) fun e w' => e = .returned v ∧ w.drewN (a + n) = w') :
    Calls P f args (w.drewN (a + n)) fun e w'' => e = .returned v ∧ ∃ m, w'' = w.drewN (a + m) :=
  h.mono fun _ _ ⟨he, hm⟩ => ⟨he, n, hm.symm⟩
theorem below_drewN {B : Nat} {a w : World} (h : Below B a w) (n : Nat) : Below B a (w.drewN n) := ⟨h.os, h.tape, h.output, h.size, h.block⟩
theorem below_new {w : World} (o : Obj) : Below w.heap.size w (w.alloc o) := (Below.refl _ _).alloc (Nat.le_refl _) _
theorem box_at {w w1 : World} {cs : Array Value} {t : TypeId} (hb : Below (w.alloc (.cells cs t)).heap.size (w.alloc (.cells cs t)) w1) :
    (∀ i, w1.cell? ⟨w.heap.size, i, none⟩ = cs[i]?) ∧ (∀ i, w1.frozen? ⟨w.heap.size, i, none⟩ = false) ∧ Below w.heap.size w w1 ∧ w.heap.size < w1.heap.size := by
  refine ⟨fun i => ?_, fun i => ?_, (below_new _).trans (hb.mono (by simp)), by have := hb.size; simp at this; omega⟩
  · rw [hb.cell (p := ⟨w.heap.size, i, none⟩) (by simp), World.cell?_alloc_new]
  · rw [hb.frozen (p := ⟨w.heap.size, i, none⟩) (by simp), World.frozen?_alloc_new]
/-- the cells of a boxed struct of three fields, behind a call -/
theorem box3 {w w1 : World} {a b c : Value} {t : TypeId} (hb : Below (w.alloc (.cells #[a, b, c] t)).heap.size (w.alloc (.cells #[a, b, c] t)) w1) :
    w1.cell? ⟨w.heap.size, 0, none⟩ = some a ∧ w1.cell? ⟨w.heap.size, 1, none⟩ = some b ∧ w1.cell? ⟨w.heap.size, 2, none⟩ = some c ∧ Below w.heap.size w w1 ∧ w.heap.size < w1.heap.size := by
  obtain ⟨h1, _, h3, h4⟩ := box_at hb
  exact ⟨h1 0, h1 1, h1 2, h3, h4⟩
theorem ret_ii {k k' : IntKind} {a a' b b' : Int} (h : a = a') (h' : b = b') : Ending.returned (.tuple #[.int k a, .int k' b]) = .returned (.tuple #[.int k a', .int k' b']) := by rw [h, h']
theorem ret_bi {k' : IntKind} {a a' : Bool} {b b' : Int} (h : a = a') (h' : b = b') : Ending.returned (.tuple #[.bool a, .int k' b]) = .returned (.tuple #[.bool a', .int k' b']) := by rw [h, h']
theorem ret_i {k : IntKind} {a b : Int} (h : a = b) : Ending.returned (.int k a) = .returned (.int k b) := by rw [h]

set_option maxHeartbeats 400000 in
theorem leap_any (y : Int) (w : World) (h0 : 0 ≤ y) (h1 : y ≤ 1000000) :
    Calls Tryz.prog 110 #[.int .i64 y] w fun e w' => e = .returned (.bool (leapB y)) ∧ w = w' := by
  have hb : leapB y = (((2000 + y) % 4 == 0 && (2000 + y) % 100 != 0) || (2000 + y) % 400 == 0) := rfl
  have HB := Lib.hid hb
  clear hb
  cases a4 : ((2000 + y) % 4 == 0) <;> cases a1 : ((2000 + y) % 100 != 0) <;> cases a0 : ((2000 + y) % 400 == 0)
  all_goals
    go_enter Tryz.func110, Tryz.ntmps110
    go_wp2
    go_ret
    exact ⟨ret_b (by rw [HB.out, a4, a1, a0]; rfl), rfl⟩

set_option maxHeartbeats 400000 in
theorem rleap_any (y : Int) (w : World) (h0 : 0 ≤ y) (h1 : y ≤ 1000000) :
    Calls Tryz.prog 106 #[.int .i64 y] w fun e w' => e = .returned (.bool (leapB y)) ∧ w = w' := by
  have hb : leapB y = (((2000 + y) % 4 == 0 && (2000 + y) % 100 != 0) || (2000 + y) % 400 == 0) := rfl
  have HB := Lib.hid hb
  clear hb
  cases a4 : ((2000 + y) % 4 == 0) <;> cases a1 : ((2000 + y) % 100 != 0) <;> cases a0 : ((2000 + y) % 400 == 0)
  all_goals
    go_enter Tryz.func106, Tryz.ntmps106
    go_wp2
    go_ret
    exact ⟨ret_b (by rw [HB.out, a4, a1, a0]; rfl), rfl⟩

set_option maxHeartbeats 400000 in
theorem daysOfYear_any (y : Int) (w : World) (h0 : 0 ≤ y) (h1 : y ≤ 1000000) :
    Calls Tryz.prog 83 #[.int .i64 y] w fun e w' => e = .returned (.int .i64 (doy y)) ∧ w = w' := by
  have HB := Lib.hid (show doy y = if leapB y = true then 366 else 365 from rfl)
  cases hl : leapB y
  all_goals
    have HL := Lib.hid hl
    clear hl
    have HC := fun w => (leap_any y w h0 h1)
    rw [HL.out] at HC
    go_enter Tryz.func83, Tryz.ntmps83
    go_wp2_with (go_at_call 110; refine (HC _).mono ?_; rintro e w' ⟨rfl, rfl⟩)
    go_ret
    exact ⟨ret_i (by rw [HB.out, HL.out]; rfl), rfl⟩

/-- the table of the days of the months, as it is laid -/
def MonthDays (w : World) : Prop := ∀ m : Nat, m < 12 → w.cell? ⟨0, m, none⟩ = some (.int .i64 (domL true (m + 1)))

set_option maxHeartbeats 400000 in
theorem daysOfMonth_any (y m : Int) (w : World) (hM : MonthDays w) (h0 : 0 ≤ y) (h1 : y ≤ 1000000) (hm1 : 1 ≤ m) (hm2 : m ≤ 12) :
    Calls Tryz.prog 84 #[.int .i64 y, .int .i64 m] w fun e w' => e = .returned (.int .i64 (dom y m)) ∧ w = w' := by
  have HB := Lib.hid (show dom y m = domL (leapB y) m from rfl)
  have hc := hM (m.toNat - 1) (by omega)
  cases e2 : (m == 2)
  · have HE := Lib.hid (show domL true (((m.toNat - 1 : Nat) : Int) + 1) = domL (leapB y) m by
      rw [show ((m.toNat - 1 : Nat) : Int) + 1 = m by omega]; unfold domL
      have : m ≠ 2 := by simpa using e2
      simp [this])
    generalize domL true (((m.toNat - 1 : Nat) : Int) + 1) = v at hc HE
    clear hM
    go_enter Tryz.func84, Tryz.ntmps84
    go_wp2_with fail
    go_ret
    exact ⟨ret_i (by rw [HB.out, HE.out]), rfl⟩
  · obtain rfl : m = 2 := by simpa using e2
    clear hM
    have hc' : w.cell? ⟨0, 1, none⟩ = some (.int .i64 29) := hc
    clear hc e2
    cases hl : leapB y
    all_goals
      have HL := Lib.hid hl
      clear hl
      have HC := fun w => (leap_any y w h0 h1)
      rw [HL.out] at HC
      go_enter Tryz.func84, Tryz.ntmps84
      go_wp2_with (go_at_call 110; refine (HC _).mono ?_; rintro e w' ⟨rfl, rfl⟩)
      go_ret
      exact ⟨ret_i (by rw [HB.out, HL.out]; rfl), rfl⟩
end Go.Proofs.YtabolonlkocopaaGreatDoor
