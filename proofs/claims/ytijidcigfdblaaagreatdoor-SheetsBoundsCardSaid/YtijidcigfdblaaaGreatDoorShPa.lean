/- What the calendar, squares and regions answer (as in layer 1). -/
import Derived.Test.YtijidcigfdblaaaGreatDoorProg
import Derived.Test.YtijidcigfdblaaaGreatDoorKyB
import Derived.WalkKit
import Derived.WalkSpells
import Derived.WalkLawsBesides
import Derived.Deep.QuietTactic
import Derived.BigQuiet
import Derived.IntWalk
import Derived.Outline
import Derived.Lib.Hide
import Derived.Sort.Grow
import Derived.Maps.OwnSet
import Derived.Maps.RangeWalk
import Derived.Maps.Ext
import Derived.DeepKeys5
import Derived.StillTailTactics
namespace Go.Plc

def leapB (y : Int) : Bool := ((2000 + y) % 4 == 0 && (2000 + y) % 100 != 0) || (2000 + y) % 400 == 0
def doy (y : Int) : Int := if leapB y = true then 366 else 365
def dby (y : Int) : Int := 365 * y + ((y + 3) / 4 - (y + 99) / 100 + (y + 399) / 400)
def domL (l : Bool) (m : Int) : Int := if m = 2 then (if l = true then 29 else 28) else if m = 4 ∨ m = 6 ∨ m = 9 ∨ m = 11 then 30 else 31
def dom (y m : Int) : Int := domL (leapB y) m
def lp (l : Bool) : Int := if l = true then 1 else 0
def cumL (l : Bool) (m : Int) : Int :=
  if m ≤ 1 then 0 else if m = 2 then 31 else if m = 3 then 59 + lp l else if m = 4 then 90 + lp l else if m = 5 then 120 + lp l else if m = 6 then 151 + lp l
  else if m = 7 then 181 + lp l else if m = 8 then 212 + lp l else if m = 9 then 243 + lp l else if m = 10 then 273 + lp l else if m = 11 then 304 + lp l else if m = 12 then 334 + lp l else 365 + lp l
def cum (y m : Int) : Int := cumL (leapB y) m
def num (y m d : Int) : Int := d - 1 + dby y + cum y m
def vdate (y m d : Int) : Bool := decide (0 ≤ y ∧ y ≤ 273 ∧ 1 ≤ m ∧ m ≤ 12 ∧ 1 ≤ d ∧ d ≤ dom y m)

theorem leapB_iff (y : Int) : leapB y = true ↔ ((2000 + y) % 4 = 0 ∧ (2000 + y) % 100 ≠ 0) ∨ (2000 + y) % 400 = 0 := by
  unfold leapB; simp
theorem doy_cases (y : Int) : (doy y = 365 ∨ doy y = 366) := by unfold doy; split <;> simp
theorem dby_succ (y : Int) : dby (y + 1) = dby y + doy y := by
  unfold doy dby
  by_cases h : leapB y = true
  · rw [if_pos h]; have h := (leapB_iff y).1 h; omega
  · rw [if_neg h]; have h := mt (leapB_iff y).2 h; omega
theorem dby_zero : dby 0 = 0 := by decide
theorem dby_mono {a b : Int} (h : a ≤ b) : dby a ≤ dby b := by unfold dby; omega
theorem dby_bd {a : Int} (h0 : 0 ≤ a) (h : a ≤ 274) : 0 ≤ dby a ∧ dby a ≤ 100077 := by unfold dby; omega
theorem dom_bd (y m : Int) : 28 ≤ dom y m ∧ dom y m ≤ 31 := by unfold dom domL; repeat' split <;> omega
theorem cum_succ (y m : Int) (h1 : 1 ≤ m) (h2 : m ≤ 12) : cum y (m + 1) = cum y m + dom y m := by
  have hm : m = 1 ∨ m = 2 ∨ m = 3 ∨ m = 4 ∨ m = 5 ∨ m = 6 ∨ m = 7 ∨ m = 8 ∨ m = 9 ∨ m = 10 ∨ m = 11 ∨ m = 12 := by omega
  rcases hm with rfl | rfl | rfl | rfl | rfl | rfl | rfl | rfl | rfl | rfl | rfl | rfl <;> unfold cum dom cumL domL lp <;> cases leapB y <;> decide
theorem cum_one (y : Int) : cum y 1 = 0 := by unfold cum cumL; rfl
theorem cum_13 (y : Int) : cum y 13 = doy y := by unfold cum cumL doy lp; cases leapB y <;> rfl
theorem cum_le (y m : Int) : 0 ≤ cum y m ∧ cum y m ≤ doy y := by unfold cum cumL doy lp; cases leapB y <;> simp <;> repeat' split <;> omega
theorem vdate_iff (y m d : Int) : vdate y m d = true ↔ 0 ≤ y ∧ y ≤ 273 ∧ 1 ≤ m ∧ m ≤ 12 ∧ 1 ≤ d ∧ d ≤ dom y m := by unfold vdate; simp
end Go.Plc
namespace Go.Proofs.YtijidcigfdblaaaGreatDoor
open Go.RowKit Go.Plc

theorem quiet_l {P : Program} {f : FuncId} {args : Array Value} {w : World} {n : Nat} {v : Value}
    (h : Calls P f args (w.drewN n) fun e w' => e = .returned v ∧ w.drewN n = w') : Calls P f args (w.drewN n) fun e w'' => e = .returned v ∧ ∃ m, w'' = w.drewN m :=
  h.mono fun _ _ ⟨he, hm⟩ => ⟨he, n, hm.symm⟩
theorem ret_bi {k' : IntKind} {a a' : Bool} {b b' : Int} (h : a = a') (h' : b = b') : Ending.returned (.tuple #[.bool a, .int k' b]) = .returned (.tuple #[.bool a', .int k' b']) := by rw [h, h']
set_option maxHeartbeats 400000 in
theorem leap_any (y : Int) (w : World) (h0 : 0 ≤ y) (h1 : y ≤ 1000000) :
    Calls Tryz.prog 272 #[.int .i64 y] w fun e w' => e = .returned (.bool (leapB y)) ∧ w = w' := by
  have hb : leapB y = (((2000 + y) % 4 == 0 && (2000 + y) % 100 != 0) || (2000 + y) % 400 == 0) := rfl
  have HB := Lib.hid hb
  clear hb
  cases a4 : ((2000 + y) % 4 == 0) <;> cases a1 : ((2000 + y) % 100 != 0) <;> cases a0 : ((2000 + y) % 400 == 0)
  all_goals
    go_enter Tryz.func272, Tryz.ntmps272
    go_wp2
    go_ret
    exact ⟨ret_b (by rw [HB.out, a4, a1, a0]; rfl), rfl⟩

set_option maxHeartbeats 400000 in
theorem daysOfYear_any (y : Int) (w : World) (h0 : 0 ≤ y) (h1 : y ≤ 1000000) :
    Calls Tryz.prog 250 #[.int .i64 y] w fun e w' => e = .returned (.int .i64 (doy y)) ∧ w = w' := by
  have HB := Lib.hid (show doy y = if leapB y = true then 366 else 365 from rfl)
  cases hl : leapB y
  all_goals
    have HL := Lib.hid hl
    clear hl
    have HC := fun w => (leap_any y w h0 h1)
    rw [HL.out] at HC
    go_enter Tryz.func250, Tryz.ntmps250
    go_wp2_with (go_at_call 272; refine (HC _).mono ?_; rintro e w' ⟨rfl, rfl⟩)
    go_ret
    exact ⟨ret_i (by rw [HB.out, HL.out]; rfl), rfl⟩

/-- the table of the days of the months, as it is laid -/
def MonthDays (w : World) : Prop := ∀ m : Nat, m < 12 → w.cell? ⟨1, m, none⟩ = some (.int .i64 (domL true (m + 1)))

set_option maxHeartbeats 400000 in
theorem daysOfMonth_any (y m : Int) (w : World) (hM : MonthDays w) (h0 : 0 ≤ y) (h1 : y ≤ 1000000) (hm1 : 1 ≤ m) (hm2 : m ≤ 12) :
    Calls Tryz.prog 251 #[.int .i64 y, .int .i64 m] w fun e w' => e = .returned (.int .i64 (dom y m)) ∧ w = w' := by
  have HB := Lib.hid (show dom y m = domL (leapB y) m from rfl)
  have hc := hM (m.toNat - 1) (by omega)
  cases e2 : (m == 2)
  · have HE := Lib.hid (show domL true (((m.toNat - 1 : Nat) : Int) + 1) = domL (leapB y) m by
      rw [show ((m.toNat - 1 : Nat) : Int) + 1 = m by omega]; unfold domL
      have : m ≠ 2 := by simpa using e2
      simp [this])
    generalize domL true (((m.toNat - 1 : Nat) : Int) + 1) = v at hc HE
    clear hM
    go_enter Tryz.func251, Tryz.ntmps251
    go_wp2_with fail
    go_ret
    exact ⟨ret_i (by rw [HB.out, HE.out]), rfl⟩
  · obtain rfl : m = 2 := by simpa using e2
    clear hM
    have hc' : w.cell? ⟨1, 1, none⟩ = some (.int .i64 29) := hc
    clear hc e2
    cases hl : leapB y
    all_goals
      have HL := Lib.hid hl
      clear hl
      have HC := fun w => (leap_any y w h0 h1)
      rw [HL.out] at HC
      go_enter Tryz.func251, Tryz.ntmps251
      go_wp2_with (go_at_call 272; refine (HC _).mono ?_; rintro e w' ⟨rfl, rfl⟩)
      go_ret
      exact ⟨ret_i (by rw [HB.out, HL.out]; rfl), rfl⟩
end Go.Proofs.YtijidcigfdblaaaGreatDoor
namespace Go.Plc

structure Sq where
  l : Int
  x : Int
  y : Int
deriving DecidableEq, Repr

def sideOf (l : Int) : Int := 2 ^ (10 - l).toNat
def Sq.okB (s : Sq) : Bool := decide (0 ≤ s.l ∧ s.l ≤ 10 ∧ 0 ≤ s.x ∧ s.x < sideOf s.l ∧ 0 ≤ s.y ∧ s.y < sideOf s.l)
theorem Sq.okB_iff (s : Sq) : s.okB = true ↔ 0 ≤ s.l ∧ s.l ≤ 10 ∧ 0 ≤ s.x ∧ s.x < sideOf s.l ∧ 0 ≤ s.y ∧ s.y < sideOf s.l := by unfold Sq.okB; simp
def blurS (s : Sq) (L : Int) : Sq := ⟨L, s.x / 2 ^ (L - s.l).toNat, s.y / 2 ^ (L - s.l).toNat⟩
def withinS (a b : Sq) : Bool := decide (a.l ≤ b.l) && decide (blurS a b.l = b)
def kidsS (s : Sq) : List Sq := [⟨s.l - 1, 2 * s.x, 2 * s.y⟩, ⟨s.l - 1, 2 * s.x + 1, 2 * s.y⟩, ⟨s.l - 1, 2 * s.x, 2 * s.y + 1⟩, ⟨s.l - 1, 2 * s.x + 1, 2 * s.y + 1⟩]
def aheadB (a b : Sq) : Bool := if a.l ≠ b.l then decide (a.l < b.l) else if a.y ≠ b.y then decide (a.y < b.y) else decide (a.x < b.x)
def cmpS (a b : Sq) : Int := if a.l ≠ b.l then (if a.l < b.l then -1 else 1) else if a.y ≠ b.y then (if a.y < b.y then -1 else 1) else if a.x < b.x then -1 else if a.x = b.x then 0 else 1

theorem side_pos (l : Int) : 1 ≤ sideOf l := by
  unfold sideOf
  have : (0 : Int) < 2 ^ (10 - l).toNat := Int.pow_pos (by decide)
  omega
theorem side_eq (l : Int) (h0 : 0 ≤ l) (h1 : l ≤ 10) :
    sideOf l = if l = 0 then 1024 else if l = 1 then 512 else if l = 2 then 256 else if l = 3 then 128 else if l = 4 then 64 else if l = 5 then 32 else if l = 6 then 16 else if l = 7 then 8 else if l = 8 then 4 else if l = 9 then 2 else 1 := by
  have hl : l = 0 ∨ l = 1 ∨ l = 2 ∨ l = 3 ∨ l = 4 ∨ l = 5 ∨ l = 6 ∨ l = 7 ∨ l = 8 ∨ l = 9 ∨ l = 10 := by omega
  rcases hl with rfl | rfl | rfl | rfl | rfl | rfl | rfl | rfl | rfl | rfl | rfl <;> decide
theorem side_le (l : Int) (h0 : 0 ≤ l) : sideOf l ≤ 1024 := by
  by_cases h : l ≤ 10
  · rw [side_eq l h0 h]; repeat' split
    all_goals omega
  · unfold sideOf; rw [show (10 - l).toNat = 0 by omega]; decide
theorem cmp_lt (a b : Sq) : (cmpS a b < 0) ↔ aheadB a b = true := by
  unfold cmpS aheadB
  repeat' split
  all_goals simp_all
  all_goals omega
theorem Sq.ext3 {a b : Sq} (h1 : a.l = b.l) (h2 : a.x = b.x) (h3 : a.y = b.y) : a = b := by
  cases a; cases b; simp at *; exact ⟨h1, h2, h3⟩
/-! insertion sort: the one sorted list -/
/-! A set of squares is a list without repeats. -/
def addS (C : List Sq) (s : Sq) : List Sq := if s ∈ C then C else C ++ [s]
def dropS (C : List Sq) (s : Sq) : List Sq := C.filter fun t => !decide (t = s)
def ofList (l : List Sq) : List Sq := l.foldl addS []
def hasAroundS (C : List Sq) (s : Sq) : Bool := (List.range 11).any fun i => decide (s.l < (i : Int)) && decide (blurS s i ∈ C)
def parS (s : Sq) : Sq := blurS s (s.l + 1)
def leadsS (C : List Sq) (s : Sq) : Bool := !(decide (s.l = 10) || decide (s.x % 2 ≠ 0) || decide (s.y % 2 ≠ 0)) && (kidsS (parS s)).all fun k => decide (k ∈ C)
end Go.Plc
namespace Go.Proofs.YtijidcigfdblaaaGreatDoor
open Go.RowKit Go.Plc

/-- the value of a square -/
def sqv (s : Sq) : Value := .agg #[.int .i64 s.l, .int .i64 s.x, .int .i64 s.y]
theorem pow_bd (l : Int) (h0 : 0 ≤ l) : 1 ≤ (2 : Int) ^ (10 - l).toNat ∧ (2 : Int) ^ (10 - l).toNat ≤ 1024 := ⟨side_pos l, side_le l h0⟩

set_option maxHeartbeats 400000 in
theorem ValidSquare_any (l x y : Int) (w : World) :
    Calls Tryz.prog 138 #[.agg #[.int .i64 l, .int .i64 x, .int .i64 y]] w fun e w' => e = .returned (.bool (Sq.okB ⟨l, x, y⟩)) ∧ Below w.heap.size w w' := by
  have HV := Lib.hid (Sq.okB_iff ⟨l, x, y⟩)
  by_cases hl : 0 ≤ l ∧ l ≤ 10
  · obtain ⟨h1, h2⟩ := hl
    obtain ⟨p1, p2⟩ := pow_bd l h1
    go_enter Tryz.func138, Tryz.ntmps138
    go_wp2_with fail
    all_goals
      go_ret
      exact ⟨ret_b (by rw [Bool.eq_iff_iff, HV.out]; simp; unfold sideOf; omega), below_new _⟩
  · have HF := Lib.hid (show Sq.okB ⟨l, x, y⟩ = false by
      cases h : Sq.okB ⟨l, x, y⟩
      · rfl
      · exact absurd (by have := HV.out.1 h; simp at this; omega) hl)
    go_enter Tryz.func138, Tryz.ntmps138
    go_wp2_with fail
    all_goals
      go_ret
      exact ⟨ret_b (by rw [HF.out]), below_new _⟩

set_option maxHeartbeats 400000 in
theorem blur_any (s : Sq) (L : Int) (w : World) (h0 : 0 ≤ s.l) (h1 : s.l ≤ L) (h2 : L ≤ 10) :
    Calls Tryz.prog 228 #[sqv s, .int .i64 L] w fun e w' => e = .returned (sqv (blurS s L)) ∧ Below w.heap.size w w' := by
  unfold sqv blurS
  go_enter Tryz.func228, Tryz.ntmps228
  go_wp2_with fail
  go_region
  go_wp2_with fail
  refine bodyPost_ret (v := .agg #[.int .i64 L, .int .i64 (s.x / 2 ^ (L - s.l).toNat), .int .i64 (s.y / 2 ^ (L - s.l).toNat)]) (by simp [results, Tryz.results228, go_sem]) rfl ⟨rfl, ?_⟩
  (repeat (first | exact Below.refl _ _ | refine Below.drew ?_ | refine below_drewN ?_ _ | refine Below.alloc ?_ (by simp; try omega) _ | refine Below.setCell ?_ (by simp; try omega) _))

def cmpI (a b : Int) : Int := if a < b then -1 else if b < a then 1 else 0

set_option maxHeartbeats 400000 in
theorem compare_any (a b : Int) (w : World) :
    Calls Tryz.prog 137 #[.int .i64 a, .int .i64 b] w fun e w' => e = .returned (.int .i64 (cmpI a b)) ∧ w = w' := by
  have HC := Lib.hid (show cmpI a b = if a < b then -1 else if b < a then 1 else 0 from rfl)
  have na : (a != a) = false := by simp
  have nb : (b != b) = false := by simp
  rcases Int.lt_trichotomy a b with h | h | h
  · go_enter Tryz.func137, Tryz.ntmps137
    go_wp2
    go_ret
    exact ⟨ret_i (by rw [HC.out, if_pos h]), rfl⟩
  · subst h
    go_enter Tryz.func137, Tryz.ntmps137
    go_wp2
    go_ret
    exact ⟨ret_i (by rw [HC.out]; simp), rfl⟩
  · go_enter Tryz.func137, Tryz.ntmps137
    go_wp2
    go_ret
    exact ⟨ret_i (by rw [HC.out, if_neg (by omega), if_pos h]), rfl⟩

set_option maxHeartbeats 400000 in
theorem order_lays (a b : Sq) (w : World) :
    Calls Tryz.prog 179 #[sqv a, sqv b] w fun e w' => e = .returned (.int .i64 (cmpS a b)) ∧ ∃ q os, w' = Sort.grow (w.drewN q) os := by
  have HC := Lib.hid (show cmpS a b = if a.l ≠ b.l then cmpI a.l b.l else if a.y ≠ b.y then cmpI a.y b.y else cmpI a.x b.x by
    unfold cmpS cmpI; repeat' split
    all_goals (try omega)
    all_goals (try simp_all)
    all_goals omega)
  unfold sqv
  obtain ⟨al, ax, ay⟩ := a
  obtain ⟨bl, bx, bY⟩ := b
  dsimp only at *
  cases h1 : (al != bl) <;> cases h2 : (ay != bY)
  all_goals
    go_enter Tryz.func179, Tryz.ntmps179
    go_wp2_with (go_at_call 137; refine (compare_any _ _ _).mono ?_; rintro e w' ⟨rfl, rfl⟩)
    go_ret
    refine ⟨ret_i ?_, 0, #[.cells #[.int .i64 al, .int .i64 ax, .int .i64 ay] 23, .cells #[.int .i64 bl, .int .i64 bx, .int .i64 bY] 23], ?_⟩
    · rw [HC.out]; simp at h1 h2; simp [h1, h2]
    · rw [Sort.alloc_eq_grow, Sort.alloc_eq_grow, Sort.grow_grow]; rfl

end Go.Proofs.YtijidcigfdblaaaGreatDoor
namespace Go.Proofs.YtijidcigfdblaaaGreatDoor
open Go.RowKit Go.Plc

theorem laidOutP : laidOutB Tryz.prog = true := by kernel_rfl
set_option maxRecDepth 100000 in
theorem sqSmall : Tryz.prog.types.size + 2 ≤ 10000 := of_decide_eq_true (by kernel_rfl)
theorem sqRow : (23 : TypeId) < Tryz.prog.types.size := of_decide_eq_true (by kernel_rfl)
theorem sqKey : Tryz.prog.keyType 23 = true := by kernel_rfl
set_option maxRecDepth 100000 in
theorem sqWide : (match Tryz.prog.underlying 23 with | some (.array _ _) | some (.struct _) => true | _ => false) = true := by rw [Tryz.underlying23]
set_option maxRecDepth 100000 in
theorem KSq : Maps.Keyed Tryz.prog 23 := Maps.Keyed.of_law (deep_law_gate laidOutP sqSmall sqRow sqKey sqWide)
theorem sqCells : Tryz.prog.cellsOf 23 = 3 := by kernel_rfl
theorem intCells : Tryz.prog.cellsOf 3 = 1 := by kernel_rfl

/-- its fields are integers of 64 bits -/
def SqFits (s : Sq) : Prop := (Lit.int .i64 s.l).wf = true ∧ (Lit.int .i64 s.x).wf = true ∧ (Lit.int .i64 s.y).wf = true
theorem keyLits_sq (s : Sq) (h : SqFits s) (m : Nat) : Tryz.prog.keyLits (m + 2) 23 [.int .i64 s.l, .int .i64 s.x, .int .i64 s.y] = some [.int .i64 s.l, .int .i64 s.x, .int .i64 s.y] := by
  obtain ⟨h1, h2, h3⟩ := h
  unfold Program.keyLits
  rw [Tryz.underlying23]
  have k1 : ∀ a : Int, (Lit.int .i64 a).wf = true → Tryz.prog.keyLits (m + 1) 3 [.int .i64 a] = some [.int .i64 a] := fun a ha => by
    unfold Program.keyLits
    rw [Tryz.underlying3]
    simp [ha]
  simp [sqCells, intCells, k1, h1, h2, h3]
theorem keyOf_sq (s : Sq) (h : SqFits s) : keyOf Tryz.prog 23 (sqv s) = some (.string (keyBytes [.int .i64 s.l, .int .i64 s.x, .int .i64 s.y])) := by
  have hf : (sqv s).formed Tryz.prog 23 = true := by
    unfold sqv
    simp [Value.formed, Tryz.underlying23, sqCells]
  obtain ⟨m, hm⟩ : ∃ m, Tryz.prog.types.size = m + 1 := ⟨Tryz.prog.types.size - 1, by have h : (23 : Nat) < Tryz.prog.types.size := sqRow; omega⟩
  unfold keyOf
  rw [Tryz.underlying23]
  have hl := keyLits_sq s h m
  rw [hm]
  simp [sqKey, hf]
  exact ⟨_, hl, rfl⟩
/-- the key of a square -/
def keyL (s : Sq) : Lit := .string (keyBytes [.int .i64 s.l, .int .i64 s.x, .int .i64 s.y])
theorem keyL_inj {s t : Sq} (hs : SqFits s) (ht : SqFits t) (h : keyL s = keyL t) : s = t := by
  have e := KSq.inj (keyOf_sq s hs) ((keyOf_sq t ht).trans (by rw [show Lit.string (keyBytes [.int .i64 t.l, .int .i64 t.x, .int .i64 t.y]) = keyL t from rfl, ← h]; rfl))
  unfold sqv at e
  simp at e
  exact Sq.ext3 e.1 e.2.1 e.2.2
theorem ok_fits {s : Sq} (h : s.okB = true) : SqFits s := by
  obtain ⟨h1, h2, h3, h4, h5, h6⟩ := (Sq.okB_iff s).1 h
  have := side_le s.l h1
  exact ⟨WalkArith.wf_i64 (by omega), WalkArith.wf_i64 (by omega), WalkArith.wf_i64 (by omega)⟩

theorem plainElem_bool_inv {H : Type} {P : Program} {e : TypeId} (he : P.underlying e = some .bool) {v : Value} {z : DataW H × List MemPlace} (h : plainElem P e v = some z) : ∃ x, v = .bool x ∧ z = (.lit (.bool x), []) := by
  unfold plainElem at h
  rw [he] at h
  cases v <;> simp at h
  exact ⟨_, rfl, h.symm⟩

abbrev DU := DataW Unit
def tru : DU := .lit (.bool true)
def pairOf (s : Sq) : Lit × DU := (keyL s, tru)
noncomputable abbrev RB : Value → Option (DU × List MemPlace) := plainElem Tryz.prog 4

/-- block b is a map whose keys are the squares L, all of whose elements are true -/
def RowAt (w : World) (b : Nat) (L : List Sq) : Prop :=
  ∃ es : List (Lit × DU), w.ownsMap Tryz.prog 23 RB b L.length (.map es) ∧ es.Perm (L.map pairOf) ∧ L.Nodup ∧ ∀ s ∈ L, SqFits s

theorem tight {w : World} {b n : Nat} {D : DU} (h : w.ownsMap Tryz.prog 23 RB b n D) : w.ownsMap Tryz.prog 23 RB b (Maps.size D) D := by
  obtain ⟨es, clock, hb, F, hs, rfl⟩ := h
  exact ⟨es, clock, hb, F, by simp [Maps.size, length_sorted], rfl⟩

theorem RowAt.lt {w : World} {b : Nat} {L : List Sq} (h : RowAt w b L) : b < w.heap.size := by
  obtain ⟨es, h, _⟩ := h; exact h.lt
theorem RowAt.perm {w : World} {b : Nat} {L L' : List Sq} (h : RowAt w b L) (p : L.Perm L') : RowAt w b L' := by
  obtain ⟨es, h1, h2, h3, h4⟩ := h
  exact ⟨es, by rw [← p.length_eq]; exact h1, h2.trans (p.map _), p.nodup h3, fun s hs => h4 s (p.mem_iff.2 hs)⟩
theorem RowAt.new (w : World) : RowAt (w.alloc (.map #[] 0)) w.heap.size [] :=
  ⟨[], World.ownsMap_made _ _ _ _, List.Perm.refl _, List.nodup_nil, by simp⟩
theorem RowAt.block {w w' : World} {b : Nat} {L : List Sq} (h : RowAt w b L) (hb : w'.heap[b]? = w.heap[b]?) : RowAt w' b L := by
  obtain ⟨es, ⟨es', clock, h1, h2⟩, h3⟩ := h
  exact ⟨es, ⟨es', clock, hb.trans h1, h2⟩, h3⟩

/-- no key twice, so one entry -/
theorem sameKey_iff {s t : Sq} (hs : SqFits s) (ht : SqFits t) : (keyL s).sameKey (keyL t) = decide (s = t) := by
  by_cases e : s = t
  · subst e; simp [WideAt.sameKey_self (KSq.key (keyOf_sq s hs) : WideAt.IsKeyLit (keyL s))]
  · simp only [e, decide_false]
    exact Maps.sameKey_ne fun h => e (keyL_inj hs ht h)
theorem has_row {es : List (Lit × DU)} {L : List Sq} (hp : es.Perm (L.map pairOf)) (hL : ∀ s ∈ L, SqFits s) {s : Sq} (hs : SqFits s) : Maps.has (.map es : DU) (keyL s) = decide (s ∈ L) := by
  rw [Maps.has_eq, Bool.eq_iff_iff]
  simp only [List.any_eq_true, decide_eq_true_eq]
  constructor
  · rintro ⟨p, hp1, hp2⟩
    obtain ⟨t, ht, rfl⟩ := List.mem_map.1 (hp.mem_iff.1 hp1)
    rw [show (pairOf t).1 = keyL t from rfl, sameKey_iff (hL t ht) hs] at hp2
    have : t = s := by simpa using hp2
    exact this ▸ ht
  · intro h
    exact ⟨pairOf s, hp.mem_iff.2 (List.mem_map.2 ⟨s, h, rfl⟩), by rw [show (pairOf s).1 = keyL s from rfl, sameKey_iff hs hs]; simp⟩
theorem atKey_row {es : List (Lit × DU)} {L : List Sq} (hp : es.Perm (L.map pairOf)) (hL : ∀ s ∈ L, SqFits s) {s : Sq} (hs : SqFits s) : (DataW.map es : DU).atKey (keyL s) (.lit (.bool false)) = .lit (.bool (decide (s ∈ L))) := by
  have hh := has_row hp hL hs
  by_cases h : s ∈ L
  · rw [show decide (s ∈ L) = true by simpa using h] at hh ⊢
    rw [Maps.has_eq] at hh
    unfold DataW.atKey
    dsimp only
    cases hf : es.find? (fun p => p.1.sameKey (keyL s)) with
    | none => rw [List.find?_eq_none] at hf; obtain ⟨p, h1, h2⟩ := List.any_eq_true.1 hh; exact absurd h2 (by simpa using hf p h1)
    | some p =>
      have hm := List.mem_of_find?_eq_some hf
      obtain ⟨t, _, rfl⟩ := List.mem_map.1 (hp.mem_iff.1 hm)
      rfl
  · rw [show decide (s ∈ L) = false by simpa using h] at hh ⊢
    exact Maps.atKey_of_not_has hh _

theorem zeroBool (w : World) : (zeroValue 4).run Tryz.prog w = .ok (.bool false) w := by kernel_rfl

/-- 'm[s]' -/
theorem RowAt.look {w : World} {b : Nat} {L : List Sq} (h : RowAt w b L) {s : Sq} (hs : SqFits s) :
    (Instr.lookup 219 (.map (some b)) (sqv s) false).run Tryz.prog w = .ok (.bool (decide (s ∈ L))) w := by
  obtain ⟨es, h1, h2, h3, h4⟩ := h
  obtain ⟨v, ps, hrun, hv⟩ := h1.lookup KSq Tryz.underlying219 (zeroBool w) (plainElem_bool Tryz.underlying4 false) (keyOf_sq s hs)
  rw [hrun]
  rw [show Lit.string (keyBytes [.int .i64 s.l, .int .i64 s.x, .int .i64 s.y]) = keyL s from rfl, atKey_row h2 h4 hs] at hv
  obtain ⟨x, rfl, hx⟩ := plainElem_bool_inv Tryz.underlying4 hv
  simp at hx
  rw [hx.1]

theorem filter_other {es : List (Lit × DU)} {L : List Sq} (hp : es.Perm (L.map pairOf)) (hL : ∀ s ∈ L, SqFits s) {s : Sq} (hs : SqFits s) :
    (es.filter fun p => !p.1.sameKey (keyL s)).Perm ((L.filter fun t => !decide (t = s)).map pairOf) := by
  refine (hp.filter _).trans (List.Perm.of_eq ?_)
  rw [List.filter_map]
  congr 1
  refine List.filter_congr fun t ht => ?_
  show (!((pairOf t).1.sameKey (keyL s))) = _
  rw [show (pairOf t).1 = keyL t from rfl, sameKey_iff (hL t ht) hs]
theorem filter_mem_add {L : List Sq} (hn : L.Nodup) (s : Sq) : (s :: L.filter fun t => !decide (t = s)).Perm (addS L s) := by
  unfold addS
  split
  · rename_i h
    have : (L.filter fun t => !decide (t = s)) = L.erase s := by
      rw [hn.erase_eq_filter]
      exact List.filter_congr fun t _ => by simp [bne, BEq.beq]
    rw [this]
    exact (List.perm_cons_erase h).symm
  · rename_i h
    have : (L.filter fun t => !decide (t = s)) = L := List.filter_eq_self.2 fun t ht => by
      have : t ≠ s := fun e => h (e ▸ ht)
      simp [this]
    rw [this]
    exact List.perm_append_comm (l₁ := [s]) 
theorem addS_nodup {L : List Sq} (hn : L.Nodup) (s : Sq) : (addS L s).Nodup := by
  unfold addS
  split
  · exact hn
  · rename_i h
    rw [List.nodup_append]
    refine ⟨hn, by simp, ?_⟩
    intro a ha b hb e
    simp at hb
    exact h (hb ▸ e ▸ ha)
theorem mem_addS {L : List Sq} {s t : Sq} : t ∈ addS L s ↔ t ∈ L ∨ t = s := by
  unfold addS
  split
  · rename_i h
    exact ⟨.inl, fun h' => h'.elim id fun e => e ▸ h⟩
  · simp

/-- 'm[s] = true' -/
theorem RowAt.store {w : World} {b : Nat} {L : List Sq} (h : RowAt w b L) {s : Sq} (hs : SqFits s) (hlen : L.length < maxLen) :
    ∃ w', (Instr.mapUpdate 219 (.map (some b)) (sqv s) (.bool true)).run Tryz.prog w = .ok () w' ∧ RowAt w' b (addS L s) ∧ w.mapTurned w' b := by
  obtain ⟨es, h1, h2, h3, h4⟩ := h
  obtain ⟨w', hrun, hown, ht⟩ := h1.store KSq Tryz.underlying219 hlen (keyOf_sq s hs) (plainElem_bool Tryz.underlying4 true)
  have hp : (DataW.insert (keyL s, tru) (es.filter fun p => !p.1.sameKey (keyL s))).Perm ((addS L s).map pairOf) := by
    refine (Go.WideShapes.insert_perm _ _).trans (((filter_other h2 h4 hs).cons (keyL s, tru)).trans ?_)
    exact (filter_mem_add h3 s).map pairOf
  refine ⟨w', hrun, ⟨DataW.insert (keyL s, tru) (es.filter fun p => !p.1.sameKey (keyL s)), ?_, hp, addS_nodup h3 s, fun t ht => ?_⟩, ht⟩
  · have := tight hown
    rw [show Maps.size (DataW.put (DataW.map es : DU) (Lit.string (keyBytes [.int .i64 s.l, .int .i64 s.x, .int .i64 s.y])) (.lit (.bool true))) = (addS L s).length by
      have := hp.length_eq; rw [List.length_map] at this; exact this] at this
    exact this
  · rcases mem_addS.1 ht with h | h
    · exact h4 t h
    · exact h ▸ hs

/-- 'delete(m, s)' -/
theorem RowAt.drop {w : World} {b : Nat} {L : List Sq} (h : RowAt w b L) {s : Sq} (hs : SqFits s) (ty : TypeId) :
    ∃ w', (Builtin.delete_ #[219, 23] ty #[.map (some b), sqv s]).run Tryz.prog w = .ok (.tuple #[]) w' ∧ RowAt w' b (dropS L s) ∧ w.mapTurned w' b := by
  obtain ⟨es, h1, h2, h3, h4⟩ := h
  obtain ⟨w', hrun, hown, ht⟩ := h1.drop KSq Tryz.underlying219 (keyOf_sq s hs) ty
  have hp := filter_other h2 h4 hs
  refine ⟨w', hrun, ⟨_, ?_, hp, h3.filter _, fun t ht => h4 t (List.mem_filter.1 ht).1⟩, ht⟩
  have := tight hown
  rw [show Maps.size (DataW.del (DataW.map es : DU) (Lit.string (keyBytes [.int .i64 s.l, .int .i64 s.x, .int .i64 s.y]))) = (dropS L s).length by
    have := hp.length_eq; rw [List.length_map] at this; exact this] at this
  exact this

/-- 'len(m)' -/
theorem RowAt.len {w : World} {b : Nat} {L : List Sq} (h : RowAt w b L) (ty : TypeId) : (Builtin.len_ #[219] ty #[.map (some b)]).run Tryz.prog w = .ok (.int .i64 L.length) w := by
  obtain ⟨es, h1, h2, h3, h4⟩ := h
  rw [h1.len Tryz.underlying219 ty]
  rw [show Maps.size (DataW.map es : DU) = L.length by have := h2.length_eq; rw [List.length_map] at this; exact this]

end Go.Proofs.YtijidcigfdblaaaGreatDoor
namespace Go.Proofs.YtijidcigfdblaaaGreatDoor
open Go.RowKit Go.Plc

/-- the value of a cover whose maps lie in the blocks b 0 .. b 10 -/
def covA (b : Nat → Nat) : Array Value := #[.map (some (b 0)), .map (some (b 1)), .map (some (b 2)), .map (some (b 3)), .map (some (b 4)), .map (some (b 5)), .map (some (b 6)), .map (some (b 7)), .map (some (b 8)), .map (some (b 9)), .map (some (b 10))]

theorem lvl (l : Int) (h0 : 0 ≤ l) (h1 : l ≤ 10) : l = 0 ∨ l = 1 ∨ l = 2 ∨ l = 3 ∨ l = 4 ∨ l = 5 ∨ l = 6 ∨ l = 7 ∨ l = 8 ∨ l = 9 ∨ l = 10 := by omega
theorem lookQ {b : Nat} {L : List Sq} {w : World} (h : RowAt w b L) {s : Sq} (hs : SqFits s) (n : Nat) :
    Sem.run Tryz.prog (Instr.lookup 219 (.map (some b)) (.agg #[.int .i64 s.l, .int .i64 s.x, .int .i64 s.y]) false) (w.drewN n) = .ok (.bool (decide (s ∈ L))) (w.drewN n) :=
  (h.block (w' := w.drewN n) rfl).look hs
theorem RowAt.alloc {w : World} {b : Nat} {L : List Sq} (h : RowAt w b L) (o : Obj) : RowAt (w.alloc o) b L := h.block (Below.heap_alloc w o b h.lt)

set_option maxHeartbeats 400000 in
theorem hasOne_any (b : Nat → Nat) (s : Sq) (L : List Sq) (w : World) (h : RowAt w (b s.l.toNat) L) (hs : s.okB = true) :
    Calls Tryz.prog 227 #[.agg (covA b), sqv s] w fun e w' => e = .returned (.bool (decide (s ∈ L))) ∧ Below w.heap.size w w' := by
  obtain ⟨h1, h2, _⟩ := (Sq.okB_iff s).1 hs
  have hf := ok_fits hs
  have hq := fun o1 o2 n => lookQ ((h.alloc o1).alloc o2) hf n
  unfold sqv covA
  generalize decide (s ∈ L) = r at *
  clear h hs hf
  obtain ⟨l, x, y⟩ := s
  dsimp only at *
  rcases lvl l h1 h2 with rfl | rfl | rfl | rfl | rfl | rfl | rfl | rfl | rfl | rfl | rfl
  all_goals
    clear h1 h2
    (try simp only [Int.toNat_zero] at hq); (try simp only [Int.reduceToNat] at hq)
    go_enter Tryz.func227, Tryz.ntmps227
    go_wp2_with fail
    go_quiet (fail)
    go_wp2_with fail
    go_ret
    refine ⟨rfl, ?_⟩
    (repeat (first | exact Below.refl _ _ | refine Below.drew ?_ | refine below_drewN ?_ _ | refine Below.alloc ?_ (by simp; try omega) _ | refine Below.setCell ?_ (by simp; try omega) _))

theorem wp_region_tailP {P : Program} {id : Nat} {Q : Exit → Act → World → Prop} {a : Act} {w : World} {l : List Oper} (n : Nat) (hm : P.follows .mixedOrders = true) (hB : Region.lexTailB .any l.toArray n = true)
    (h : wpStill P l.toArray w.drew (fun a' => wpList P l.toArray Q (l.drop n) a' w.drew) (l.take n) a) : (Code.region id l.toArray true).wp P Q a w := wp_region_still_tail n hm hB h

/-- Whatever lay when the call began lies as it lay, but for the map in block b. -/
structure But (b : Nat) (w w' : World) : Prop where
  os : w'.os = w.os
  tape : w'.tape = w.tape
  output : w'.output = w.output
  size : w.heap.size ≤ w'.heap.size
  block : ∀ k, k < w.heap.size → k ≠ b → w'.heap[k]? = w.heap[k]?

theorem But.refl (b : Nat) (w : World) : But b w w := ⟨rfl, rfl, rfl, Nat.le_refl _, fun _ _ _ => rfl⟩
theorem But.trans {b : Nat} {x y z : World} (h : But b x y) (k : But b y z) : But b x z :=
  ⟨k.os.trans h.os, k.tape.trans h.tape, k.output.trans h.output, Nat.le_trans h.size k.size, fun i hi hb => (k.block i (Nat.lt_of_lt_of_le hi h.size) hb).trans (h.block i hi hb)⟩
theorem But.of_below {b : Nat} {w w' : World} (h : Below w.heap.size w w') : But b w w' := ⟨h.os, h.tape, h.output, h.size, fun k hk _ => h.block k hk⟩
theorem But.turned {b : Nat} {w w' w'' : World} (h : Below w.heap.size w w') (ht : w'.mapTurned w'' b) : But b w w'' :=
  have g := ht.grown
  ⟨g.os.trans h.os, g.tape.trans h.tape, g.output.trans h.output, Nat.le_trans h.size g.size, fun k hk hb => (g.block k (Nat.lt_of_lt_of_le hk h.size) (by simpa using hb)).trans (h.block k hk)⟩

set_option maxRecDepth 100000 in
set_option maxHeartbeats 400000 in
theorem add_any (b : Nat → Nat) (s : Sq) (L : List Sq) (w : World) (h : RowAt w (b s.l.toNat) L) (hs : s.okB = true) (hlen : L.length < maxLen) :
    Calls Tryz.prog 226 #[.agg (covA b), sqv s] w fun e w' => e = .returned (.tuple #[]) ∧ RowAt w' (b s.l.toNat) (addS L s) ∧ But (b s.l.toNat) w w' := by
  obtain ⟨h1, h2, _⟩ := (Sq.okB_iff s).1 hs
  have hf := ok_fits hs
  obtain ⟨wE, hrun, hrow, hturn⟩ := ((h.alloc (.cells (covA b) 221)).alloc (.cells #[.int .i64 s.l, .int .i64 s.x, .int .i64 s.y] 23)).block (w' := ((w.alloc (.cells (covA b) 221)).alloc (.cells #[.int .i64 s.l, .int .i64 s.x, .int .i64 s.y] 23)).drew) rfl |>.store hf hlen
  have hfin := Lib.hid (show RowAt wE (b s.l.toNat) (addS L s) ∧ But (b s.l.toNat) w wE from ⟨hrow, But.turned (by (repeat (first | exact Below.refl _ _ | refine Below.drew ?_ | refine below_drewN ?_ _ | refine Below.alloc ?_ (by simp; try omega) _ | refine Below.setCell ?_ (by simp; try omega) _))) hturn⟩)
  unfold sqv covA at hrun ⊢
  clear h hrow hturn hs hf hlen
  obtain ⟨l, x, y⟩ := s
  dsimp only at *
  rcases lvl l h1 h2 with rfl | rfl | rfl | rfl | rfl | rfl | rfl | rfl | rfl | rfl | rfl
  all_goals
    clear h1 h2
    (try simp only [Int.toNat_zero] at hrun hfin ⊢); (try simp only [Int.reduceToNat] at hrun hfin ⊢)
    go_enter Tryz.func226, Tryz.ntmps226
    go_wp2_with fail
    refine wp_region_tailP 5 (by kernel_rfl) (by kernel_rfl) ?_
    simp only [List.take_succ_cons, List.take_zero, List.drop_succ_cons, List.drop_zero]
    repeat still_step
    refine wpStill_nil ?_
    go_wp2_with fail
    go_end0
    exact ⟨rfl, hfin.out⟩

end Go.Proofs.YtijidcigfdblaaaGreatDoor
namespace Go.Proofs.YtijidcigfdblaaaGreatDoor
open Go.RowKit Go.Plc

/-! children: a new slice of four squares -/
/-- the slice value holds the squares L, in a block from B on -/
def NewSqs (B : Nat) (w : World) (v : Value) (L : List Sq) : Prop :=
  ∃ g c, v = .slice (some ⟨g, 0, none⟩) L.length c ∧ B ≤ g ∧ g < w.heap.size ∧ ∀ (i : Nat) (s : Sq), L[i]? = some s → w.cell? ⟨g, i * 3, none⟩ = some (.int .i64 s.l) ∧ w.cell? ⟨g, i * 3 + 1, none⟩ = some (.int .i64 s.x) ∧ w.cell? ⟨g, i * 3 + 2, none⟩ = some (.int .i64 s.y)

set_option maxHeartbeats 400000 in
theorem children_any (s : Sq) (w : World) (h : s.okB = true) (h0 : 1 ≤ s.l) :
    Calls Tryz.prog 229 #[sqv s] w fun e w' => ∃ v, e = .returned v ∧ NewSqs w.heap.size w' v (kidsS s) ∧ Below w.heap.size w w' := by
  obtain ⟨h1, h2, h3, h4, h5, h6⟩ := (Sq.okB_iff s).1 h
  have hs := side_le s.l h1
  unfold sqv
  go_enter Tryz.func229, Tryz.ntmps229
  go_wp2_with fail
  go_region
  go_wp2_with fail
  go_ret
  refine ⟨_, rfl, ⟨w.heap.size + 1, 4, rfl, by omega, by simp, ?_⟩, by (repeat (first | exact Below.refl _ _ | refine Below.drew ?_ | refine below_drewN ?_ _ | refine Below.alloc ?_ (by simp; try omega) _ | refine Below.setCell ?_ (by simp; try omega) _))⟩
  unfold kidsS
  intro i t hi
  match i, hi with
  | 0, hi => simp at hi; subst hi; simp
  | 1, hi => simp at hi; subst hi; simp
  | 2, hi => simp at hi; subst hi; simp
  | 3, hi => simp at hi; subst hi; simp
end Go.Proofs.YtijidcigfdblaaaGreatDoor
namespace Go.Proofs.YtijidcigfdblaaaGreatDoor
open Go.RowKit Go.Plc

def lvlOf (C : List Sq) (i : Nat) : List Sq := C.filter fun s => decide (s.l = (i : Int))
structure Cov (w : World) (b : Nat → Nat) (C : List Sq) : Prop where
  row : ∀ i, i < 11 → RowAt w (b i) (lvlOf C i)
  inj : ∀ i j, i < 11 → j < 11 → b i = b j → i = j
  nd : C.Nodup
  ok : ∀ s ∈ C, s.okB = true

/-- Whatever lay when the call began lies as it lay, but for the maps of the cover. -/
structure CBut (b : Nat → Nat) (w w' : World) : Prop where
  os : w'.os = w.os
  tape : w'.tape = w.tape
  output : w'.output = w.output
  size : w.heap.size ≤ w'.heap.size
  block : ∀ k, k < w.heap.size → (∀ i, i < 11 → k ≠ b i) → w'.heap[k]? = w.heap[k]?

theorem CBut.refl (b : Nat → Nat) (w : World) : CBut b w w := ⟨rfl, rfl, rfl, Nat.le_refl _, fun _ _ _ => rfl⟩
theorem CBut.trans {b : Nat → Nat} {x y z : World} (h : CBut b x y) (k : CBut b y z) : CBut b x z :=
  ⟨k.os.trans h.os, k.tape.trans h.tape, k.output.trans h.output, Nat.le_trans h.size k.size, fun i hi hb => (k.block i (Nat.lt_of_lt_of_le hi h.size) hb).trans (h.block i hi hb)⟩
theorem CBut.of_below {b : Nat → Nat} {w w' : World} (h : Below w.heap.size w w') : CBut b w w' := ⟨h.os, h.tape, h.output, h.size, fun k hk _ => h.block k hk⟩
theorem CBut.of_but {b : Nat → Nat} {i : Nat} (hi : i < 11) {w w' : World} (h : But (b i) w w') : CBut b w w' := ⟨h.os, h.tape, h.output, h.size, fun k hk hb => h.block k hk (hb i hi)⟩
theorem CBut.below {b : Nat → Nat} {B : Nat} {w w' : World} (h : CBut b w w') (hB : B ≤ w.heap.size) (hb : ∀ i, i < 11 → B ≤ b i) : Below B w w' :=
  ⟨h.os, h.tape, h.output, h.size, fun k hk => h.block k (Nat.lt_of_lt_of_le hk hB) (fun i hi e => by have := hb i hi; omega)⟩
theorem CBut.heap {b : Nat → Nat} {w w' : World} (h : CBut b w w') {k : Nat} {o : Obj} (hk : w.heap[k]? = some o) (hb : ∀ i, i < 11 → k ≠ b i) : w'.heap[k]? = some o :=
  (h.block k (Array.getElem?_eq_some_iff.1 hk).1 hb).trans hk

theorem ok_lvl {s : Sq} (hs : s.okB = true) : s.l.toNat < 11 ∧ ((s.l.toNat : Nat) : Int) = s.l := by
  obtain ⟨h1, h2, _⟩ := (Sq.okB_iff s).1 hs; omega
theorem mem_lvl {C : List Sq} {s : Sq} {i : Nat} : s ∈ lvlOf C i ↔ s ∈ C ∧ s.l = (i : Int) := by unfold lvlOf; simp
theorem mem_lvl_own {C : List Sq} {s : Sq} (hs : s.okB = true) : decide (s ∈ lvlOf C s.l.toNat) = decide (s ∈ C) := by
  rw [decide_eq_decide, mem_lvl]
  exact ⟨fun h => h.1, fun h => ⟨h, (ok_lvl hs).2.symm⟩⟩
theorem lvl_add_same {C : List Sq} {s : Sq} (hs : s.okB = true) : lvlOf (addS C s) s.l.toNat = addS (lvlOf C s.l.toNat) s := by
  have e := (ok_lvl hs).2
  unfold addS
  by_cases h : s ∈ C
  · rw [if_pos h, if_pos (mem_lvl.2 ⟨h, e.symm⟩)]
  · rw [if_neg h, if_neg (fun h' => h (mem_lvl.1 h').1)]
    unfold lvlOf
    rw [List.filter_append]
    simp [e]
theorem lvl_add_other {C : List Sq} {s : Sq} {i : Nat} (hi : s.l ≠ (i : Int)) : lvlOf (addS C s) i = lvlOf C i := by
  unfold addS
  split
  · rfl
  · unfold lvlOf
    rw [List.filter_append]
    simp [hi]
theorem lvl_drop_same (C : List Sq) (s : Sq) (i : Nat) : lvlOf (dropS C s) i = dropS (lvlOf C i) s := by
  unfold lvlOf dropS
  rw [List.filter_filter, List.filter_filter]
  exact List.filter_congr fun t _ => Bool.and_comm _ _
theorem drop_none {L : List Sq} {s : Sq} (h : s ∉ L) : dropS L s = L := List.filter_eq_self.2 fun t ht => by
  have : t ≠ s := fun e => h (e ▸ ht)
  simp [this]

theorem Cov.keep {w w' : World} {b : Nat → Nat} {C : List Sq} (h : Cov w b C) (hk : ∀ i, i < 11 → w'.heap[b i]? = w.heap[b i]?) : Cov w' b C :=
  ⟨fun i hi => (h.row i hi).block (hk i hi), h.inj, h.nd, h.ok⟩
theorem Cov.lt {w : World} {b : Nat → Nat} {C : List Sq} (h : Cov w b C) : ∀ i, i < 11 → b i < w.heap.size := fun i hi => (h.row i hi).lt
theorem Cov.below {w w' : World} {b : Nat → Nat} {C : List Sq} (h : Cov w b C) (hb : Below w.heap.size w w') : Cov w' b C := h.keep fun i hi => hb.block _ (h.lt i hi)
theorem Cov.alloc {w : World} {b : Nat → Nat} {C : List Sq} (h : Cov w b C) (o : Obj) : Cov (w.alloc o) b C := h.below (below_new o)
theorem Cov.drewN {w : World} {b : Nat → Nat} {C : List Sq} (h : Cov w b C) (n : Nat) : Cov (w.drewN n) b C := h.keep fun _ _ => rfl
theorem Cov.drew {w : World} {b : Nat → Nat} {C : List Sq} (h : Cov w b C) : Cov w.drew b C := h.keep fun _ _ => rfl
theorem Cov.perm {w : World} {b : Nat → Nat} {C C' : List Sq} (h : Cov w b C) (p : C.Perm C') : Cov w b C' :=
  ⟨fun i hi => (h.row i hi).perm (p.filter _), h.inj, p.nodup h.nd, fun s hs => h.ok s (p.mem_iff.2 hs)⟩
theorem addS_len (C : List Sq) (s : Sq) : (addS C s).length ≤ C.length + 1 := by unfold addS; split <;> simp

theorem Cov.added {w w' : World} {b : Nat → Nat} {C : List Sq} (h : Cov w b C) {s : Sq} (hs : s.okB = true) (hr : RowAt w' (b s.l.toNat) (addS (lvlOf C s.l.toNat) s)) (hb : But (b s.l.toNat) w w') : Cov w' b (addS C s) := by
  obtain ⟨h11, he⟩ := ok_lvl hs
  refine ⟨fun i hi => ?_, h.inj, addS_nodup h.nd s, fun t ht => ?_⟩
  · by_cases e : i = s.l.toNat
    · subst e; rw [lvl_add_same hs]; exact hr
    · rw [lvl_add_other (fun e' => e (by omega))]
      exact (h.row i hi).block (hb.block _ (h.lt i hi) (fun e' => e (h.inj _ _ hi h11 e')))
  · rcases mem_addS.1 ht with h' | h'
    · exact h.ok t h'
    · exact h' ▸ hs
theorem Cov.dropped {w w' : World} {b : Nat → Nat} {C : List Sq} (h : Cov w b C) {s : Sq} (hs : s.okB = true) (hr : RowAt w' (b s.l.toNat) (dropS (lvlOf C s.l.toNat) s)) (hb : But (b s.l.toNat) w w') : Cov w' b (dropS C s) := by
  obtain ⟨h11, he⟩ := ok_lvl hs
  refine ⟨fun i hi => ?_, h.inj, h.nd.filter _, fun t ht => h.ok t (List.mem_filter.1 ht).1⟩
  rw [lvl_drop_same]
  by_cases e : i = s.l.toNat
  · subst e; exact hr
  · rw [drop_none (fun hm => e (by have := (mem_lvl.1 hm).2; omega))]
    exact (h.row i hi).block (hb.block _ (h.lt i hi) (fun e' => e (h.inj _ _ hi h11 e')))

/-- is a square one of the cover? -/
def memB (s : Sq) (C : List Sq) : Bool := decide (s ∈ C)
theorem memB_iff {s : Sq} {C : List Sq} : memB s C = true ↔ s ∈ C := by unfold memB; simp
theorem memB_false {s : Sq} {C : List Sq} : memB s C = false ↔ s ∉ C := by unfold memB; simp
theorem hasOne_cov (b : Nat → Nat) (s : Sq) (C : List Sq) (w : World) (h : Cov w b C) (hs : s.okB = true) :
    Calls Tryz.prog 227 #[.agg (covA b), sqv s] w fun e w' => e = .returned (.bool (memB s C)) ∧ Below w.heap.size w w' := by
  have := hasOne_any b s _ w (h.row _ (ok_lvl hs).1) hs
  rwa [mem_lvl_own hs] at this
theorem add_cov (b : Nat → Nat) (s : Sq) (C : List Sq) (w : World) (h : Cov w b C) (hs : s.okB = true) (hlen : C.length < maxLen) :
    Calls Tryz.prog 226 #[.agg (covA b), sqv s] w fun e w' => e = .returned (.tuple #[]) ∧ Cov w' b (addS C s) ∧ CBut b w w' :=
  (add_any b s _ w (h.row _ (ok_lvl hs).1) hs (Nat.lt_of_le_of_lt (List.length_filter_le _ _) hlen)).mono fun _ _ ⟨he, hr, hb⟩ => ⟨he, h.added hs hr hb, CBut.of_but (ok_lvl hs).1 hb⟩
/-- from the address on lie the squares L, in memory below block B -/
def SqA (w : World) (B : Nat) (A : Option Addr) (L : List Sq) : Prop :=
  ∀ (i : Nat) (s : Sq), L[i]? = some s → ∃ ad, A = some ad ∧ ad.block < B ∧
    w.cell? (ad.add (i * 3)) = some (.int .i64 s.l) ∧ w.cell? ⟨(ad.add (i * 3)).block, (ad.add (i * 3)).off + 1, none⟩ = some (.int .i64 s.x) ∧ w.cell? ⟨(ad.add (i * 3)).block, (ad.add (i * 3)).off + 2, none⟩ = some (.int .i64 s.y)
/-- the slice value holds the squares L -/
def SqSl (w : World) (B : Nat) (v : Value) (L : List Sq) : Prop := ∃ A c, v = .slice A L.length c ∧ SqA w B A L
theorem SqA.keep {w w' : World} {B : Nat} {A : Option Addr} {L : List Sq} (h : SqA w B A L) (hk : ∀ p : Addr, p.block < B → w'.cell? p = w.cell? p) : SqA w' B A L := by
  intro i s hs
  obtain ⟨ad, ha, hb, h1, h2, h3⟩ := h i s hs
  exact ⟨ad, ha, hb, (hk _ (by rw [add_block]; exact hb)).trans h1, (hk ⟨(ad.add (i * 3)).block, _, none⟩ (by show (ad.add (i * 3)).block < B; rw [add_block]; exact hb)).trans h2, (hk ⟨(ad.add (i * 3)).block, _, none⟩ (by show (ad.add (i * 3)).block < B; rw [add_block]; exact hb)).trans h3⟩
theorem SqA.below {w w' : World} {B : Nat} {A : Option Addr} {L : List Sq} (h : SqA w B A L) (hb : Below B w w') : SqA w' B A L := h.keep fun _ hp => hb.cell hp
theorem SqA.mono {w : World} {B B' : Nat} {A : Option Addr} {L : List Sq} (h : SqA w B A L) (hB : B ≤ B') : SqA w B' A L := by
  intro i s hs
  obtain ⟨ad, ha, hb, h1, h2, h3⟩ := h i s hs
  exact ⟨ad, ha, by omega, h1, h2, h3⟩
theorem SqSl.below {w w' : World} {B : Nat} {v : Value} {L : List Sq} (h : SqSl w B v L) (hb : Below B w w') : SqSl w' B v L := by
  obtain ⟨A, c, hv, h⟩ := h; exact ⟨A, c, hv, h.below hb⟩
theorem SqSl.mono {w : World} {B B' : Nat} {v : Value} {L : List Sq} (h : SqSl w B v L) (hB : B ≤ B') : SqSl w B' v L := by
  obtain ⟨A, c, hv, h⟩ := h; exact ⟨A, c, hv, h.mono hB⟩
/-- the element that a round reads -/
theorem SqA.at_ {w : World} {B : Nat} {A : Option Addr} {L : List Sq} (h : SqA w B A L) {n i : Nat} (hn : L.length = n) (hi : i < n) : ∃ s ad, L[i]? = some s ∧ s ∈ L ∧ A = some ad ∧ ad.block < B ∧
    w.cell? (ad.add (i * 3)) = some (.int .i64 s.l) ∧ w.cell? ⟨(ad.add (i * 3)).block, (ad.add (i * 3)).off + 1, none⟩ = some (.int .i64 s.x) ∧ w.cell? ⟨(ad.add (i * 3)).block, (ad.add (i * 3)).off + 2, none⟩ = some (.int .i64 s.y) := by
  have hl : i < L.length := by omega
  obtain ⟨ad, h'⟩ := h i L[i] (List.getElem?_eq_getElem hl)
  exact ⟨L[i], ad, List.getElem?_eq_getElem hl, List.getElem_mem hl, h'⟩
end Go.Proofs.YtijidcigfdblaaaGreatDoor
namespace Go.Proofs.YtijidcigfdblaaaGreatDoor
open Go.RowKit Go.Plc

def nilCov : Array Value := #[.map none, .map none, .map none, .map none, .map none, .map none, .map none, .map none, .map none, .map none, .map none]
/-- the blocks of the maps of a cover that is made in a world of z blocks -/
def cb (z : Nat) (i : Nat) : Nat := z + 2 + i
def covWorld (w : World) : World :=
  ((((((((((((w.alloc (.cells nilCov 221)).alloc (.cells (covA (cb w.heap.size)) 221)).alloc (.map #[] 0)).alloc (.map #[] 0)).alloc (.map #[] 0)).alloc (.map #[] 0)).alloc (.map #[] 0)).alloc (.map #[] 0)).alloc (.map #[] 0)).alloc (.map #[] 0)).alloc (.map #[] 0)).alloc (.map #[] 0)).alloc (.map #[] 0)

theorem covWorld_grow (w : World) : covWorld w = Sort.grow w #[.cells nilCov 221, .cells (covA (cb w.heap.size)) 221, .map #[] 0, .map #[] 0, .map #[] 0, .map #[] 0, .map #[] 0, .map #[] 0, .map #[] 0, .map #[] 0, .map #[] 0, .map #[] 0, .map #[] 0] := by
  unfold covWorld
  simp only [Sort.alloc_eq_grow, Sort.grow_grow]
  rfl
theorem grow_at (w : World) (os : Array Obj) (k : Nat) : (Sort.grow w os).heap[w.heap.size + k]? = os[k]? := by
  unfold Sort.grow
  show (w.heap ++ os)[w.heap.size + k]? = _
  rw [Array.getElem?_append_right (by omega)]
  congr 1
  omega
theorem grow_size (w : World) (os : Array Obj) : (Sort.grow w os).heap.size = w.heap.size + os.size := by unfold Sort.grow; simp
theorem grow_below (w : World) (os : Array Obj) : Below w.heap.size w (Sort.grow w os) :=
  ⟨rfl, rfl, rfl, by rw [grow_size]; omega, fun k hk => by
    unfold Sort.grow
    show (w.heap ++ os)[k]? = _
    rw [Array.getElem?_append_left hk]⟩
theorem RowAt.empty {w : World} {b : Nat} (h : w.heap[b]? = some (.map #[] 0)) : RowAt w b [] :=
  ⟨[], ⟨#[], 0, h, ⟨by simp, MapKept.stamped_empty 0, by simp⟩, Nat.le_refl _, rfl⟩, List.Perm.refl _, List.nodup_nil, by simp⟩
theorem covWorld_facts (w : World) : Cov (covWorld w) (cb w.heap.size) [] ∧ (covWorld w).heap[w.heap.size]? = some (.cells nilCov 221) ∧ (covWorld w).heap[w.heap.size + 1]? = some (.cells (covA (cb w.heap.size)) 221) ∧
    Below w.heap.size w (covWorld w) ∧ (covWorld w).heap.size = w.heap.size + 13 := by
  rw [covWorld_grow]
  refine ⟨⟨fun i hi => ?_, fun i j _ _ h => by unfold cb at h; omega, List.nodup_nil, by simp⟩, grow_at w _ 0, grow_at w _ 1, grow_below w _, grow_size w _⟩
  show RowAt _ (w.heap.size + 2 + i) []
  refine RowAt.empty ?_
  rw [Nat.add_assoc, grow_at]
  match i, hi with
  | 0, _ => rfl
  | 1, _ => rfl
  | 2, _ => rfl
  | 3, _ => rfl
  | 4, _ => rfl
  | 5, _ => rfl
  | 6, _ => rfl
  | 7, _ => rfl
  | 8, _ => rfl
  | 9, _ => rfl
  | 10, _ => rfl

theorem cov_cells {w : World} {g : Nat} {b : Nat → Nat} {t : TypeId} {fr : Nat × Nat} (h : w.heap[g]? = some (.cells (covA b) t fr)) :
    w.cell? ⟨g, 0, none⟩ = some (.map (some (b 0))) ∧ w.cell? ⟨g, 1, none⟩ = some (.map (some (b 1))) ∧ w.cell? ⟨g, 2, none⟩ = some (.map (some (b 2))) ∧ w.cell? ⟨g, 3, none⟩ = some (.map (some (b 3))) ∧
    w.cell? ⟨g, 4, none⟩ = some (.map (some (b 4))) ∧ w.cell? ⟨g, 5, none⟩ = some (.map (some (b 5))) ∧ w.cell? ⟨g, 6, none⟩ = some (.map (some (b 6))) ∧ w.cell? ⟨g, 7, none⟩ = some (.map (some (b 7))) ∧
    w.cell? ⟨g, 8, none⟩ = some (.map (some (b 8))) ∧ w.cell? ⟨g, 9, none⟩ = some (.map (some (b 9))) ∧ w.cell? ⟨g, 10, none⟩ = some (.map (some (b 10))) := by
  refine ⟨?_, ?_, ?_, ?_, ?_, ?_, ?_, ?_, ?_, ?_, ?_⟩ <;> exact cell_of_row w g _ (covA b) t fr h
theorem nil_cells {w : World} {g : Nat} {t : TypeId} (h : w.heap[g]? = some (.cells nilCov t)) :
    (w.cell? ⟨g, 0, none⟩ = some (.map none) ∧ w.cell? ⟨g, 1, none⟩ = some (.map none) ∧ w.cell? ⟨g, 2, none⟩ = some (.map none) ∧ w.cell? ⟨g, 3, none⟩ = some (.map none) ∧
    w.cell? ⟨g, 4, none⟩ = some (.map none) ∧ w.cell? ⟨g, 5, none⟩ = some (.map none) ∧ w.cell? ⟨g, 6, none⟩ = some (.map none) ∧ w.cell? ⟨g, 7, none⟩ = some (.map none) ∧
    w.cell? ⟨g, 8, none⟩ = some (.map none) ∧ w.cell? ⟨g, 9, none⟩ = some (.map none) ∧ w.cell? ⟨g, 10, none⟩ = some (.map none)) := by
  refine ⟨?_, ?_, ?_, ?_, ?_, ?_, ?_, ?_, ?_, ?_, ?_⟩ <;> exact cell_of_row w g _ nilCov t (0, 0) h
theorem frozen_row {w : World} {g : Nat} {t : TypeId} {cs : Array Value} (h : w.heap[g]? = some (.cells cs t)) : ∀ i, w.frozen? ⟨g, i, none⟩ = false := fun i => by simp [World.frozen?, h]
theorem Cov.setCell {w : World} {b : Nat → Nat} {C : List Sq} (h : Cov w b C) {a : Addr} (hne : ∀ i, i < 11 → b i ≠ a.block) (u : Value) : Cov (w.setCell a u) b C :=
  h.keep fun i hi => Below.heap_setCell _ _ _ _ (hne i hi)
theorem fold_take {α β : Type} (f : β → α → β) (x : β) (L : List α) (i : Nat) (s : α) (h : L[i]? = some s) : (L.take (i + 1)).foldl f x = f ((L.take i).foldl f x) s := by
  obtain ⟨hi, rfl⟩ := List.getElem?_eq_some_iff.1 h
  rw [List.take_succ_eq_append_getElem hi, List.foldl_append]
  rfl
theorem ofList_len (L : List Sq) : ∀ C : List Sq, (L.foldl addS C).length ≤ C.length + L.length := by
  induction L with
  | nil => simp
  | cons s r ih => intro C; have := ih (addS C s); have := addS_len C s; simp; omega

set_option maxHeartbeats 1000000 in
theorem coverOf_any (v : Value) (L : List Sq) (w : World) (hv : SqSl w w.heap.size v L) (hok : ∀ s ∈ L, s.okB = true) (hn : L.length ≤ 1000000) :
    Calls Tryz.prog 180 #[v] w fun e w' => ∃ b, e = .returned (.agg (covA b)) ∧ (∀ i, i < 11 → w.heap.size ≤ b i) ∧ Cov w' b (L.foldl addS []) ∧ Below w.heap.size w w' := by
  have hmm := @run_makeMap Tryz.prog
  obtain ⟨A, c, rfl, hA⟩ := hv
  have HA := Lib.hid hA
  have HO := Lib.hid hok
  clear hok hA
  generalize hL : L.length = n at *
  have HL := Lib.hid hL
  clear hL
  go_enter Tryz.func180, Tryz.ntmps180
  go_wp2_with fail
  refine wp_loop_rounds 12 ?_
  iterate 12 (rw [rounds_succ]; go_wp2_with fail)
  change Code.wp _ _ _ _ (covWorld w)
  obtain ⟨hcov, hres, hbox, hbel, hsz⟩ := covWorld_facts w
  generalize covWorld w = w0 at *
  have hbge := Lib.hid (show ∀ i, i < 11 → w.heap.size + 2 ≤ cb w.heap.size i from fun i _ => by unfold cb; omega)
  generalize cb w.heap.size = b at *
  have H0 := Lib.hid (show Cov w0 b [] ∧ w0.heap[w.heap.size]? = some (.cells nilCov 221) ∧ w0.heap[w.heap.size + 1]? = some (.cells (covA b) 221) ∧ Below w.heap.size w w0 ∧ w.heap.size + 13 ≤ w0.heap.size from ⟨hcov, hres, hbox, hbel, by omega⟩)
  clear hcov hres hbox hbel hsz hmm
  go_loopw [16] (fun k wr => ∃ i : Nat, k = .int .i64 (i : Int) ∧ i ≤ n ∧ Cov wr b ((L.take i).foldl addS []) ∧ wr.heap[w.heap.size]? = some (.cells nilCov 221) ∧ wr.heap[w.heap.size + 1]? = some (.cells (covA b) 221) ∧ Below w.heap.size w wr ∧ w.heap.size + 13 ≤ wr.heap.size) (fun k _ => n - (intOf k).toNat)
  case atStart => exact ⟨0, rfl, Nat.zero_le _, by simpa using H0.out⟩
  case round =>
    obtain ⟨i, rfl, hin, hR⟩ := hrel
    have HR := Lib.hid hR
    clear hR
    obtain ⟨q0, q1, q2, q3, q4, q5, q6, q7, q8, q9, q10⟩ := cov_cells HR.out.2.2.1
    by_cases hlt : i < n
    · obtain ⟨s, ad, hs, hm, rfl, hb, h1, h2, h3⟩ := (HA.out.below HR.out.2.2.2.1).at_ HL.out hlt
      have HSi := Lib.hid hs
      have HOs := Lib.hid (HO.out s hm)
      clear hs hm
      have hsz : w.heap.size + 13 ≤ wr.heap.size := HR.out.2.2.2.2
      have hsz1 : w.heap.size + 1 < wr.heap.size := by omega
      have hsz0 : w.heap.size < wr.heap.size := by omega
      go_wp2_with fail
      refine (add_cov b s _ _ (HR.out.1.alloc _) HOs.out (Nat.lt_of_le_of_lt (ofList_len _ _) (by rw [List.length_take]; unfold maxLen; simp; omega))).mono ?_
      rintro e w1 ⟨rfl, hcov, hbut⟩
      have H1 := Lib.hid (show Cov w1 b ((L.take (i + 1)).foldl addS []) ∧ w1.heap[w.heap.size]? = some (.cells nilCov 221) ∧ w1.heap[w.heap.size + 1]? = some (.cells (covA b) 221) ∧ Below w.heap.size w w1 ∧ w.heap.size + 13 ≤ w1.heap.size from
        ⟨by rw [fold_take _ _ _ _ _ HSi.out]; exact hcov,
         hbut.heap ((Below.heap_alloc _ _ _ (by omega)).trans HR.out.2.1) (fun j hj e => by have := hbge.out j hj; omega),
         hbut.heap ((Below.heap_alloc _ _ _ (by omega)).trans HR.out.2.2.1) (fun j hj e => by have := hbge.out j hj; omega),
         (HR.out.2.2.2.1.alloc (by omega) _).trans (hbut.below (by simp; omega) (fun j hj => by have := hbge.out j hj; omega)), by have := hbut.size; simp at this; omega⟩)
      clear hcov hbut
      go_wp2_with fail
      go_roundw
      case rel => exact ⟨i + 1, by go_num, by omega, H1.out⟩
      case measure => simp [intOf]; omega
    · have hsz : w.heap.size + 13 ≤ wr.heap.size := HR.out.2.2.2.2
      have hsz1 : w.heap.size + 1 < wr.heap.size := by omega
      have hsz0 : w.heap.size < wr.heap.size := by omega
      obtain ⟨r0, r1, r2, r3, r4, r5, r6, r7, r8, r9, r10⟩ := nil_cells HR.out.2.1
      have hfz := frozen_row HR.out.2.1
      go_wp2_with fail
      refine bodyPost_ret (v := .agg (covA b)) (by unfold covA; simp [results, Tryz.results180, go_sem, r0, r1, r2, r3, r4, r5, r6, r7, r8, r9, r10]) rfl ⟨b, rfl, fun j hj => by have := hbge.out j hj; omega, ?_, ?_⟩
      · have hne : ∀ j, j < 11 → b j ≠ w.heap.size := fun j hj => by have := hbge.out j hj; omega
        have hi : i = L.length := by have := HL.out; omega
        have hc0 := HR.out.1
        rw [hi, List.take_length] at hc0
        iterate 11 (refine Cov.setCell ?_ hne _)
        exact hc0
      · have hb0 := HR.out.2.2.2.1
        iterate 11 (refine Below.setCell (p := ⟨w.heap.size, _, none⟩) ?_ (Nat.le_refl w.heap.size) _)
        exact hb0
end Go.Proofs.YtijidcigfdblaaaGreatDoor
namespace Go.Proofs.YtijidcigfdblaaaGreatDoor
open Go.RowKit Go.Plc

theorem pow_split (a b c : Int) (h1 : a ≤ b) (h2 : b ≤ c) : (2 : Int) ^ (c - a).toNat = 2 ^ (c - b).toNat * 2 ^ (b - a).toNat := by
  rw [← Int.pow_add]; congr 1; omega
theorem blur_ok {s : Sq} (h : s.okB = true) {L : Int} (h1 : s.l ≤ L) (h2 : L ≤ 10) : (blurS s L).okB = true := by
  obtain ⟨a1, a2, a3, a4, a5, a6⟩ := (Sq.okB_iff s).1 h
  have hp : (0 : Int) < 2 ^ (L - s.l).toNat := Int.pow_pos (by decide)
  unfold sideOf at a4 a6
  rw [pow_split s.l L 10 h1 h2] at a4 a6
  refine (Sq.okB_iff _).2 ⟨by show 0 ≤ L; omega, h2, ?_, ?_, ?_, ?_⟩
  · exact Int.ediv_nonneg a3 (by omega)
  · exact Int.ediv_lt_of_lt_mul hp a4
  · exact Int.ediv_nonneg a5 (by omega)
  · exact Int.ediv_lt_of_lt_mul hp a6

theorem hasAround_iff {C : List Sq} {s : Sq} : hasAroundS C s = true ↔ ∃ i : Nat, i < 11 ∧ s.l < (i : Int) ∧ blurS s i ∈ C := by
  unfold hasAroundS
  simp [List.any_eq_true]
/-- the boxes of a method's receiver and of its square -/
structure Boxes (w : World) (g : Nat) (b : Nat → Nat) (s : Sq) (wr : World) : Prop where
  c : wr.heap[g]? = some (.cells (covA b) 221)
  s : wr.heap[g + 1]? = some (.cells #[.int .i64 s.l, .int .i64 s.x, .int .i64 s.y] 23)
  bel : Below g w wr
  sz : g + 2 ≤ wr.heap.size
theorem Boxes.start (w : World) (b : Nat → Nat) (s : Sq) : Boxes w w.heap.size b s ((w.alloc (.cells (covA b) 221)).alloc (.cells #[.int .i64 s.l, .int .i64 s.x, .int .i64 s.y] 23)) := by
  have e : (w.alloc (.cells (covA b) 221)).alloc (.cells #[.int .i64 s.l, .int .i64 s.x, .int .i64 s.y] 23) = Sort.grow w #[.cells (covA b) 221, .cells #[.int .i64 s.l, .int .i64 s.x, .int .i64 s.y] 23] := by
    simp only [Sort.alloc_eq_grow, Sort.grow_grow]; rfl
  rw [e]
  exact ⟨grow_at w _ 0, grow_at w _ 1, grow_below w _, by rw [grow_size]; simp⟩
theorem Boxes.step {w : World} {g : Nat} {b : Nat → Nat} {s : Sq} {wr w1 : World} (h : Boxes w g b s wr) (hb : Below wr.heap.size wr w1) : Boxes w g b s w1 :=
  ⟨(hb.block _ (by have := h.sz; omega)).trans h.c, (hb.block _ (by have := h.sz; omega)).trans h.s, h.bel.trans (hb.mono (by have := h.sz; omega)), Nat.le_trans h.sz hb.size⟩
theorem Boxes.drewN {w : World} {g : Nat} {b : Nat → Nat} {s : Sq} {wr : World} (h : Boxes w g b s wr) (n : Nat) : Boxes w g b s (wr.drewN n) := h.step (below_drewN (Below.refl _ _) n)
theorem sq_cells {w : World} {g : Nat} {s : Sq} {t : TypeId} (h : w.heap[g]? = some (.cells #[.int .i64 s.l, .int .i64 s.x, .int .i64 s.y] t)) :
    w.cell? ⟨g, 0, none⟩ = some (.int .i64 s.l) ∧ w.cell? ⟨g, 1, none⟩ = some (.int .i64 s.x) ∧ w.cell? ⟨g, 2, none⟩ = some (.int .i64 s.y) := by
  refine ⟨?_, ?_, ?_⟩ <;> exact cell_of_row w g _ _ t (0, 0) h

set_option maxHeartbeats 1000000 in
theorem hasAround_any (b : Nat → Nat) (s : Sq) (C : List Sq) (w : World) (h : Cov w b C) (hs : s.okB = true) :
    Calls Tryz.prog 181 #[.agg (covA b), sqv s] w fun e w' => e = .returned (.bool (hasAroundS C s)) ∧ Below w.heap.size w w' := by
  obtain ⟨h1, h2, _⟩ := (Sq.okB_iff s).1 hs
  have HB := Lib.hid (Boxes.start w b s)
  have HCv := Lib.hid h
  have HO := Lib.hid hs
  clear h hs
  unfold sqv covA
  go_enter Tryz.func181, Tryz.ntmps181
  go_wp2_with fail
  change Code.wp _ _ _ _ ((w.alloc (.cells (covA b) 221)).alloc (.cells #[.int .i64 s.l, .int .i64 s.x, .int .i64 s.y] 23))
  generalize (w.alloc (.cells (covA b) 221)).alloc (.cells #[.int .i64 s.l, .int .i64 s.x, .int .i64 s.y] 23) = w0 at *
  go_loopw [5] (fun k wr => ∃ j : Int, k = .int .i64 j ∧ s.l < j ∧ j ≤ 11 ∧ (∀ i : Nat, i < 11 → s.l < (i : Int) → (i : Int) < j → blurS s i ∉ C) ∧ Boxes w w.heap.size b s wr) (fun k _ => (11 - intOf k).toNat)
  case atStart => exact ⟨s.l + 1, rfl, by omega, by omega, fun i _ a c => by omega, HB.out⟩
  case round =>
    obtain ⟨j, rfl, hj1, hj2, hno, hR⟩ := hrel
    have HNo := Lib.hid hno
    have HR := Lib.hid hR
    clear hno hR
    obtain ⟨q0, q1, q2, q3, q4, q5, q6, q7, q8, q9, q10⟩ := cov_cells HR.out.c
    obtain ⟨s0, s1, s2⟩ := sq_cells HR.out.s
    by_cases hlt : j ≤ 10
    · have qs := fun p => (⟨Wb.cell q0 p, Wb.cell q1 p, Wb.cell q2 p, Wb.cell q3 p, Wb.cell q4 p, Wb.cell q5 p, Wb.cell q6 p, Wb.cell q7 p, Wb.cell q8 p, Wb.cell q9 p, Wb.cell q10 p⟩ : _ ∧ _ ∧ _ ∧ _ ∧ _ ∧ _ ∧ _ ∧ _ ∧ _ ∧ _ ∧ _)
      have ss := fun p => (⟨Wb.cell s0 p, Wb.cell s1 p, Wb.cell s2 p⟩ : _ ∧ _ ∧ _)
      go_wp2_with fail
      refine wp_region_wb (by kernel_rfl) (by kernel_rfl) ?_; (repeat ((with_reducible refine wpQuiet_step ?_); intro K hK; go_simp; (try (refine ite_neg_of (by simp [undef]) ?_)); first | (with_reducible refine hK _ ?_; clear hK K) | (apply Exists.intro; (with_reducible refine ⟨fun _ => ?_, hK _ ?_⟩); (first | (go_at_call 228; exact Calls.wb (blur_any s j _ (by omega) (by omega) (by omega))) | (go_at_call 227; exact Calls.wb (hasOne_cov b (blurS s j) C _ ((HCv.out.below HR.out.bel).below (Wb.h _)) (blur_ok HO.out (by omega) (by omega))))); clear hK K))); (with_reducible refine wpQuiet_nil ?_); rintro w1 ⟨⟨_, hb1⟩, rfl⟩; (try dsimp only)
      by_cases hit : blurS s j ∈ C
      · have hret := Lib.hid (show hasAroundS C s = true from hasAround_iff.2 ⟨j.toNat, by omega, by omega, by rw [show ((j.toNat : Nat) : Int) = j by omega]; exact hit⟩)
        have hit' : memB (blurS s j) C = true := memB_iff.2 hit
        have hB := Lib.hid (HR.out.step hb1)
        clear hit
        rw [hit']
        clear hit'
        go_wp2_with fail
        go_ret
        exact ⟨ret_b (by rw [hret.out]), hB.out.bel⟩
      · have hit' : memB (blurS s j) C = false := memB_false.2 hit
        have hN := Lib.hid (show ∀ i : Nat, i < 11 → s.l < (i : Int) → (i : Int) < j + 1 → blurS s i ∉ C from fun i a1 a2 a3 => by
          by_cases e : (i : Int) = j
          · rw [e]; exact hit
          · exact HNo.out i a1 a2 (by omega))
        have hB := Lib.hid (HR.out.step hb1)
        clear hit
        rw [hit']
        clear hit'
        go_wp2_with fail
        go_roundw
        case rel => exact ⟨j + 1, rfl, by omega, by omega, hN.out, hB.out⟩
        case measure => simp [intOf]; omega
    · have hret := Lib.hid (show hasAroundS C s = false by
        cases hh : hasAroundS C s
        · rfl
        · obtain ⟨i, a1, a2, a3⟩ := hasAround_iff.1 hh
          exact absurd a3 (HNo.out i a1 a2 (by omega)))
      go_wp2_with fail
      go_ret
      exact ⟨ret_b (by rw [hret.out]), HR.out.bel⟩

end Go.Proofs.YtijidcigfdblaaaGreatDoor
namespace Go.Proofs.YtijidcigfdblaaaGreatDoor
open Go.RowKit Go.Plc

theorem side_down (l : Int) (h0 : 1 ≤ l) (h1 : l ≤ 10) : sideOf (l - 1) = 2 * sideOf l := by
  unfold sideOf
  rw [show (10 - (l - 1)).toNat = (10 - l).toNat + 1 by omega, Int.pow_succ]; omega
theorem kids_ok {p : Sq} (h : p.okB = true) (h1 : 1 ≤ p.l) : ∀ k ∈ kidsS p, k.okB = true := by
  obtain ⟨a1, a2, a3, a4, a5, a6⟩ := (Sq.okB_iff p).1 h
  have hd := side_down p.l h1 a2
  intro k hk
  unfold kidsS at hk
  simp only [List.mem_cons, List.not_mem_nil, or_false] at hk
  rcases hk with rfl | rfl | rfl | rfl <;> refine (Sq.okB_iff _).2 ⟨?_, ?_, ?_, ?_, ?_, ?_⟩ <;> dsimp only <;> (try rw [hd]) <;> omega
theorem par_ok {s : Sq} (h : s.okB = true) (h1 : s.l < 10) : (parS s).okB = true := blur_ok h (by omega) (by omega)
theorem NewSqs.slice {B : Nat} {w : World} {v : Value} {L : List Sq} (h : NewSqs B w v L) : ∃ g c, v = .slice (some ⟨g, 0, none⟩) L.length c ∧ B ≤ g ∧ g < w.heap.size ∧ SqA w w.heap.size (some ⟨g, 0, none⟩) L := by
  obtain ⟨g, c, rfl, hB, hg, hc⟩ := h
  refine ⟨g, c, rfl, hB, hg, fun i s hs => ?_⟩
  obtain ⟨h1, h2, h3⟩ := hc i s hs
  have e : (⟨g, 0, none⟩ : Addr).add (i * 3) = ⟨g, i * 3, none⟩ := by
    unfold Addr.add
    split
    · rename_i h; rw [h]
    · simp
  exact ⟨_, rfl, hg, by rw [e]; exact h1, by rw [e]; exact h2, by rw [e]; exact h3⟩

set_option maxHeartbeats 1000000 in
theorem leads_no (b : Nat → Nat) (s : Sq) (C : List Sq) (w : World) (hs : s.okB = true) (hno : s.l = 10 ∨ s.x % 2 ≠ 0 ∨ s.y % 2 ≠ 0) :
    Calls Tryz.prog 182 #[.agg (covA b), sqv s] w fun e w' => e = .returned (.bool (leadsS C s)) ∧ Below w.heap.size w w' := by
  have HR := Lib.hid (show leadsS C s = false by unfold leadsS; rcases hno with h | h | h <;> simp [h])
  obtain ⟨h1, h2, h3, h4, h5, h6⟩ := (Sq.okB_iff s).1 hs
  clear hs
  unfold sqv covA
  cases a1 : (s.l == 10) <;> cases a2 : (s.x % 2 != 0) <;> cases a3 : (s.y % 2 != 0)
  · simp at a1 a2 a3; omega
  all_goals
    clear hno
    go_enter Tryz.func182, Tryz.ntmps182
    go_wp2_with fail
    go_ret
    exact ⟨ret_b (by rw [HR.out]), by (repeat (first | exact Below.refl _ _ | refine Below.drew ?_ | refine below_drewN ?_ _ | refine Below.alloc ?_ (by simp; try omega) _ | refine Below.setCell ?_ (by simp; try omega) _))⟩

set_option maxHeartbeats 1000000 in
theorem leads_yes (b : Nat → Nat) (s : Sq) (C : List Sq) (w : World) (h : Cov w b C) (hs : s.okB = true) (g1 : s.l < 10) (g2 : s.x % 2 = 0) (g3 : s.y % 2 = 0) :
    Calls Tryz.prog 182 #[.agg (covA b), sqv s] w fun e w' => e = .returned (.bool (leadsS C s)) ∧ Below w.heap.size w w' := by
  have HR := Lib.hid (show leadsS C s = (kidsS (parS s)).all fun k => memB k C by
    unfold leadsS memB
    have : s.l ≠ 10 := by omega
    simp [this, g2, g3])
  have HB := Lib.hid (Boxes.start w b s)
  have HCv := Lib.hid (show ∀ wr, Boxes w w.heap.size b s wr → Cov wr b C from fun wr hb => h.below hb.bel)
  have HP := Lib.hid (par_ok hs g1)
  have HK := Lib.hid (kids_ok (par_ok hs g1) (by show 1 ≤ s.l + 1; have := ((Sq.okB_iff s).1 hs).1; omega))
  obtain ⟨h1, h2, h3, h4, h5, h6⟩ := (Sq.okB_iff s).1 hs
  have a1 : (s.l == 10) = false := by simp; omega
  have a2 : (s.x % 2 != 0) = false := by simp [g2]
  have a3 : (s.y % 2 != 0) = false := by simp [g3]
  clear h hs g2 g3
  unfold sqv covA
  go_enter Tryz.func182, Tryz.ntmps182
  go_wp2_with fail
  change Calls _ _ _ ((w.alloc (.cells (covA b) 221)).alloc (.cells #[.int .i64 s.l, .int .i64 s.x, .int .i64 s.y] 23)) _
  generalize (w.alloc (.cells (covA b) 221)).alloc (.cells #[.int .i64 s.l, .int .i64 s.x, .int .i64 s.y] 23) = w0 at *
  refine (blur_any s (s.l + 1) _ h1 (by omega) (by omega)).mono ?_
  rintro e w1 ⟨rfl, hb1⟩
  have HB1 := Lib.hid (HB.out.step hb1)
  clear hb1
  go_wp2_with fail
  refine (children_any (parS s) _ HP.out (by show 1 ≤ s.l + 1; omega)).mono ?_
  rintro e w2 ⟨v, rfl, hnew, hb2⟩
  have HB2 := Lib.hid (HB1.out.step hb2)
  obtain ⟨g, c, rfl, hg1, hg2, hA⟩ := hnew.slice
  have HA := Lib.hid hA
  clear hb2 hnew hA
  rw [show (kidsS (parS s)).length = 4 from rfl]
  clear hg1 hg2
  generalize (⟨g, 0, none⟩ : Addr) = ad0 at *
  go_wp2_with fail
  go_loopw [29] (fun k wr => ∃ i : Nat, k = .int .i64 (i : Int) ∧ i ≤ 4 ∧ ((kidsS (parS s)).take i).all (fun k => memB k C) = true ∧ Boxes w w.heap.size b s wr ∧ SqA wr wr.heap.size (some ad0) (kidsS (parS s))) (fun k _ => 4 - (intOf k).toNat)
  case atStart => exact ⟨0, rfl, by omega, rfl, HB2.out, HA.out⟩
  case round =>
    obtain ⟨i, rfl, hi, hall, hB, hA⟩ := hrel
    have HAl := Lib.hid hall
    have HBr := Lib.hid hB
    have HAr := Lib.hid hA
    obtain ⟨q0, q1, q2, q3, q4, q5, q6, q7, q8, q9, q10⟩ := cov_cells hB.c
    have hsz := hB.sz
    have hsz1 : w.heap.size + 1 < wr.heap.size := by omega
    have hsz0 : w.heap.size < wr.heap.size := by omega
    clear hall hB hA
    by_cases hlt : i < 4
    · obtain ⟨k, ad, hk, hm, had, hb, c1, c2, c3⟩ := HAr.out.at_ (n := 4) rfl hlt
      injection had with had
      subst had
      have HKi := Lib.hid hk
      have HKo := Lib.hid (HK.out k hm)
      have HT := Lib.hid (show ((kidsS (parS s)).take (i + 1)).all (fun k => memB k C) = memB k C by
        obtain ⟨h', e⟩ := List.getElem?_eq_some_iff.1 hk
        rw [List.take_succ_eq_append_getElem h', List.all_append, HAl.out, e]; simp)
      clear hk hm
      go_wp2_with fail
      refine (hasOne_cov b k C _ ((HCv.out _ HBr.out).alloc _) HKo.out).mono ?_
      rintro e w3 ⟨rfl, hb3⟩
      have HB3 := Lib.hid ((HBr.out.step (below_new _)).step hb3)
      have HA3 := Lib.hid ((HAr.out.below (below_new _)).below (hb3.mono (by simp)) |>.mono (show wr.heap.size ≤ w3.heap.size by have := hb3.size; simp at this; omega))
      clear hb3
      cases hmem : memB k C
      · have HM := Lib.hid hmem
        clear hmem
        go_wp2_with fail
        go_ret
        refine ⟨ret_b ?_, HB3.out.bel⟩
        rw [HR.out]
        symm
        rw [List.all_eq_false]
        exact ⟨k, List.mem_of_getElem? HKi.out, by rw [HM.out]; simp⟩
      · have HM := Lib.hid hmem
        clear hmem
        go_wp2_with fail
        go_roundw
        case rel => exact ⟨i + 1, by go_num, by omega, by rw [HT.out, HM.out], HB3.out, HA3.out⟩
        case measure => simp [intOf]; omega
    · have HE := Lib.hid (show leadsS C s = true by
        rw [HR.out, ← HAl.out, List.take_of_length_le (by show 4 ≤ i; omega)])
      go_wp2_with fail
      go_ret
      exact ⟨ret_b (by rw [HE.out]), HBr.out.bel⟩
end Go.Proofs.YtijidcigfdblaaaGreatDoor
