
/- The calendar of the document as plain arithmetic on integers: no program, no memory. -/
namespace Go.Plc

def leapB (y : Int) : Bool := ((2000 + y) % 4 == 0 && (2000 + y) % 100 != 0) || (2000 + y) % 400 == 0
def doy (y : Int) : Int := if leapB y = true then 366 else 365
def dby (y : Int) : Int := 365 * y + ((y + 3) / 4 - (y + 99) / 100 + (y + 399) / 400)
def domL (l : Bool) (m : Int) : Int := if m = 2 then (if l = true then 29 else 28) else if m = 4 ∨ m = 6 ∨ m = 9 ∨ m = 11 then 30 else 31
def dom (y m : Int) : Int := domL (leapB y) m
def lp (l : Bool) : Int := if l = true then 1 else 0
def cumL (l : Bool) (m : Int) : Int :=
  if m ≤ 1 then 0 else if m = 2 then 31 else if m = 3 then 59 + lp l else if m = 4 then 90 + lp l else if m = 5 then 120 + lp l else if m = 6 then 151 + lp l
  else if m = 7 then 181 + lp l else if m = 8 then 212 + lp l else if m = 9 then 243 + lp l else if m = 10 then 273 + lp l else if m = 11 then 304 + lp l else if m = 12 then 334 + lp l else 365 + lp l
def cum (y m : Int) : Int := cumL (leapB y) m
def num (y m d : Int) : Int := d - 1 + dby y + cum y m
def vdate (y m d : Int) : Bool := decide (0 ≤ y ∧ y ≤ 273 ∧ 1 ≤ m ∧ m ≤ 12 ∧ 1 ≤ d ∧ d ≤ dom y m)

theorem leapB_iff (y : Int) : leapB y = true ↔ ((2000 + y) % 4 = 0 ∧ (2000 + y) % 100 ≠ 0) ∨ (2000 + y) % 400 = 0 := by
  unfold leapB; simp
theorem doy_cases (y : Int) : (doy y = 365 ∨ doy y = 366) := by unfold doy; split <;> simp
theorem dby_succ (y : Int) : dby (y + 1) = dby y + doy y := by
  unfold doy dby
  by_cases h : leapB y = true
  · rw [if_pos h]; have h := (leapB_iff y).1 h; omega
  · rw [if_neg h]; have h := mt (leapB_iff y).2 h; omega
theorem dby_zero : dby 0 = 0 := by decide
theorem dby_mono {a b : Int} (h : a ≤ b) : dby a ≤ dby b := by unfold dby; omega
theorem dby_lo {a b : Int} (h : a < b) : dby a + 365 ≤ dby b := by unfold dby; omega
theorem dby_bd {a : Int} (h0 : 0 ≤ a) (h : a ≤ 274) : 0 ≤ dby a ∧ dby a ≤ 100077 := by unfold dby; omega
theorem dom_bd (y m : Int) : 28 ≤ dom y m ∧ dom y m ≤ 31 := by unfold dom domL; repeat' split <;> omega
theorem cum_succ (y m : Int) (h1 : 1 ≤ m) (h2 : m ≤ 12) : cum y (m + 1) = cum y m + dom y m := by
  have hm : m = 1 ∨ m = 2 ∨ m = 3 ∨ m = 4 ∨ m = 5 ∨ m = 6 ∨ m = 7 ∨ m = 8 ∨ m = 9 ∨ m = 10 ∨ m = 11 ∨ m = 12 := by omega
  rcases hm with rfl | rfl | rfl | rfl | rfl | rfl | rfl | rfl | rfl | rfl | rfl | rfl <;> unfold cum dom cumL domL lp <;> cases leapB y <;> decide
theorem cum_one (y : Int) : cum y 1 = 0 := by unfold cum cumL; rfl
theorem cum_13 (y : Int) : cum y 13 = doy y := by unfold cum cumL doy lp; cases leapB y <;> rfl
theorem cum_le (y m : Int) : 0 ≤ cum y m ∧ cum y m ≤ doy y := by unfold cum cumL doy lp; cases leapB y <;> simp <;> repeat' split <;> omega
theorem cum_step (y a : Int) (h1 : 1 ≤ a) : ∀ k : Nat, a + k ≤ 13 → cum y a + 28 * k ≤ cum y (a + k)
  | 0, _ => by simp
  | k + 1, h => by
    have ih := cum_step y a h1 k (by omega)
    have s := cum_succ y (a + k) (by omega) (by omega)
    have b := dom_bd y (a + k)
    rw [show a + ((k + 1 : Nat) : Int) = a + k + 1 by omega, s]
    omega
theorem cum_mono (y : Int) {a b : Int} (h : a < b) (h1 : 1 ≤ a) (h2 : b ≤ 13) : cum y a + 28 ≤ cum y b := by
  have s := cum_step y a h1 (b - a).toNat (by omega)
  rw [show a + ((b - a).toNat : Int) = b by omega] at s
  omega

theorem vdate_iff (y m d : Int) : vdate y m d = true ↔ 0 ≤ y ∧ y ≤ 273 ∧ 1 ≤ m ∧ m ≤ 12 ∧ 1 ≤ d ∧ d ≤ dom y m := by unfold vdate; simp
/-- the day within its year -/
theorem day_lt (y m d : Int) (h1 : 1 ≤ m) (h2 : m ≤ 12) (hd : d ≤ dom y m) : d - 1 + cum y m < doy y := by
  have hs := cum_succ y m h1 h2
  have hl := cum_le y (m + 1)
  omega
theorem num_bd {y m d : Int} (h1 : 1 ≤ m) (h2 : m ≤ 12) (hd1 : 1 ≤ d) (hd : d ≤ dom y m) : dby y ≤ num y m d ∧ num y m d < dby (y + 1) := by
  have := day_lt y m d h1 h2 hd
  have := cum_le y m
  rw [dby_succ]; unfold num; omega
/-- The night tells the date. -/
theorem num_inj {y m d y' m' d' : Int} (h1 : 1 ≤ m) (h2 : m ≤ 12) (hd1 : 1 ≤ d) (hd : d ≤ dom y m) (h1' : 1 ≤ m') (h2' : m' ≤ 12) (hd1' : 1 ≤ d') (hd' : d' ≤ dom y' m')
    (e : num y m d = num y' m' d') : y = y' ∧ m = m' ∧ d = d' := by
  have a := num_bd h1 h2 hd1 hd
  have b := num_bd h1' h2' hd1' hd'
  have hy : y = y' := by
    rcases Int.lt_trichotomy y y' with h | h | h
    · have := dby_mono (show y + 1 ≤ y' by omega); omega
    · exact h
    · have := dby_mono (show y' + 1 ≤ y by omega); omega
  subst hy
  have hm : m = m' := by
    rcases Int.lt_trichotomy m m' with h | h | h
    · have s := cum_succ y m h1 h2
      have : cum y (m + 1) ≤ cum y m' := by
        rcases Int.lt_or_eq_of_le (show m + 1 ≤ m' by omega) with h' | h'
        · have := cum_mono y h' (by omega) (by omega); omega
        · rw [h']; exact Int.le_refl _
      unfold num at e; omega
    · exact h
    · have s := cum_succ y m' h1' h2'
      have : cum y (m' + 1) ≤ cum y m := by
        rcases Int.lt_or_eq_of_le (show m' + 1 ≤ m by omega) with h' | h'
        · have := cum_mono y h' (by omega) (by omega); omega
        · rw [h']; exact Int.le_refl _
      unfold num at e; omega
  subst hm
  refine ⟨rfl, rfl, ?_⟩
  unfold num at e; omega
/-- Later dates have later nights. -/
def laterB (y m d y' m' d' : Int) : Bool := if y ≠ y' then decide (y > y') else if m ≠ m' then decide (m > m') else decide (d > d')
theorem later_iff {y m d y' m' d' : Int} (h1 : 1 ≤ m) (h2 : m ≤ 12) (hd1 : 1 ≤ d) (hd : d ≤ dom y m) (h1' : 1 ≤ m') (h2' : m' ≤ 12) (hd1' : 1 ≤ d') (hd' : d' ≤ dom y' m') :
    laterB y m d y' m' d' = decide (num y m d > num y' m' d') := by
  have a := num_bd h1 h2 hd1 hd
  have b := num_bd h1' h2' hd1' hd'
  unfold laterB
  by_cases hy : y = y'
  · subst hy
    rw [if_neg (by simp)]
    by_cases hm : m = m'
    · subst hm
      rw [if_neg (by simp)]
      unfold num
      rw [decide_eq_decide]; omega
    · rw [if_pos hm]
      rw [decide_eq_decide]
      have s := cum_succ y m h1 h2
      have s' := cum_succ y m' h1' h2'
      unfold num
      rcases Int.lt_trichotomy m m' with h | h | h
      · have : cum y (m + 1) ≤ cum y m' := by
          rcases Int.lt_or_eq_of_le (show m + 1 ≤ m' by omega) with h' | h'
          · have := cum_mono y h' (by omega) (by omega); omega
          · rw [h']; exact Int.le_refl _
        omega
      · exact absurd h hm
      · have : cum y (m' + 1) ≤ cum y m := by
          rcases Int.lt_or_eq_of_le (show m' + 1 ≤ m by omega) with h' | h'
          · have := cum_mono y h' (by omega) (by omega); omega
          · rw [h']; exact Int.le_refl _
        omega
  · rw [if_pos hy, decide_eq_decide]
    rcases Int.lt_trichotomy y y' with h | h | h
    · have := dby_mono (show y + 1 ≤ y' by omega); omega
    · exact absurd h hy
    · have := dby_mono (show y' + 1 ≤ y by omega); omega

/-- a date is that of a night -/
structure IsDate (n y m d : Int) : Prop where
  m1 : 1 ≤ m
  m2 : m ≤ 12
  d1 : 1 ≤ d
  d2 : d ≤ dom y m
  n : num y m d = n

end Go.Plc


/- Seasons, as mathematics. -/
namespace Go.Plc

def vday (n : Int) : Bool := vdate 0 (n.tdiv 100) (n.tmod 100)
def idx (n : Int) : Int := num 0 (n.tdiv 100) (n.tmod 100)
def inC (f t n : Int) : Bool := if f ≤ t then decide (f ≤ n) && decide (n ≤ t) else decide (f ≤ n) || decide (n ≤ t)

theorem vday_form {n : Int} (h : vday n = true) : ∃ m d, n = 100 * m + d ∧ n.tdiv 100 = m ∧ n.tmod 100 = d ∧ 1 ≤ m ∧ m ≤ 12 ∧ 1 ≤ d ∧ d ≤ dom 0 m ∧ d ≤ 31 := by
  obtain ⟨_, _, h3, h4, h5, h6⟩ := (vdate_iff _ _ _).1 h
  have := dom_bd 0 (n.tdiv 100)
  have e := Int.tmod_add_mul_tdiv n 100
  exact ⟨n.tdiv 100, n.tmod 100, by omega, rfl, rfl, h3, h4, h5, h6, by omega⟩
theorem vday_mk {m d : Int} (h1 : 1 ≤ m) (h2 : m ≤ 12) (h3 : 1 ≤ d) (h4 : d ≤ dom 0 m) : vday (100 * m + d) = true ∧ (100 * m + d).tdiv 100 = m ∧ (100 * m + d).tmod 100 = d := by
  have := dom_bd 0 m
  have e1 : (100 * m + d).tdiv 100 = m := by rw [Int.tdiv_eq_ediv_of_nonneg (by omega)]; omega
  have e2 : (100 * m + d).tmod 100 = d := by rw [Int.tmod_eq_emod_of_nonneg (by omega)]; omega
  refine ⟨?_, e1, e2⟩
  unfold vday
  rw [e1, e2]
  exact (vdate_iff _ _ _).2 ⟨by omega, by omega, h1, h2, h3, h4⟩
theorem dom_leap (y m : Int) : dom y m ≤ dom 0 m := by
  have e : leapB 0 = true := by decide
  unfold dom domL
  rw [e]
  by_cases h2 : m = 2
  · cases leapB y <;> simp [h2]
  · simp [h2]
theorem idx_bd {n : Int} (h : vday n = true) : 0 ≤ idx n ∧ idx n ≤ 365 := by
  obtain ⟨m, d, hn, e1, e2, h1, h2, h3, h4, h5⟩ := vday_form h
  unfold idx
  rw [e1, e2]
  have a := num_bd (y := 0) h1 h2 h3 h4
  have b : dby 0 = 0 := by decide
  have c : dby (0 + 1) = 366 := by decide
  omega
theorem idx_lt {a b : Int} (ha : vday a = true) (hb : vday b = true) : a < b ↔ idx a < idx b := by
  obtain ⟨m, d, hn, e1, e2, h1, h2, h3, h4, h5⟩ := vday_form ha
  obtain ⟨m', d', hn', e1', e2', h1', h2', h3', h4', h5'⟩ := vday_form hb
  have hl := later_iff (y := 0) (y' := 0) h1' h2' h3' h4' h1 h2 h3 h4
  unfold idx
  rw [e1, e2, e1', e2']
  unfold laterB at hl
  rw [if_neg (by simp)] at hl
  by_cases hm : m' = m
  · subst hm
    rw [if_neg (by simp), decide_eq_decide] at hl
    omega
  · rw [if_pos hm, decide_eq_decide] at hl
    omega
theorem idx_inj {a b : Int} (ha : vday a = true) (hb : vday b = true) (h : idx a = idx b) : a = b := by
  have h1 := idx_lt ha hb
  have h2 := idx_lt hb ha
  omega
theorem idx_le {a b : Int} (ha : vday a = true) (hb : vday b = true) : a ≤ b ↔ idx a ≤ idx b := by
  have h2 := idx_lt hb ha
  omega
theorem season_main {f t f2 t2 n : Int} (hf : vday f = true) (ht : vday t = true) (hf2 : vday f2 = true) (ht2 : vday t2 = true) (hn : vday n = true) (e1 : idx f2 = (idx t + 1 + 366) % 366) (e2 : idx t2 = (idx f + (-1) + 366) % 366) (hne : f2 ≠ f) :
    inC f2 t2 n = !inC f t n := by
  have bf := idx_bd hf
  have bt := idx_bd ht
  have bn := idx_bd hn
  have hne' : idx f2 ≠ idx f := fun h => hne (idx_inj hf2 hf h)
  have l1 := idx_le hf ht
  have l2 := idx_le hf hn
  have l3 := idx_le hn ht
  have l4 := idx_le hf2 ht2
  have l5 := idx_le hf2 hn
  have l6 := idx_le hn ht2
  unfold inC
  rw [Bool.eq_iff_iff]
  by_cases c1 : f ≤ t <;> by_cases c2 : f2 ≤ t2 <;> simp only [c1, c2, if_true, if_false] <;> simp <;> omega
end Go.Plc
