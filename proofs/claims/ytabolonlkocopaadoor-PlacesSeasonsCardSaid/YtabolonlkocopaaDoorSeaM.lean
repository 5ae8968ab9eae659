/- Seasons, as mathematics. -/
import Derived.Test.YtabolonlkocopaaDoorCal
namespace Go.Plc

def vday (n : Int) : Bool := vdate 0 (n.tdiv 100) (n.tmod 100)
def idx (n : Int) : Int := num 0 (n.tdiv 100) (n.tmod 100)
def inC (f t n : Int) : Bool := if f ≤ t then decide (f ≤ n) && decide (n ≤ t) else decide (f ≤ n) || decide (n ≤ t)

theorem vday_form {n : Int} (h : vday n = true) : ∃ m d, n = 100 * m + d ∧ n.tdiv 100 = m ∧ n.tmod 100 = d ∧ 1 ≤ m ∧ m ≤ 12 ∧ 1 ≤ d ∧ d ≤ dom 0 m ∧ d ≤ 31 := by
  obtain ⟨_, _, h3, h4, h5, h6⟩ := (vdate_iff _ _ _).1 h
  have := dom_bd 0 (n.tdiv 100)
  have e := Int.tmod_add_mul_tdiv n 100
  exact ⟨n.tdiv 100, n.tmod 100, by omega, rfl, rfl, h3, h4, h5, h6, by omega⟩
theorem vday_mk {m d : Int} (h1 : 1 ≤ m) (h2 : m ≤ 12) (h3 : 1 ≤ d) (h4 : d ≤ dom 0 m) : vday (100 * m + d) = true ∧ (100 * m + d).tdiv 100 = m ∧ (100 * m + d).tmod 100 = d := by
  have := dom_bd 0 m
  have e1 : (100 * m + d).tdiv 100 = m := by rw [Int.tdiv_eq_ediv_of_nonneg (by omega)]; omega
  have e2 : (100 * m + d).tmod 100 = d := by rw [Int.tmod_eq_emod_of_nonneg (by omega)]; omega
  refine ⟨?_, e1, e2⟩
  unfold vday
  rw [e1, e2]
  exact (vdate_iff _ _ _).2 ⟨by omega, by omega, h1, h2, h3, h4⟩
theorem dom_leap (y m : Int) : dom y m ≤ dom 0 m := by
  have e : leapB 0 = true := by decide
  unfold dom domL
  rw [e]
  by_cases h2 : m = 2
  · cases leapB y <;> simp [h2]
  · simp [h2]
theorem idx_bd {n : Int} (h : vday n = true) : 0 ≤ idx n ∧ idx n ≤ 365 := by
  obtain ⟨m, d, hn, e1, e2, h1, h2, h3, h4, h5⟩ := vday_form h
  unfold idx
  rw [e1, e2]
  have a := num_bd (y := 0) h1 h2 h3 h4
  have b : dby 0 = 0 := by decide
  have c : dby (0 + 1) = 366 := by decide
  omega
theorem idx_lt {a b : Int} (ha : vday a = true) (hb : vday b = true) : a < b ↔ idx a < idx b := by
  obtain ⟨m, d, hn, e1, e2, h1, h2, h3, h4, h5⟩ := vday_form ha
  obtain ⟨m', d', hn', e1', e2', h1', h2', h3', h4', h5'⟩ := vday_form hb
  have hl := later_iff (y := 0) (y' := 0) h1' h2' h3' h4' h1 h2 h3 h4
  unfold idx
  rw [e1, e2, e1', e2']
  unfold laterB at hl
  rw [if_neg (by simp)] at hl
  by_cases hm : m' = m
  · subst hm
    rw [if_neg (by simp), decide_eq_decide] at hl
    omega
  · rw [if_pos hm, decide_eq_decide] at hl
    omega
theorem idx_inj {a b : Int} (ha : vday a = true) (hb : vday b = true) (h : idx a = idx b) : a = b := by
  have h1 := idx_lt ha hb
  have h2 := idx_lt hb ha
  omega
theorem idx_le {a b : Int} (ha : vday a = true) (hb : vday b = true) : a ≤ b ↔ idx a ≤ idx b := by
  have h2 := idx_lt hb ha
  omega
theorem season_main {f t f2 t2 n : Int} (hf : vday f = true) (ht : vday t = true) (hf2 : vday f2 = true) (ht2 : vday t2 = true) (hn : vday n = true) (e1 : idx f2 = (idx t + 1 + 366) % 366) (e2 : idx t2 = (idx f + (-1) + 366) % 366) (hne : f2 ≠ f) :
    inC f2 t2 n = !inC f t n := by
  have bf := idx_bd hf
  have bt := idx_bd ht
  have bn := idx_bd hn
  have hne' : idx f2 ≠ idx f := fun h => hne (idx_inj hf2 hf h)
  have l1 := idx_le hf ht
  have l2 := idx_le hf hn
  have l3 := idx_le hn ht
  have l4 := idx_le hf2 ht2
  have l5 := idx_le hf2 hn
  have l6 := idx_le hn ht2
  unfold inC
  rw [Bool.eq_iff_iff]
  by_cases c1 : f ≤ t <;> by_cases c2 : f2 ≤ t2 <;> simp only [c1, c2, if_true, if_false] <;> simp <;> omega
end Go.Plc
