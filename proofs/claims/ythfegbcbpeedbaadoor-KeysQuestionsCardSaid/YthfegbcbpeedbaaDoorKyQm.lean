/- Questions: the mathematics. -/
import Derived.Test.YthfegbcbpeedbaaDoorKyFm
namespace Go.Ky
open Go.Nm
def popC (x : Nat) : Bool := Nat.beq x 0 || ((Nat.beq (popN x) 1) == (Nat.beq (x &&& (x - 1)) 0))
theorem popC_all : chk2 popC 16 0 = true := by kernel_rfl
theorem dec_and {x : Nat} (h0 : 0 < x) (h : x < 65536) : decZ (x : Int) = decide (x &&& (x - 1) = 0) := by
  have h1 := chk2_all popC 16 0 popC_all x (by omega) (by omega)
  unfold popC at h1
  rw [Bool.or_eq_true] at h1
  rcases h1 with h1 | h1
  · have := Nat.eq_of_beq_eq_true h1; omega
  · have h2 : Nat.beq (popN x) 1 = Nat.beq (x &&& (x - 1)) 0 := by simpa using h1
    show decide (popN x = 1) = _
    rw [Bool.eq_iff_iff, decide_eq_true_eq, decide_eq_true_eq, ← Nat.beq_eq, ← Nat.beq_eq, h2]
theorem fold_mem : ∀ (L : List Int) (a : Int), L.foldl max a = a ∨ L.foldl max a ∈ L
  | [], a => .inl rfl
  | x :: L, a => by
    rw [List.foldl_cons]
    rcases fold_mem L (max a x) with h | h
    · rw [h]
      rcases Int.le_total a x with h1 | h1
      · rw [Int.max_eq_right h1]; exact .inr (List.mem_cons_self ..)
      · rw [Int.max_eq_left h1]; exact .inl rfl
    · exact .inr (List.mem_cons_of_mem _ h)
theorem fold_le : ∀ (L : List Int) (a x : Int), x ∈ L → x ≤ L.foldl max a
  | [], _, _, h => by cases h
  | y :: L, a, x, h => by
    rw [List.foldl_cons]
    rcases List.mem_cons.1 h with rfl | h
    · exact Int.le_trans (Int.le_max_right a x) (foldl_max_ge L _)
    · exact fold_le L _ x h
theorem worst_bound (L : List Rw) (c : Nat) (x : Int) : 0 ≤ worstF L c x ∧ worstF L c x ≤ (L.length : Int) := by
  unfold worstF
  refine ⟨foldl_max_ge _ _, ?_⟩
  rcases fold_mem ((List.range 16).map fun s => cntR L c x s) 0 with h | h
  · rw [h]; omega
  · rw [List.mem_map] at h
    obtain ⟨s, _, e⟩ := h
    rw [← e]
    exact (cnt_le L c x s).2
/-- what a single state leaves -/
theorem worst_one {m : Mx} {l : List Int} {c : Nat} {q : Int} (hm : mxF m = true) (hl : setsF m.st l = true) (hq : m.st[c]? = some q) : ∃ x n : Nat, l[c]? = some (x : Int) ∧ q = (n : Int) ∧ n ≤ 16 ∧ 0 < x ∧ x < 2 ^ n ∧ x < 65536 ∧ l.getD c 0 = (x : Int) ∧
    (∀ t, t < n → x / 2 ^ t % 2 = 1 → aloneN m l c t ≤ worstF (remL m.rows l) c (l.getD c 0)) ∧ (∃ t, t < n ∧ x / 2 ^ t % 2 = 1 ∧ aloneN m l c t = worstF (remL m.rows l) c (l.getD c 0)) ∧
    ∀ t, t < n → x / 2 ^ t % 2 = 1 → seenE m [l.set c (2 ^ t)] = 0 ∧ ((remO m (l.set c (2 ^ t))).length : Int) = aloneN m l c t := by
  have hc : c < l.length := by rw [sets_len' hl]; exact (List.getElem?_eq_some_iff.1 hq).1
  obtain ⟨x, hx⟩ : ∃ x, l[c]? = some x := ⟨_, List.getElem?_eq_getElem hc⟩
  have hx1 := sets_range hm hl hx
  have hxf := sets_at hl hq hx
  obtain ⟨x, rfl⟩ : ∃ n : Nat, x = (n : Int) := ⟨x.toNat, by omega⟩
  have hq1 := chr_at (mx_chr hm) hq
  have hw := spS_worst hm hl hq
  obtain ⟨n, rfl⟩ : ∃ n : Nat, q = (n : Int) := ⟨q.toNat, by omega⟩
  rw [full_nat] at hxf
  have hpn : 1 ≤ 2 ^ n := Nat.one_le_two_pow
  have hxn : x < 2 ^ n := by omega
  rw [show (n : Int).toNat = n from rfl, spS_fold hx n] at hw
  have hg : l.getD c 0 = (x : Int) := by rw [List.getD_eq_getElem?_getD, hx]; rfl
  have h0 : ∀ t, 0 ≤ aloneN m l c t := fun t => by unfold aloneN; omega
  have hle : ∀ t, t < n → x / 2 ^ t % 2 = 1 → aloneN m l c t ≤ worstF (remL m.rows l) c (l.getD c 0) := fun t ht hb => by
    rw [← hw]
    refine fold_le _ _ _ (List.mem_map.2 ⟨t, List.mem_range.2 ht, ?_⟩)
    unfold oneN
    rw [if_pos hb]
  refine ⟨x, n, hx, rfl, by omega, by omega, hxn, by omega, hg, hle, ?_, fun t ht hb => ?_⟩
  · have some_bit : ∃ t, t < n ∧ x / 2 ^ t % 2 = 1 := by
      have h3 := tz_ok (x := x) (by omega) (by omega)
      refine ⟨tzN x, ?_, (bit_iff x (tzN x)).1 h3.2.1⟩
      have h4 : 2 ^ tzN x ≤ x := Nat.ge_two_pow_of_testBit h3.2.1
      by_cases e : tzN x < n
      · exact e
      · have : 2 ^ n ≤ 2 ^ tzN x := Nat.pow_le_pow_right (by omega) (by omega)
        omega
    rcases fold_mem ((List.range n).map (oneN m l c x)) 0 with h | h
    · obtain ⟨t, ht, hb⟩ := some_bit
      refine ⟨t, ht, hb, ?_⟩
      have := hle t ht hb
      have := h0 t
      rw [hw] at h
      omega
    · rw [hw, List.mem_map] at h
      obtain ⟨t, ht, e⟩ := h
      unfold oneN at e
      split at e
      · rename_i hb
        exact ⟨t, List.mem_range.1 ht, hb, e⟩
      · obtain ⟨s, hs, hb⟩ := some_bit
        refine ⟨s, hs, hb, ?_⟩
        have := hle s hs hb
        have := h0 s
        omega
  · have hset : setsF m.st (l.set c (2 ^ t)) = true := by
      refine sets_mk (by rw [List.length_set]; exact sets_len' hl) fun i k y hk hy => ?_
      by_cases e : i = c
      · subst e
        rw [List.getElem?_set_self hc] at hy
        injection hy with hy
        subst hy
        rw [hq] at hk
        injection hk with hk
        subst hk
        rw [full_nat, show ((2 : Int) ^ t) = ((2 ^ t : Nat) : Int) from by simp]
        have h1 : 2 ^ t < 2 ^ n := Nat.pow_lt_pow_right (by omega) ht
        have := Nat.two_pow_pos t
        omega
      · rw [List.getElem?_set_ne (fun e2 => e e2.symm)] at hy
        exact sets_at hl hk hy
    have e1 : seenE m [l.set c (2 ^ t)] = 0 := by rw [seenE_ok hm]; simp [hset]
    refine ⟨e1, ?_⟩
    unfold remO aloneN
    rw [if_pos e1, List.length_map]
/-- the best character -/
theorem best_all (L : List Rw) (l : List Int) (P : Nat → Bool) : ∀ n, ((bestS L l P n).2.1 = false → ∀ i, i < n → P i = false) ∧
    ((bestS L l P n).2.1 = true → ∃ c, c < n ∧ (bestS L l P n).1 = (c : Int) ∧ P c = true ∧ (bestS L l P n).2.2 = worstF L c (l.getD c 0) ∧ ∀ i, i < n → P i = true → (bestS L l P n).2.2 ≤ worstF L i (l.getD i 0) ∧ (worstF L i (l.getD i 0) = (bestS L l P n).2.2 → c ≤ i))
  | 0 => ⟨fun _ i hi => by omega, fun h => by cases h⟩
  | n + 1 => by
    obtain ⟨h1, h2⟩ := best_all L l P n
    rw [bestS_next]
    unfold bestStep
    cases hp : P n with
    | false =>
      rw [if_neg (by simp)]
      refine ⟨fun h i hi => ?_, fun h => ?_⟩
      · by_cases e : i = n
        · subst e; exact hp
        · exact h1 h i (by omega)
      · obtain ⟨c, hc, e1, e2, e3, e4⟩ := h2 h
        refine ⟨c, by omega, e1, e2, e3, fun i hi hpi => ?_⟩
        by_cases e : i = n
        · subst e; rw [hp] at hpi; cases hpi
        · exact e4 i (by omega) hpi
    | true =>
      rw [if_pos rfl]
      split
      · rename_i hb
        refine ⟨fun h => (nomatch h), fun _ => ⟨n, by omega, rfl, hp, rfl, fun i hi hpi => ?_⟩⟩
        by_cases e : i = n
        · subst e; exact ⟨Int.le_refl _, fun _ => Nat.le_refl _⟩
        · cases hs : (bestS L l P n).2.1 with
          | false => rw [h1 hs i (by omega)] at hpi; cases hpi
          | true =>
            obtain ⟨c, _, _, _, _, e4⟩ := h2 hs
            have h5 := (e4 i (by omega) hpi).1
            rw [hs] at hb
            have h6 : worstF L n (l.getD n 0) < (bestS L l P n).2.2 := by simpa using hb
            exact ⟨by show worstF L n (l.getD n 0) ≤ _; omega, fun h7 => by
              have h7' : worstF L i (l.getD i 0) = worstF L n (l.getD n 0) := h7
              omega⟩
      · rename_i hb
        simp only [Bool.or_eq_true, Bool.not_eq_true', decide_eq_true_eq, not_or, Bool.not_eq_false] at hb
        refine ⟨fun h => (by rw [hb.1] at h; cases h), fun h => ?_⟩
        obtain ⟨c, hc, e1, e2, e3, e4⟩ := h2 h
        refine ⟨c, by omega, e1, e2, e3, fun i hi hpi => ?_⟩
        by_cases e : i = n
        · subst e; exact ⟨by omega, fun _ => by omega⟩
        · exact e4 i (by omega) hpi
end Go.Ky
