/- The reference's numbers of a text: of the texts of squares and nights. -/
import Derived.Test.YtabolonlkocopaaGreatDoorTxQ
import Derived.Test.YtabolonlkocopaaGreatDoorBck
import Derived.Test.YtabolonlkocopaaGreatDoorBckN
namespace Go.Proofs.YtabolonlkocopaaGreatDoor
open Go.RowKit Go.Plc

theorem pr_digit1 {k : Nat} (hk : k < 10) (r : List UInt8) (L : List Int) : partsRun (UInt8.ofNat (48 + k) :: r) L true = partsRun r (L ++ [(k : Int)]) false := by
  have h := dig_nat hk
  rw [partsRun, if_pos (by omega), h]
  congr 2
  simp
  omega
theorem pr_digit2 {k : Nat} (hk : k < 10) (r : List UInt8) (L : List Int) (x : Int) (hx : 10 * x + k ≤ 999999) : partsRun (UInt8.ofNat (48 + k) :: r) (L ++ [x]) false = partsRun r (L ++ [10 * x + k]) false := by
  have h := dig_nat hk
  have e : (List.getLastD (L ++ [x]) 0) = x := by simp
  rw [partsRun, if_pos (by omega), h, e, if_neg (by omega)]
  simp
  congr 3
  omega
theorem pr_mark {c : UInt8} (hc : ¬ (48 ≤ c.toNat ∧ c.toNat ≤ 57)) (r : List UInt8) (L : List Int) (b : Bool) : partsRun (c :: r) L b = partsRun r L true := by
  cases b <;> rw [partsRun, if_neg hc]
theorem pr_mk {c : UInt8} (hc : ¬ (48 ≤ c.toNat ∧ c.toNat ≤ 57)) (r : List UInt8) (L : List Int) (b : Bool) : partsRun ([c] ++ r) L b = partsRun r L true := pr_mark hc r L b
theorem pr_dec : ∀ (u : Nat) (r : List UInt8) (L : List Int), u ≤ 999999 → partsRun (Lib.decDigits u ++ r) L true = partsRun r (L ++ [(u : Int)]) false := fun u => by
  induction u using Nat.strongRecOn with
  | _ u ih =>
    intro r L hu
    by_cases h : u < 10
    · rw [Lib.decDigits_one h]; exact pr_digit1 h r L
    · rw [Lib.decDigits, dif_neg h, List.append_assoc, ih (u / 10) (by omega) _ _ (by omega)]
      show partsRun (UInt8.ofNat (48 + u % 10) :: r) _ _ = _
      rw [pr_digit2 (by omega) _ _ _ (by omega)]
      congr 3
      omega
theorem pr_itoa {n : Int} (h0 : 0 ≤ n) (h1 : n ≤ 999999) (r : List UInt8) (L : List Int) : partsRun (Lib.itoa n ++ r) L true = partsRun r (L ++ [n]) false := by
  obtain ⟨u, rfl⟩ : ∃ u : Nat, n = u := ⟨n.toNat, by omega⟩
  rw [Lib.itoa_nonneg]; exact pr_dec u r L (by omega)
theorem pr_two {n : Int} (h0 : 0 ≤ n) (h1 : n < 100) (r : List UInt8) (L : List Int) : partsRun (two n ++ r) L true = partsRun r (L ++ [n]) false := by
  unfold two
  rw [List.append_assoc, pr_itoa (by omega) (by omega)]
  obtain ⟨k, hk⟩ : ∃ k : Nat, n % 10 = k := ⟨(n % 10).toNat, by omega⟩
  rw [hk, Lib.itoa_nonneg, Lib.decDigits_one (by omega)]
  show partsRun (UInt8.ofNat (48 + k) :: r) _ _ = _
  rw [pr_digit2 (by omega) _ _ _ (by omega)]
  congr 3
  omega
theorem dec_len {u : Nat} (h : u < 10000) : (Lib.decDigits u).length ≤ 4 := by
  rw [Lib.decDigits_length]
  by_cases h1 : u < 10
  · rw [Lib.nDigits_small h1]; omega
  · rw [Lib.nDigits_big h1]
    by_cases h2 : u / 10 < 10
    · rw [Lib.nDigits_small h2]; omega
    · rw [Lib.nDigits_big h2]
      by_cases h3 : u / 10 / 10 < 10
      · rw [Lib.nDigits_small h3]; omega
      · rw [Lib.nDigits_big h3, Lib.nDigits_small (by omega)]; omega
theorem itoa_len4 {n : Int} (h0 : 0 ≤ n) (h1 : n < 10000) : (Lib.itoa n).length ≤ 4 := by
  obtain ⟨u, rfl⟩ : ∃ u : Nat, n = u := ⟨n.toNat, by omega⟩
  rw [Lib.itoa_nonneg]; exact dec_len (by omega)
theorem two_len8 {n : Int} (h0 : 0 ≤ n) (h1 : n < 100) : (two n).length ≤ 8 := by
  have := itoa_len4 (n := n / 10) (by omega) (by omega)
  have := itoa_len4 (n := n % 10) (by omega) (by omega)
  unfold two; rw [List.length_append]; omega
theorem two_len2 {n : Int} (h0 : 0 ≤ n) (h1 : n < 100) : (two n).length = 2 := by
  obtain ⟨u, rfl⟩ : ∃ u : Nat, n = u := ⟨n.toNat, by omega⟩
  unfold two
  rw [show (u : Int) / 10 = ((u / 10 : Nat) : Int) by omega, show (u : Int) % 10 = ((u % 10 : Nat) : Int) by omega, Lib.itoa_nonneg, Lib.itoa_nonneg, Lib.decDigits_one (by omega), Lib.decDigits_one (by omega)]
  rfl
theorem parts_sq {s : Sq} (h : s.okB = true) : partsS (sqT s) = some [s.l, s.x, s.y] := by
  obtain ⟨v1, v2, v3, v4, v5, v6⟩ := (Sq.okB_iff s).1 h
  have hsd := side_le s.l v1
  have l1 := itoa_len4 (n := s.l) (by omega) (by omega)
  have l2 := itoa_len4 (n := s.x) (by omega) (by omega)
  have l3 := itoa_len4 (n := s.y) (by omega) (by omega)
  unfold partsS
  rw [if_neg (by unfold sqT; simp only [List.length_append, List.length_cons, List.length_nil]; omega)]
  unfold sqT
  simp only [List.append_assoc]
  rw [pr_itoa (by omega) (by omega)]
  rw [pr_mk (by decide), pr_itoa (by omega) (by omega)]
  rw [pr_mk (by decide), ← List.append_nil (Lib.itoa s.y), pr_itoa (by omega) (by omega)]
  rfl
theorem date_len10 {y m d : Int} (hv : vdate y m d = true) : (dateT y m d).length ≤ 10 := by
  obtain ⟨v1, v2, v3, v4, v5, v6⟩ := (vdate_iff y m d).1 hv
  have := dom_bd y m
  have l1 := itoa_len4 (n := 2000 + y) (by omega) (by omega)
  have l2 := two_len2 (n := m) (by omega) (by omega)
  have l3 := two_len2 (n := d) (by omega) (by omega)
  unfold dateT; simp only [List.length_append, List.length_cons, List.length_nil]; omega
theorem pr_date {y m d : Int} (hv : vdate y m d = true) (r : List UInt8) (L : List Int) : partsRun (dateT y m d ++ r) L true = partsRun r (L ++ [2000 + y] ++ [m] ++ [d]) false := by
  obtain ⟨v1, v2, v3, v4, v5, v6⟩ := (vdate_iff y m d).1 hv
  have := dom_bd y m
  unfold dateT
  simp only [List.append_assoc]
  rw [pr_itoa (by omega) (by omega)]
  rw [pr_mk (by decide), pr_two (by omega) (by omega)]
  rw [pr_mk (by decide), pr_two (by omega) (by omega)]
  simp
theorem parts_night {y m d y' m' d' : Int} (hv : vdate y m d = true) (hv' : vdate y' m' d' = true) : ∃ t, partsS (nightT y m d y' m' d') = some ((2000 + y) :: m :: d :: t) := by
  obtain ⟨v1, v2, v3, v4, v5, v6⟩ := (vdate_iff y' m' d').1 hv'
  have := dom_bd y' m'
  have l1 := date_len10 hv
  have l2 := date_len10 hv'
  have l3 := two_len2 (n := m') (by omega) (by omega)
  have l4 := two_len2 (n := d') (by omega) (by omega)
  unfold partsS
  rw [if_neg (by
    unfold nightT
    simp only [List.length_append, List.length_cons, List.length_nil]
    split
    · omega
    · split
      · simp only [List.length_append, List.length_cons, List.length_nil]; omega
      · omega)]
  unfold nightT
  rw [List.append_assoc, pr_date hv]
  rw [pr_mk (by decide)]
  split
  · rw [← List.append_nil (dateT y' m' d'), pr_date hv']
    exact ⟨[2000 + y', m', d'], rfl⟩
  · split
    · rw [List.append_assoc, pr_two (by omega) (by omega)]
      rw [pr_mk (by decide), ← List.append_nil (two d'), pr_two (by omega) (by omega)]
      exact ⟨[m', d'], rfl⟩
    · rw [← List.append_nil (two d'), pr_two (by omega) (by omega)]
      exact ⟨[d'], rfl⟩
theorem parts_rng : ∀ (cs : List UInt8) (L : List Int) (b : Bool) (R : List Int), partsRun cs L b = some R → (∀ x ∈ L, 0 ≤ x ∧ x ≤ 999999) → (b = false → L ≠ []) → ∀ x ∈ R, 0 ≤ x ∧ x ≤ 999999
  | [], L, b, R, h, hL, _ => by cases b <;> (injection h with h; subst h; exact hL)
  | c :: r, L, true, R, h, hL, _ => by
    rw [partsRun] at h
    split at h
    · rename_i hd
      refine parts_rng r _ _ R h (fun x hx => ?_) (fun _ => by simp)
      rcases List.mem_append.1 hx with hx | hx
      · exact hL x hx
      · rw [List.mem_singleton.1 hx]; omega
    · exact parts_rng r _ _ R h hL (fun h => by cases h)
  | c :: r, L, false, R, h, hL, hn => by
    rw [partsRun] at h
    split at h
    · rename_i hd
      split at h
      · cases h
      · rename_i hb
        refine parts_rng r _ _ R h (fun x hx => ?_) (fun _ => by simp)
        rcases List.mem_append.1 hx with hx | hx
        · exact hL x ((List.dropLast_sublist L).subset hx)
        · have hl : List.getLastD L 0 ∈ L := by
            have e := List.dropLast_concat_getLast (hn rfl)
            have e2 : L.getLastD 0 = L.getLast (hn rfl) := by conv => lhs; rw [← e]; simp
            rw [e2]; exact List.getLast_mem _
          have := hL _ hl
          rw [List.mem_singleton.1 hx]; omega
    · exact parts_rng r _ _ R h hL (fun h => by cases h)
theorem partsS_rng {cs : List UInt8} {R : List Int} (h : partsS cs = some R) : ∀ x ∈ R, 0 ≤ x ∧ x ≤ 999999 := by
  unfold partsS at h
  split at h
  · cases h
  · exact parts_rng _ _ _ _ h (fun x hx => by cases hx) (fun h => by cases h)

/-- what the reference reads of a square's text is what the program reads -/
theorem parse_ref {cs : List UInt8} : (match partsS cs with | some [a, b, c] => if Sq.okB ⟨a, b, c⟩ && decide (sqT ⟨a, b, c⟩ = cs) then ((⟨a, b, c⟩ : Sq), (0 : Int)) else (⟨0, 0, 0⟩, 13) | _ => (⟨0, 0, 0⟩, 13)) = parseS cs := by
  have hz : (parseS cs).2 = 0 ∨ parseS cs = (⟨0, 0, 0⟩, 13) := by
    unfold parseS
    split
    · split
      · exact .inl rfl
      · exact .inr rfl
    · exact .inr rfl
  rcases hz with h | h
  · obtain ⟨h1, h2⟩ := parse_text h
    have hp := parts_sq h1
    rw [h2] at hp
    rw [hp]
    dsimp only
    rw [show (Sq.mk (parseS cs).1.l (parseS cs).1.x (parseS cs).1.y) = (parseS cs).1 from rfl, h1, h2]
    simp only [decide_true, Bool.and_self, if_true]
    rw [← h]
  · rw [h]
    split
    · rename_i a b c hp
      split
      · rename_i ht
        obtain ⟨h1, h2⟩ := Bool.and_eq_true_iff.1 ht
        have := parse_own h1
        rw [of_decide_eq_true h2, h] at this
        injection this with _ h3
        cases h3
      · rfl
    · rfl
end Go.Proofs.YtabolonlkocopaaGreatDoor
