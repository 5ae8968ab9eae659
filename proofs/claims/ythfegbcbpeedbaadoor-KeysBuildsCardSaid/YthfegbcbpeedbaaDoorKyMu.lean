/- The reference chooses what the program chooses: the mathematics. -/
import Derived.Test.YthfegbcbpeedbaaDoorKyRu
import Derived.Test.YthfegbcbpeedbaaDoorKyBu
namespace Go.Ky
open Go.Nm
theorem spS_low {m : Mx} {l : List Int} {c x : Nat} (hx : l[c]? = some (x : Int)) : ∀ s, ((∀ t, t < s → ¬ x / 2 ^ t % 2 = 1) ∧ (spS m l c s).1 = -1) ∨ ((∃ t, t < s ∧ x / 2 ^ t % 2 = 1 ∧ (spS m l c s).1 = aloneN m l c t) ∧ ∀ t, t < s → x / 2 ^ t % 2 = 1 → (spS m l c s).1 ≤ aloneN m l c t)
  | 0 => .inl ⟨fun t h => absurd h (by omega), rfl⟩
  | s + 1 => by
    have ih := spS_low (m := m) hx s
    by_cases h : x / 2 ^ s % 2 = 1
    · rw [spS_yes hx h]
      right
      have hn : 0 ≤ aloneN m l c s := by unfold aloneN; omega
      rcases ih with ⟨h1, h2⟩ | ⟨⟨t, ht, hb, h2⟩, h3⟩
      · rw [h2, if_pos (.inl (by omega))]
        refine ⟨⟨s, by omega, h, rfl⟩, fun t ht hb => ?_⟩
        by_cases e : t = s
        · subst e; exact Int.le_refl _
        · exact absurd hb (h1 t (by omega))
      · have hp : 0 ≤ (spS m l c s).1 := by rw [h2]; unfold aloneN; omega
        by_cases h4 : aloneN m l c s < (spS m l c s).1
        · rw [if_pos (.inr h4)]
          refine ⟨⟨s, by omega, h, rfl⟩, fun t ht hb => ?_⟩
          by_cases e : t = s
          · subst e; exact Int.le_refl _
          · have := h3 t (by omega) hb
            show aloneN m l c s ≤ _
            omega
        · rw [if_neg (by omega)]
          refine ⟨⟨t, by omega, hb, h2⟩, fun t' ht' hb' => ?_⟩
          by_cases e : t' = s
          · subst e; show (spS m l c t').1 ≤ _; omega
          · exact h3 t' (by omega) hb'
    · rw [spS_no hx (by omega)]
      rcases ih with ⟨h1, h2⟩ | ⟨⟨t, ht, hb, h2⟩, h3⟩
      · refine .inl ⟨fun t ht hb => ?_, h2⟩
        by_cases e : t = s
        · subst e; exact h hb
        · exact h1 t (by omega) hb
      · refine .inr ⟨⟨t, by omega, hb, h2⟩, fun t' ht' hb' => ?_⟩
        by_cases e : t' = s
        · subst e; exact absurd hb' h
        · exact h3 t' (by omega) hb'
theorem not_none {x y : Nat} (hx : x < 65536) (hy : y < 65536) (h : ∀ t, x.testBit t = true → y.testBit t = true) : notF (x : Int) (y : Int) = 0 := by
  unfold notF
  have e : BitVec.ofInt 64 (x : Int) &&& ~~~ BitVec.ofInt 64 (y : Int) = 0#64 := by
    apply BitVec.eq_of_getElem_eq
    intro i hi
    rw [BitVec.getElem_and, BitVec.getElem_not]
    rw [← BitVec.getLsbD_eq_getElem, ← BitVec.getLsbD_eq_getElem]
    simp only [BitVec.getLsbD, ofInt_nat (show x < 18446744073709551616 by omega), ofInt_nat (show y < 18446744073709551616 by omega)]
    cases hb : x.testBit i with
    | false => simp
    | true => simp [h i hb]
  show IntKind.i64.wrap ((BitVec.ofInt 64 (x : Int) &&& ~~~ BitVec.ofInt 64 (y : Int)).toNat : Int) = 0
  rw [e]
  rfl
/-- with two names or more, the reference's choice is the program's -/
theorem useful_eq {m : Mx} (hm : mxF m = true) {l : List Int} (hl : setsF m.st l = true) {c : Nat} (hc : c < l.length) (h1 : 1 < (remL m.rows l).length) : (!decZ (l.getD c 0) && !decide (lowF m l c = ((remL m.rows l).length : Int))) = usefulF (remL m.rows l) c (l.getD c 0) := by
  obtain ⟨x, hx⟩ : ∃ x, l[c]? = some x := ⟨_, List.getElem?_eq_getElem hc⟩
  have hx1 := sets_range hm hl hx
  have hcs : c < m.st.length := by rw [← sets_len hl]; exact hc
  have hq : m.st[c]? = some m.st[c] := List.getElem?_eq_getElem hcs
  have hst := st_range hm (List.mem_of_getElem? hq)
  have hfl := sets_fl hl hx hq
  obtain ⟨q, hqe, hq2, hq16, hfv, hfv2⟩ := full_val hst
  obtain ⟨x, rfl⟩ : ∃ X : Nat, x = (X : Int) := ⟨x.toNat, by omega⟩
  have hg : l.getD c 0 = (x : Int) := by rw [List.getD_eq_getElem?_getD, hx]; rfl
  rw [hg]
  have hrow : ∀ r ∈ remL m.rows l, ∃ y : Nat, r.may[c]? = some (y : Int) ∧ 1 ≤ y ∧ y ≤ 65535 ∧ meetF (y : Int) (x : Int) ≠ 0 := fun r hr => by
    have hr2 := List.mem_filter.1 hr
    have hms := may_sets hm hr2.1
    obtain ⟨y, hy⟩ : ∃ y, r.may[c]? = some y := ⟨_, List.getElem?_eq_getElem (by rw [sets_len hms]; exact hcs)⟩
    have hyr := sets_range hm hms hy
    obtain ⟨y, rfl⟩ : ∃ Y : Nat, y = (Y : Int) := ⟨y.toNat, by omega⟩
    exact ⟨y, hy, by omega, by omega, fits_iff.1 hr2.2 c _ _ hy hx⟩
  cases hd : decZ (x : Int) with
  | true =>
    cases hu : usefulF (remL m.rows l) c (x : Int) with
    | false => rfl
    | true =>
      have := useful_und (L := remL m.rows l) (c := c) (x := (x : Int)) hx1 (fun r hr => by
        obtain ⟨y, hy, h2, h3, h4⟩ := hrow r hr
        exact ⟨_, hy, by omega, by omega, h4⟩) hu
      rw [hd] at this; cases this
  | false =>
    have bit16 : ∀ t, x.testBit t = true → t < q := fun t hb => by
      have := (full_lt hst.1 hst.2 hfl.2 ((bit_iff _ _).1 hb)).1
      omega
    have alone : ∀ t, x.testBit t = true → aloneN m l c t = (((remL m.rows l).filter fun r => (r.may.getD c 0).toNat.testBit t).length : Int) := fun t hb => by
      have ht := bit16 t hb
      unfold aloneN
      congr 1
      unfold remL
      rw [List.filter_filter]
      congr 1
      refine List.filter_congr fun r hr => ?_
      have hms := may_sets hm hr
      obtain ⟨y, hy⟩ : ∃ y, r.may[c]? = some y := ⟨_, List.getElem?_eq_getElem (by rw [sets_len hms]; exact hcs)⟩
      have hyr := sets_range hm hms hy
      obtain ⟨y, rfl⟩ : ∃ Y : Nat, y = (Y : Int) := ⟨y.toNat, by omega⟩
      rw [fits_set hy hx (by omega) (by omega) (by omega) hb, Bool.and_comm]
      congr 1
      unfold bitB
      rw [List.getD_eq_getElem?_getD, hy]
      show (meetF (y : Int) _).toNat.testBit t = (Int.toNat (y : Int)).testBit t
      rw [meet_nat (by omega) (by omega), Int.toNat_natCast, Int.toNat_natCast, Nat.testBit_and, hb, Bool.and_true]
    have le : ∀ t, x.testBit t = true → aloneN m l c t ≤ ((remL m.rows l).length : Int) := fun t hb => by
      rw [alone t hb]
      have := List.length_filter_le (fun r : Rw => (r.may.getD c 0).toNat.testBit t) (remL m.rows l)
      omega
    have lowE : lowF m l c = (spS m l c q).1 := by
      unfold lowF
      rw [List.getD_eq_getElem?_getD, hq]
      show (spS m l c (m.st[c]).toNat).1 = _
      rw [hqe]; rfl
    obtain ⟨t0, ht0⟩ := least_bit x (by omega)
    rw [Bool.not_false, Bool.true_and, lowE]
    have hu : usefulF (remL m.rows l) c (x : Int) = (remL m.rows l).any fun r => decide (notF (x : Int) (r.may.getD c 0) ≠ 0) := by
      unfold usefulF; rw [decide_eq_true h1, Bool.true_and]
    rw [hu]
    rcases spS_low (m := m) hx q with ⟨h2, _⟩ | ⟨⟨t, ht, hb, h2⟩, h3⟩
    · exact absurd ((bit_iff _ _).1 ht0.on) (h2 t0 (bit16 t0 ht0.on))
    · by_cases e : (spS m l c q).1 = ((remL m.rows l).length : Int)
      · rw [decide_eq_true e]
        symm
        refine List.any_eq_false.2 fun r hr hn => ?_
        obtain ⟨y, hy, y1, y2, _⟩ := hrow r hr
        have hy2 : r.may.getD c 0 = (y : Int) := by rw [List.getD_eq_getElem?_getD, hy]; rfl
        rw [hy2] at hn
        refine of_decide_eq_true hn (not_none (by omega) (by omega) fun t' hb' => ?_)
        have h4 := h3 t' (bit16 t' hb') ((bit_iff _ _).1 hb')
        have h5 := le t' hb'
        have h6 := alone t' hb'
        have h7 : ((remL m.rows l).filter fun r => (r.may.getD c 0).toNat.testBit t').length = (remL m.rows l).length := by omega
        have h8 := List.length_filter_eq_length_iff.1 h7 r hr
        rw [hy2] at h8
        exact h8
      · rw [decide_eq_false e]
        symm
        have hb2 := (bit_iff x t).2 hb
        have h6 := alone t hb2
        have h5 := le t hb2
        have h7 : ((remL m.rows l).filter fun r => (r.may.getD c 0).toNat.testBit t).length ≠ (remL m.rows l).length := by omega
        have h8 : ¬ ∀ r ∈ remL m.rows l, (r.may.getD c 0).toNat.testBit t = true := fun h => h7 (List.length_filter_eq_length_iff.2 h)
        have h9 : ∃ r ∈ remL m.rows l, ¬ (r.may.getD c 0).toNat.testBit t = true := by
          by_cases h10 : ∃ r ∈ remL m.rows l, ¬ (r.may.getD c 0).toNat.testBit t = true
          · exact h10
          · exact absurd (fun r hr => by
              cases h11 : (r.may.getD c 0).toNat.testBit t with
              | true => rfl
              | false => exact absurd ⟨r, hr, by rw [h11]; simp⟩ h10) h8
        obtain ⟨r, hr, hn⟩ := h9
        refine List.any_eq_true.2 ⟨r, hr, decide_eq_true fun h0 => hn ?_⟩
        obtain ⟨y, hy, y1, y2, _⟩ := hrow r hr
        have hy2 : r.may.getD c 0 = (y : Int) := by rw [List.getD_eq_getElem?_getD, hy]; rfl
        rw [hy2] at h0 ⊢
        exact not_sub (x := x) (y := y) (by omega) (by omega) h0 hb2
theorem bestS_congr {L : List Rw} {l : List Int} {P Q : Nat → Bool} : ∀ n, (∀ c, c < n → P c = Q c) → bestS L l P n = bestS L l Q n
  | 0, _ => rfl
  | n + 1, h => by
    rw [bestS_next, bestS_next, bestS_congr n fun c hc => h c (by omega)]
    unfold bestStep
    rw [h n (by omega)]
theorem char_eq {m : Mx} (hm : mxF m = true) {l : List Int} (hl : setsF m.st l = true) (h1 : 1 < (remL m.rows l).length) : bestS (remL m.rows l) l (fun c => !decZ (l.getD c 0) && !decide (lowF m l c = ((remL m.rows l).length : Int))) l.length = charF (remL m.rows l) l := bestS_congr _ fun _ hc => useful_eq hm hl hc h1
/-- with fewer than two names no character is useful -/
theorem char_few {m : Mx} {l : List Int} (h1 : ¬ 1 < (remL m.rows l).length) : (charF (remL m.rows l) l).2.1 = false := by
  cases h : (charF (remL m.rows l) l).2.1 with
  | false => rfl
  | true =>
    obtain ⟨c, _, _, hu⟩ := best_ok (L := remL m.rows l) (l := l) (P := fun c => usefulF (remL m.rows l) c (l.getD c 0)) l.length h
    unfold usefulF at hu
    rw [decide_eq_false h1] at hu
    cases hu
end Go.Ky
