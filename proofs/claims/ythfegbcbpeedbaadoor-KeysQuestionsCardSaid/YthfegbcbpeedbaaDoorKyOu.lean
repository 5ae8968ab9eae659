/- grow: mathematics. -/
import Derived.Test.YthfegbcbpeedbaaDoorKyOt
namespace Go.Ky
open Go.Nm
def gStep (m : Mx) (d : Nat) (L : List Rw) (l : List Int) (c : Nat) (st : Kx × List Int × Int) (s : Nat) : Kx × List Int × Int :=
  if st.2.2 = 0 then (if (growF m d (remL L (l.set c (2 ^ s))) (l.set c (2 ^ s)) st.1).2.2 = 0 then ((growF m d (remL L (l.set c (2 ^ s))) (l.set c (2 ^ s)) st.1).1, st.2.1 ++ [(growF m d (remL L (l.set c (2 ^ s))) (l.set c (2 ^ s)) st.1).2.1], 0) else ((growF m d (remL L (l.set c (2 ^ s))) (l.set c (2 ^ s)) st.1).1, st.2.1, (growF m d (remL L (l.set c (2 ^ s))) (l.set c (2 ^ s)) st.1).2.2)) else st
def gAll (m : Mx) (d : Nat) (L : List Rw) (l : List Int) (c : Nat) (k : Kx) (n : Nat) : Kx × List Int × Int := (List.range n).foldl (gStep m d L l c) (⟨k.nd ++ [⟨(c : Int), []⟩], k.lv⟩, [], 0)
theorem gAll_zero (m : Mx) (d : Nat) (L : List Rw) (l : List Int) (c : Nat) (k : Kx) : gAll m d L l c k 0 = (⟨k.nd ++ [⟨(c : Int), []⟩], k.lv⟩, [], 0) := rfl
theorem gAll_succ (m : Mx) (d : Nat) (L : List Rw) (l : List Int) (c : Nat) (k : Kx) (s : Nat) : gAll m d L l c k (s + 1) = gStep m d L l c (gAll m d L l c k s) s := by
  unfold gAll; rw [List.range_succ, List.foldl_append]; rfl
theorem gAll_stuck {m : Mx} {d : Nat} {L : List Rw} {l : List Int} {c : Nat} {k : Kx} {s : Nat} (h : (gAll m d L l c k s).2.2 ≠ 0) : ∀ t, gAll m d L l c k (s + t) = gAll m d L l c k s
  | 0 => rfl
  | t + 1 => by
    have := gAll_stuck h t
    rw [show s + (t + 1) = (s + t) + 1 from rfl, gAll_succ, this]
    unfold gStep
    rw [if_neg h]
theorem grow_node {m : Mx} {d c : Nat} {L : List Rw} {l : List Int} {k : Kx} (h : (charF L l).2.1 = true) (hc : (charF L l).1 = (c : Int)) : growF m (d + 1) L l k =
    if (gAll m d L l c k (m.st.getD c 0).toNat).2.2 = 0 then (⟨(gAll m d L l c k (m.st.getD c 0).toNat).1.nd.set k.nd.length ⟨(c : Int), (gAll m d L l c k (m.st.getD c 0).toNat).2.1⟩, (gAll m d L l c k (m.st.getD c 0).toNat).1.lv⟩, (k.nd.length : Int), 0) else ((gAll m d L l c k (m.st.getD c 0).toNat).1, 0, (gAll m d L l c k (m.st.getD c 0).toNat).2.2) := by
  conv => lhs; unfold growF
  rw [if_pos h]
  simp only [hc, Int.toNat_natCast]
  rfl
theorem grow_leaf {m : Mx} {d : Nat} {L : List Rw} {l : List Int} {k : Kx} (h : (charF L l).2.1 = false) : growF m (d + 1) L l k = if k.lv.length = 1000 then (k, 0, 2) else (⟨k.nd, k.lv ++ [L.map (·.nm)]⟩, -1 - (k.lv.length : Int), 0) := by
  conv => lhs; unfold growF
  rw [if_neg (by rw [h]; simp)]
theorem best_ok {L : List Rw} {l : List Int} {P : Nat → Bool} : ∀ n, (bestS L l P n).2.1 = true → ∃ c, c < n ∧ (bestS L l P n).1 = (c : Int) ∧ P c = true
  | 0, h => by cases h
  | n + 1, h => by
    rw [bestS_next] at h ⊢
    unfold bestStep at h ⊢
    split
    · rename_i hp
      rw [if_pos hp] at h
      split
      · exact ⟨n, by omega, rfl, hp⟩
      · rename_i hq
        rw [if_neg hq] at h
        obtain ⟨c, h1, h2⟩ := best_ok n h
        exact ⟨c, by omega, h2⟩
    · rename_i hp
      rw [if_neg hp] at h
      obtain ⟨c, h1, h2⟩ := best_ok n h
      exact ⟨c, by omega, h2⟩
/-- what grows -/
structure GrK (k : Kx) (g : Kx × Int × Int) : Prop where
  pre : ∀ i, i < k.nd.length → g.1.nd[i]? = k.nd[i]?
  nle : k.nd.length ≤ g.1.nd.length
  lle : k.lv.length ≤ g.1.lv.length
  max : k.lv.length ≤ 1000 → g.1.lv.length ≤ 1000
  slk : g.2.2 = 0 → g.1.nd.length + k.lv.length + 1 ≤ g.1.lv.length + k.nd.length
structure GaK (k : Kx) (c s : Nat) (g : Kx × List Int × Int) : Prop where
  pre : ∀ i, i < k.nd.length → g.1.nd[i]? = k.nd[i]?
  at_ : g.1.nd[k.nd.length]? = some ⟨(c : Int), []⟩
  nle : k.nd.length + 1 ≤ g.1.nd.length
  lle : k.lv.length ≤ g.1.lv.length
  max : k.lv.length ≤ 1000 → g.1.lv.length ≤ 1000
  slk : g.2.2 = 0 → g.1.nd.length + k.lv.length + s ≤ g.1.lv.length + k.nd.length + 1
  len : g.2.2 = 0 → g.2.1.length = s
theorem gaK_all {m : Mx} {d c : Nat} {L : List Rw} {l : List Int} {k : Kx} (ih : ∀ L l k, l.length = m.st.length → GrK k (growF m d L l k)) (hl0 : l.length = m.st.length) : ∀ s, GaK k c s (gAll m d L l c k s)
  | 0 => by
    rw [gAll_zero]
    exact ⟨fun i hi => List.getElem?_append_left hi, by rw [List.getElem?_append_right (Nat.le_refl _)]; simp, by simp, Nat.le_refl _, fun h => h, fun _ => by simp; omega, fun _ => rfl⟩
  | s + 1 => by
    have h := gaK_all (c := c) (L := L) (l := l) (k := k) ih hl0 s
    rw [gAll_succ]
    obtain ⟨st, hst⟩ : ∃ st, gAll m d L l c k s = st := ⟨_, rfl⟩
    rw [hst] at h ⊢
    unfold gStep
    split
    · rename_i h0
      have hg := ih (remL L (l.set c (2 ^ s))) (l.set c (2 ^ s)) st.1 (by rw [List.length_set]; exact hl0)
      obtain ⟨g, hgg⟩ : ∃ g, growF m d (remL L (l.set c (2 ^ s))) (l.set c (2 ^ s)) st.1 = g := ⟨_, rfl⟩
      rw [hgg] at hg ⊢
      have hp : ∀ i, i < k.nd.length → g.1.nd[i]? = k.nd[i]? := fun i hi => by
        rw [hg.pre i (by have := h.nle; omega), h.pre i hi]
      have ha : g.1.nd[k.nd.length]? = some ⟨(c : Int), []⟩ := by rw [hg.pre _ (by have := h.nle; omega)]; exact h.at_
      have hn := h.nle; have hn2 := hg.nle; have hl := h.lle; have hl2 := hg.lle
      split
      · rename_i h1
        refine ⟨hp, ha, by show _ ≤ g.1.nd.length; omega, by show _ ≤ g.1.lv.length; omega, fun hm => hg.max (h.max hm), fun _ => ?_, fun _ => ?_⟩
        · have h2 := h.slk h0
          have h3 := hg.slk h1
          show g.1.nd.length + _ + (s + 1) ≤ g.1.lv.length + _ + 1
          omega
        · show (st.2.1 ++ [g.2.1]).length = s + 1
          rw [List.length_append, h.len h0]; rfl
      · rename_i h1
        exact ⟨hp, ha, by show _ ≤ g.1.nd.length; omega, by show _ ≤ g.1.lv.length; omega, fun hm => hg.max (h.max hm), fun h2 => absurd h2 h1, fun h2 => absurd h2 h1⟩
    · rename_i h0
      exact ⟨h.pre, h.at_, h.nle, h.lle, h.max, fun h2 => absurd h2 h0, fun h2 => absurd h2 h0⟩
theorem grK {m : Mx} (hst : ∀ (c : Nat) (n : Int), m.st[c]? = some n → 2 ≤ n) : ∀ (d : Nat) (L : List Rw) (l : List Int) (k : Kx), l.length = m.st.length → GrK k (growF m d L l k) := by
  intro d
  induction d with
  | zero => intro L l k _; exact ⟨fun i _ => rfl, Nat.le_refl _, Nat.le_refl _, fun h => h, fun h => by cases h⟩
  | succ d ih =>
    intro L l k hl
    cases h : (charF L l).2.1 with
    | true =>
      obtain ⟨c, hcl, hc, _⟩ := best_ok (L := L) (l := l) (P := fun c => usefulF L c (l.getD c 0)) l.length h
      have hcs : c < m.st.length := by omega
      have hn := hst c _ (List.getElem?_eq_getElem hcs)
      have e1 : m.st.getD c 0 = m.st[c] := by rw [List.getD_eq_getElem?_getD, List.getElem?_eq_getElem hcs]; rfl
      rw [grow_node h hc, e1]
      have ga := gaK_all (c := c) (L := L) (k := k) ih hl m.st[c].toNat
      obtain ⟨st, hst'⟩ : ∃ st, gAll m d L l c k m.st[c].toNat = st := ⟨_, rfl⟩
      rw [hst'] at ga ⊢
      have hn1 := ga.nle; have hn2 := ga.lle
      split
      · rename_i h0
        refine ⟨fun i hi => ?_, by show _ ≤ (st.1.nd.set _ _).length; rw [List.length_set]; omega, hn2, ga.max, fun _ => ?_⟩
        · show (st.1.nd.set k.nd.length _)[i]? = _
          rw [List.getElem?_set_ne (by omega)]
          exact ga.pre i hi
        · have := ga.slk h0
          show (st.1.nd.set _ _).length + _ + 1 ≤ st.1.lv.length + _
          rw [List.length_set]
          omega
      · rename_i h0
        exact ⟨ga.pre, by show _ ≤ st.1.nd.length; omega, hn2, ga.max, fun h2 => absurd h2 h0⟩
    | false =>
      rw [grow_leaf h]
      split
      · exact ⟨fun i _ => rfl, Nat.le_refl _, Nat.le_refl _, fun h => h, fun h => by cases h⟩
      · rename_i h0
        exact ⟨fun i _ => rfl, Nat.le_refl _, by show _ ≤ (k.lv ++ _).length; simp, fun hm => by show (k.lv ++ _).length ≤ 1000; simp; omega, fun _ => by show _ ≤ (k.lv ++ _).length + _; simp; omega⟩
/-- how many characters are undecided -/
def und (l : List Int) : Nat := (l.filter fun x => !decZ x).length
theorem und_set : ∀ (l : List Int) (c : Nat) (x y : Int), l[c]? = some x → decZ x = false → decZ y = true → und (l.set c y) + 1 = und l
  | [], c, x, y, h, _, _ => by simp at h
  | z :: l, 0, x, y, h, h1, h2 => by
    simp at h
    subst h
    unfold und
    simp [h1, h2]
  | z :: l, c + 1, x, y, h, h1, h2 => by
    have h3 := und_set l c x y (by simpa using h) h1 h2
    unfold und at h3 ⊢
    rw [List.set_cons_succ, List.filter_cons, List.filter_cons]
    split <;> simp_all
theorem und_le (l : List Int) : und l ≤ l.length := List.length_filter_le _ _
theorem dec_pow {s : Nat} (hs : s < 16) : decZ ((2 : Int) ^ s) = true := by
  have h : ∀ s : Fin 16, decZ ((2 : Int) ^ s.val) = true := by decide
  exact h ⟨s, hs⟩
theorem not_zero {s y : Nat} (hs : s < 16) (hy : y < 65536) (h : y.testBit s = true) : notF ((2 ^ s : Nat) : Int) (y : Int) = 0 := by
  unfold notF
  have hp : 2 ^ s < 65536 := Nat.pow_lt_pow_right (by omega) hs
  have e : BitVec.ofInt 64 ((2 ^ s : Nat) : Int) &&& ~~~ BitVec.ofInt 64 (y : Int) = 0#64 := by
    apply BitVec.eq_of_getElem_eq
    intro i hi
    rw [BitVec.getElem_and, BitVec.getElem_not]
    rw [← BitVec.getLsbD_eq_getElem, ← BitVec.getLsbD_eq_getElem]
    simp only [BitVec.getLsbD, ofInt_nat (show 2 ^ s < 18446744073709551616 by omega), ofInt_nat (show y < 18446744073709551616 by omega)]
    rw [Nat.testBit_two_pow]
    by_cases he : s = i
    · subst he; simp [h]
    · simp [he]
  show IntKind.i64.wrap ((BitVec.ofInt 64 ((2 ^ s : Nat) : Int) &&& ~~~ BitVec.ofInt 64 (y : Int)).toNat : Int) = 0
  rw [e]
  rfl
theorem and_pow0 {Y t : Nat} (h : Y.testBit t = false) : Y &&& 2 ^ t = 0 := by
  apply Nat.eq_of_testBit_eq
  intro i
  rw [Nat.testBit_and, Nat.testBit_two_pow, Nat.zero_testBit]
  by_cases e : t = i
  · subst e; rw [h]; rfl
  · simp [e]
/-- a useful character is undecided -/
theorem useful_und {L : List Rw} {c : Nat} {x : Int} (hx : 1 ≤ x ∧ x ≤ 65535) (hL : ∀ r ∈ L, ∃ y, r.may[c]? = some y ∧ 1 ≤ y ∧ y ≤ 65535 ∧ meetF y x ≠ 0) (h : usefulF L c x = true) : decZ x = false := by
  cases hd : decZ x with
  | false => rfl
  | true =>
    exfalso
    obtain ⟨X, rfl⟩ : ∃ X : Nat, x = (X : Int) := ⟨x.toNat, by omega⟩
    unfold decZ at hd
    have h1 := (dec_iff (x := X) (by omega) (by omega)).1 (by simpa using hd)
    have ht := tz_ok (x := X) (by omega) (by omega)
    unfold usefulF at h
    rw [Bool.and_eq_true] at h
    obtain ⟨r, hr, hn⟩ := List.any_eq_true.1 h.2
    obtain ⟨y, hy, hy1, hy2, hm⟩ := hL r hr
    obtain ⟨Y, rfl⟩ : ∃ Y : Nat, y = (Y : Int) := ⟨y.toNat, by omega⟩
    have e1 : r.may.getD c 0 = (Y : Int) := by rw [List.getD_eq_getElem?_getD, hy]; rfl
    rw [e1] at hn
    have hb : Y.testBit (tzN X) = true := by
      unfold meetF at hm
      rw [and_i64 (by omega) (by omega)] at hm
      cases hb : Y.testBit (tzN X) with
      | true => rfl
      | false => rw [h1, and_pow0 hb] at hm; exact absurd rfl hm
    have h2 := not_zero ht.1 (show Y < 65536 by omega) hb
    rw [← h1] at h2
    rw [h2] at hn
    simp at hn
end Go.Ky
