
/- What fits: the mathematics. -/
import Derived.Test.YthfegbcbpeedbaaGreatDoorKyPg
import Derived.Test.YthfegbcbpeedbaaGreatDoorKyPo
namespace Go.Ky
open Go.Nm
def hasF (L : List Int) (y : Int) : Bool := L.any fun x => decide (x = y)
def partF (L M : List Int) : Bool := L.all fun x => hasF M x
def stOk (x : Int) : Bool := decide (0 ≤ x ∧ x < 16)
def bitsF (L : List Int) : List Int := if L.all stOk = true then L.map fun x => (2 : Int) ^ x.toNat else []
theorem has_take {L : List Int} {y : Int} {i : Nat} {x : Int} (hx : L[i]? = some x) (h : hasF (L.take i) y = false) (hxy : ¬ x = y) : hasF (L.take (i + 1)) y = false := by
  unfold hasF at h ⊢
  rw [show L.take (i + 1) = L.take i ++ [x] from by rw [List.take_add_one, hx]; rfl, List.any_append, h]
  simp [hxy]
theorem has_yes {L : List Int} {y : Int} {i : Nat} (hx : L[i]? = some y) : hasF L y = true := List.any_eq_true.2 ⟨y, List.mem_of_getElem? hx, by simp⟩
theorem has_iff {L : List Int} {y : Int} : hasF L y = true ↔ y ∈ L := by
  unfold hasF
  rw [List.any_eq_true]
  constructor
  · rintro ⟨x, hx, h⟩
    rw [← of_decide_eq_true h]
    exact hx
  · intro h
    exact ⟨y, h, by simp⟩
theorem part_iff {L M : List Int} : partF L M = true ↔ ∀ x ∈ L, x ∈ M := by
  unfold partF
  rw [List.all_eq_true]
  exact ⟨fun h x hx => has_iff.1 (h x hx), fun h x hx => has_iff.2 (h x hx)⟩
end Go.Ky
namespace Go.Proofs.YthfegbcbpeedbaaGreatDoor
open Go.RowKit Go.Nm Go.Ky

end Go.Proofs.YthfegbcbpeedbaaGreatDoor
namespace Go.Ky
open Go.Nm
theorem mx_nms {m : Mx} (h : mxF m = true) : Nms (m.rows.map (·.nm)) := by
  have h2 := mx_rows h
  unfold rowsF at h2
  simp only [Bool.and_eq_true, decide_eq_true_eq] at h2
  exact h2.2.1
theorem rows_uniq {m : Mx} (h : mxF m = true) {r s : Rw} (hr : r ∈ m.rows) (hs : s ∈ m.rows) (e : r.nm = s.nm) : r = s := by
  have h1 := (mx_nms h).1
  unfold Inc at h1
  rw [List.pairwise_map] at h1
  obtain ⟨i, hi, rfl⟩ := List.mem_iff_getElem.1 hr
  obtain ⟨j, hj, rfl⟩ := List.mem_iff_getElem.1 hs
  rw [List.pairwise_iff_getElem] at h1
  rcases Nat.lt_trichotomy i j with hl | hl | hl
  · have := h1 i j hi hj hl; omega
  · subst hl; rfl
  · have := h1 j i hj hi hl; omega
theorem row_of {m : Mx} (h : mxF m = true) {r : Rw} (hr : r ∈ m.rows) : rowE m r.nm = 0 ∧ rowF m r.nm = r := by
  rcases row_cases (name := r.nm) h with ⟨h1, _, h2, h3⟩ | ⟨h1, _⟩
  · exact ⟨h1, rows_uniq h h2 hr h3⟩
  · unfold rowE at h1
    rw [if_pos h] at h1
    have : (rowO m r.nm).isSome = true := by
      unfold rowO
      rw [List.find?_isSome]
      exact ⟨r, hr, by simp⟩
    rw [if_pos this] at h1
    cases h1
theorem meet_full {x k : Nat} (hk : k ≤ 16) (hx : x < 2 ^ k) : meetF (x : Int) (full (k : Int)) = (x : Int) := by
  obtain ⟨p1, p2⟩ := pow16 hk
  rw [full_nat, show ((2 ^ k : Nat) : Int) - 1 = ((2 ^ k - 1 : Nat) : Int) from by omega, meet_nat (by omega) (by omega), Nat.and_two_pow_sub_one_eq_mod, Nat.mod_eq_of_lt hx]
theorem chr_at {st : List Int} (h : chrF st = true) {c : Nat} {q : Int} (hq : st[c]? = some q) : 2 ≤ q ∧ q ≤ 16 := by
  unfold chrF at h
  rw [Bool.and_eq_true] at h
  exact of_decide_eq_true ((List.all_eq_true.1 h.2) q (List.mem_of_getElem? hq))
theorem fits_all {m : Mx} (h : mxF m = true) {a : List Int} (ha : setsF m.st a = true) : fitsF a (m.st.map full) = true := by
  rw [fits_iff]
  intro i x y hx hy
  rw [List.getElem?_map] at hy
  obtain ⟨q, hq, rfl⟩ := Option.map_eq_some_iff.1 hy
  have h1 := sets_at ha hq hx
  have h2 := chr_at (mx_chr h) hq
  obtain ⟨k, rfl⟩ : ∃ k : Nat, q = (k : Int) := ⟨q.toNat, by omega⟩
  obtain ⟨z, rfl⟩ : ∃ z : Nat, x = (z : Int) := ⟨x.toNat, by omega⟩
  obtain ⟨p1, p2⟩ := pow16 (k := k) (by omega)
  rw [full_nat] at h1
  rw [meet_full (by omega) (by omega)]
  omega
theorem open_all {m : Mx} (h : mxF m = true) : openF m = m.st.map full ∧ seenE m [openF m] = 0 ∧ remO m (openF m) = m.rows.map (·.nm) := by
  have h1 : openF m = m.st.map full := by unfold openF; rw [if_pos h]
  have h2 : seenE m [openF m] = 0 := by
    rw [seenE_ok h, h1]
    simp [sets_full (mx_chr h)]
  refine ⟨h1, h2, ?_⟩
  unfold remO
  rw [if_pos h2, h1]
  congr 1
  unfold remL
  exact List.filter_eq_self.2 fun r hr => fits_all h ((mx_all h).2.2 r hr)
theorem has_rem {m : Mx} (h : mxF m = true) {l : List Int} (hl : seenE m [l] = 0) {r : Rw} (hr : r ∈ m.rows) : hasF (remO m l) r.nm = fitsF r.may l := by
  rw [Bool.eq_iff_iff, has_iff]
  unfold remO
  rw [if_pos hl, List.mem_map]
  constructor
  · rintro ⟨s, hs, e⟩
    unfold remL at hs
    rw [List.mem_filter] at hs
    rw [← rows_uniq h hs.1 hr e]
    exact hs.2
  · intro hf
    exact ⟨r, List.mem_filter.2 ⟨hr, hf⟩, rfl⟩
theorem fit_of {m : Mx} (h : mxF m = true) {l : List Int} (hl : seenE m [l] = 0) {r : Rw} (hr : r ∈ m.rows) : fitE m r.nm l = 0 ∧ fitB m r.nm l = fitsF r.may l := by
  have h1 := row_of h hr
  unfold fitE fitB
  rw [if_pos hl, if_pos ⟨hl, h1.1⟩, h1.2]
  exact ⟨h1.1, rfl⟩
theorem rem_sub {m : Mx} {l : List Int} (hl : seenE m [l] = 0) : partF (remO m l) (m.rows.map (·.nm)) = true := by
  rw [part_iff]
  intro x hx
  unfold remO at hx
  rw [if_pos hl, List.mem_map] at hx
  obtain ⟨r, hr, rfl⟩ := hx
  unfold remL at hr
  exact List.mem_map.2 ⟨r, (List.mem_filter.1 hr).1, rfl⟩
/-- a name has a specimen in common with itself, and it fits it -/
theorem same_self {m : Mx} (h : mxF m = true) {r : Rw} (hr : r ∈ m.rows) : sameE m r.nm r.nm = 0 ∧ seenE m [bitsF (sameL m r.nm r.nm)] = 0 ∧ fitsF r.may (bitsF (sameL m r.nm r.nm)) = true ∧ (sameL m r.nm r.nm).length = m.st.length := by
  obtain ⟨h1, h2⟩ := row_of h hr
  have hset := (mx_all h).2.2 r hr
  have hlen := sets_len' hset
  have hc : comE m r.nm r.nm = 0 := by unfold comE; rw [if_pos h1]; exact h1
  have hL : comL m r.nm r.nm = r.may := by
    unfold comL
    rw [h2]
    apply List.ext_getElem?
    intro i
    rw [List.getElem?_zipWith]
    cases hx : r.may[i]? with
    | none => rfl
    | some x =>
      have hb := sets_range h hset hx
      obtain ⟨z, rfl⟩ : ∃ z : Nat, x = (z : Int) := ⟨x.toNat, by omega⟩
      show some (meetF (z : Int) (z : Int)) = _
      rw [meet_nat (by omega) (by omega), Nat.and_self]
  have hall : (comL m r.nm r.nm).all (fun z => decide (z ≠ 0)) = true := by
    rw [hL, List.all_eq_true]
    intro z hz
    obtain ⟨i, hi, rfl⟩ := List.mem_iff_getElem.1 hz
    have := sets_range h hset (List.getElem?_eq_getElem hi)
    simp; omega
  have hs : sameE m r.nm r.nm = 0 := by unfold sameE; rw [if_pos hc, if_pos hall]
  have hsl : sameL m r.nm r.nm = r.may.map leastI := by unfold sameL; rw [if_pos hs, hL]
  have hat : ∀ (i : Nat) (x : Int), r.may[i]? = some x → ∃ z : Nat, x = (z : Int) ∧ 0 < z ∧ z < 65536 ∧ leastI x = ((tzN z : Nat) : Int) ∧ tzN z < 16 ∧ z.testBit (tzN z) = true := fun i x hx => by
    have hb := sets_range h hset hx
    obtain ⟨z, rfl⟩ : ∃ z : Nat, x = (z : Int) := ⟨x.toNat, by omega⟩
    have h3 := tz_ok (x := z) (by omega) (by omega)
    exact ⟨z, rfl, by omega, by omega, rfl, h3.1, h3.2.1⟩
  have hbit : bitsF (sameL m r.nm r.nm) = r.may.map fun x => (2 : Int) ^ (tzN x.toNat) := by
    unfold bitsF
    rw [hsl, if_pos]
    · rw [List.map_map]
      rfl
    · rw [List.all_eq_true]
      intro y hy
      rw [List.mem_map] at hy
      obtain ⟨x, hx, rfl⟩ := hy
      obtain ⟨i, hi, rfl⟩ := List.mem_iff_getElem.1 hx
      obtain ⟨z, hz, _, _, e, ht, _⟩ := hat i _ (List.getElem?_eq_getElem hi)
      unfold stOk
      rw [e]
      simp; omega
  refine ⟨hs, ?_, ?_, by rw [hsl, List.length_map]; exact hlen⟩
  · rw [seenE_ok h, if_pos]
    rw [List.all_eq_true]
    intro l hl
    rw [List.mem_singleton] at hl
    subst hl
    rw [hbit]
    refine sets_mk (by rw [List.length_map]; exact hlen) fun c n x hn hx => ?_
    rw [List.getElem?_map] at hx
    obtain ⟨y, hy, rfl⟩ := Option.map_eq_some_iff.1 hx
    obtain ⟨z, rfl, h0, h3, _, ht, hb⟩ := hat c y hy
    have h4 := sets_at hset hn hy
    have h5 : 2 ^ tzN z ≤ z := Nat.ge_two_pow_of_testBit hb
    show 1 ≤ (2 : Int) ^ tzN z ∧ (2 : Int) ^ tzN z ≤ _
    rw [show ((2 : Int) ^ tzN z) = ((2 ^ tzN z : Nat) : Int) from by simp]
    have := Nat.two_pow_pos (tzN z)
    omega
  · rw [hbit, fits_iff]
    intro i x y hx hy
    rw [List.getElem?_map, hx] at hy
    simp only [Option.map_some, Option.some.injEq] at hy
    obtain ⟨z, rfl, h0, h3, _, ht, hb⟩ := hat i x hx
    rw [← hy]
    exact (meet_pow (by omega) ht).2 hb
theorem fits_meet {r a b : List Int} (ha : ∀ (i : Nat) (x : Int), a[i]? = some x → 0 ≤ x ∧ x ≤ 65535) (hb : ∀ (i : Nat) (x : Int), b[i]? = some x → 0 ≤ x ∧ x ≤ 65535) (hr : ∀ (i : Nat) (x : Int), r[i]? = some x → 0 ≤ x ∧ x ≤ 65535)
    (hl : a.length = b.length) (h : fitsF r (List.zipWith meetF a b) = true) : fitsF r a = true := by
  rw [fits_iff] at h ⊢
  intro i x y hx hy e
  have hi : i < b.length := by have := (List.getElem?_eq_some_iff.1 hy).1; omega
  have hz : b[i]? = some b[i] := List.getElem?_eq_getElem hi
  have h1 := h i x (meetF y b[i]) hx (by rw [List.getElem?_zipWith, hy, hz])
  have b1 := hr i x hx; have b2 := ha i y hy; have b3 := hb i _ hz
  generalize b[i] = z at h1 b3
  obtain ⟨x, rfl⟩ : ∃ k : Nat, x = (k : Int) := ⟨x.toNat, by omega⟩
  obtain ⟨y, rfl⟩ : ∃ k : Nat, y = (k : Int) := ⟨y.toNat, by omega⟩
  obtain ⟨z, rfl⟩ : ∃ k : Nat, z = (k : Int) := ⟨z.toNat, by omega⟩
  rw [meet_nat (by omega) (by omega)] at e
  rw [meet_nat (by omega) (by omega), meet_nat (by omega) (Nat.le_trans Nat.and_le_left (by omega)), ← Nat.and_assoc, show x &&& y = 0 from by omega] at h1
  simp at h1
theorem both_rem {m : Mx} {a b : List Int} (h : bothE m a b = 0) : seenE m [a] = 0 ∧ seenE m [bothL m a b] = 0 ∧ partF (remO m (bothL m a b)) (remO m a) = true := by
  have h0 : seenE m [a, b] = 0 ∧ fitsF a b = true := by
    unfold bothE at h
    split at h
    · rename_i h1
      refine ⟨h1, ?_⟩
      split at h
      · assumption
      · cases h
    · rename_i h1
      exact absurd h h1
  have hm : mxF m = true := by
    cases hm : mxF m with
    | true => rfl
    | false => rw [seenE_bad hm] at h0; cases h0.1
  have hs := h0.1
  rw [seen2 hm] at hs
  have hab : setsF m.st a = true ∧ setsF m.st b = true := by
    by_cases e : setsF m.st a = true ∧ setsF m.st b = true
    · exact e
    · rw [if_neg e] at hs; cases hs
  have hl : bothL m a b = List.zipWith meetF a b := by unfold bothL; rw [if_pos h]
  have ra : ∀ (i : Nat) (x : Int), a[i]? = some x → 0 ≤ x ∧ x ≤ 65535 := fun i x hx => by have := sets_range hm hab.1 hx; omega
  have rb : ∀ (i : Nat) (x : Int), b[i]? = some x → 0 ≤ x ∧ x ≤ 65535 := fun i x hx => by have := sets_range hm hab.2 hx; omega
  have e1 : seenE m [a] = 0 := by rw [seenE_ok hm]; simp [hab.1]
  have hset : setsF m.st (List.zipWith meetF a b) = true := by
    have l1 := sets_len' hab.1
    have l2 := sets_len' hab.2
    refine sets_mk (by rw [List.length_zipWith]; omega) fun c n x hn hx => ?_
    rw [List.getElem?_zipWith] at hx
    have hc : c < m.st.length := (List.getElem?_eq_some_iff.1 hn).1
    have ha : a[c]? = some a[c] := List.getElem?_eq_getElem (by omega)
    have hb : b[c]? = some b[c] := List.getElem?_eq_getElem (by omega)
    rw [ha, hb] at hx
    have hx := Option.some.inj hx
    have hne := fits_at h0.2 ha hb
    have q1 := sets_at hab.1 hn ha
    have q2 := ra c _ ha; have q3 := rb c _ hb
    rw [hx] at hne
    generalize a[c] = y at hx q1 q2
    generalize b[c] = z at hx q3
    obtain ⟨y, rfl⟩ : ∃ k : Nat, y = (k : Int) := ⟨y.toNat, by omega⟩
    obtain ⟨z, rfl⟩ : ∃ k : Nat, z = (k : Int) := ⟨z.toNat, by omega⟩
    rw [meet_nat (by omega) (by omega)] at hx
    have := Nat.and_le_left (n := y) (m := z)
    omega
  refine ⟨e1, by rw [hl, seenE_ok hm]; simp [hset], ?_⟩
  rw [part_iff]
  intro x hx
  unfold remO at hx ⊢
  rw [if_pos (by rw [hl, seenE_ok hm]; simp [hset]), List.mem_map] at hx
  rw [if_pos e1, List.mem_map]
  obtain ⟨r, hr, rfl⟩ := hx
  unfold remL at hr ⊢
  rw [List.mem_filter] at hr
  refine ⟨r, List.mem_filter.2 ⟨hr.1, ?_⟩, rfl⟩
  rw [hl] at hr
  exact fits_meet ra rb (fun i x hx => by have := sets_range hm ((mx_all hm).2.2 r hr.1) hx; omega) ((sets_len' hab.1).trans (sets_len' hab.2).symm) hr.2
end Go.Ky
