/- Relations that are composed: the mathematics. -/
import Derived.Test.YtplpogonkfnafaaNmPe
import Derived.Test.YtplpogonkfnafaaNmTw
namespace Go.Proofs.Ytplpogonkfnafaa
open Go.RowKit Go.Nm

section
variable {b : Bk} (hb : Val b)
include hb
theorem mns_in {n m : Nat} {A B : List Int} {x y : Int} (hA : (vers b)[n]? = some A) (hB : (vers b)[m]? = some B) (hx : x ∈ A) (hn : n ≤ b.chs.length) (hm : m ≤ b.chs.length) (h : y ∈ mns b.chs n [x] m) : y ∈ B := by
  obtain ⟨B', hB', _, h2⟩ := mns_ok hb hA (l := [x]) (by simp [Inc]) (by simp; exact hx) hn hm
  rw [hB] at hB'; injection hB' with hB'; subst hB'
  exact h2 y h
theorem mns_fwd {n m : Nat} {A : List Int} {x y : Int} (hA : (vers b)[n]? = some A) (hx : x ∈ A) (hnm : n ≤ m) (hm : m ≤ b.chs.length) : y ∈ mns b.chs n [x] m ↔ Pth b.chs n (m - n) x y := by
  unfold mns
  rw [if_pos hnm, mem_fwd hb hA (by simp [Inc]) (by simp; exact hx) (m - n) (by omega) y]
  simp
theorem comp_up {n k m : Nat} {A B : List Int} {x y : Int} (hA : (vers b)[n]? = some A) (hB : (vers b)[k]? = some B) (hx : x ∈ A) (h1 : n ≤ k) (h2 : k ≤ m) (hm : m ≤ b.chs.length) : y ∈ mns b.chs n [x] m ↔ ∃ z, z ∈ mns b.chs n [x] k ∧ y ∈ mns b.chs k [z] m := by
  rw [mns_fwd hb hA hx (by omega) hm, show m - n = (k - n) + (m - k) by omega, pth_add, show n + (k - n) = k by omega]
  constructor
  · rintro ⟨z, h3, h4⟩
    have hz := (mns_fwd hb hA hx h1 (by omega)).2 h3
    exact ⟨z, hz, (mns_fwd hb hB (mns_in hb hA hB hx (by omega) (by omega) hz) h2 hm).2 h4⟩
  · rintro ⟨z, h3, h4⟩
    exact ⟨z, (mns_fwd hb hA hx h1 (by omega)).1 h3, (mns_fwd hb hB (mns_in hb hA hB hx (by omega) (by omega) h3) h2 hm).1 h4⟩
theorem comp_down {n k m : Nat} {A B C : List Int} {x y : Int} (hA : (vers b)[n]? = some A) (hB : (vers b)[k]? = some B) (hC : (vers b)[m]? = some C) (hx : x ∈ A) (h1 : k ≤ n) (h2 : m ≤ k) (hn : n ≤ b.chs.length) : y ∈ mns b.chs n [x] m ↔ ∃ z, z ∈ mns b.chs n [x] k ∧ y ∈ mns b.chs k [z] m := by
  constructor
  · intro h
    have hy := mns_in hb hA hC hx hn (by omega) h
    obtain ⟨z, h3, h4⟩ := (comp_up hb hC hB hy h2 h1 hn).1 ((mns_symm hb hA hC hx hy hn (by omega)).1 h)
    have hz := mns_in hb hC hB hy (by omega) (by omega) h3
    exact ⟨z, (mns_symm hb hA hB hx hz hn (by omega)).2 h4, (mns_symm hb hB hC hz hy (by omega) (by omega)).2 h3⟩
  · rintro ⟨z, h3, h4⟩
    have hz := mns_in hb hA hB hx hn (by omega) h3
    have hy := mns_in hb hB hC hz (by omega) (by omega) h4
    exact (mns_symm hb hA hC hx hy hn (by omega)).2 ((comp_up hb hC hB hy h2 h1 hn).2 ⟨z, (mns_symm hb hB hC hz hy (by omega) (by omega)).1 h4, (mns_symm hb hA hB hx hz hn (by omega)).1 h3⟩)
theorem comp_same {n k m : Nat} {A B C : List Int} {x y : Int} (hA : (vers b)[n]? = some A) (hB : (vers b)[k]? = some B) (hC : (vers b)[m]? = some C) (hx : x ∈ A) (hn : n ≤ b.chs.length) (hm : m ≤ b.chs.length) (h : n ≤ k ∧ k ≤ m ∨ k ≤ n ∧ m ≤ k) : y ∈ mns b.chs n [x] m ↔ ∃ z, z ∈ mns b.chs n [x] k ∧ y ∈ mns b.chs k [z] m := by
  rcases h with ⟨h1, h2⟩ | ⟨h1, h2⟩
  · exact comp_up hb hA hB hx h1 h2 hm
  · exact comp_down hb hA hB hC hx h1 h2 hn
theorem comp_sub {n k m : Nat} {A B C : List Int} {x y : Int} (hA : (vers b)[n]? = some A) (hB : (vers b)[k]? = some B) (hC : (vers b)[m]? = some C) (hx : x ∈ A) (hn : n ≤ b.chs.length) (hk : k ≤ b.chs.length) (hm : m ≤ b.chs.length) (h : y ∈ mns b.chs n [x] m) : ∃ z, z ∈ mns b.chs n [x] k ∧ y ∈ mns b.chs k [z] m := by
  have hy := mns_in hb hA hC hx hn hm h
  by_cases hs : n ≤ k ∧ k ≤ m ∨ k ≤ n ∧ m ≤ k
  · exact (comp_same hb hA hB hC hx hn hm hs).1 h
  · by_cases hf : (n ≤ m ∧ m ≤ k) ∨ (m ≤ n ∧ k ≤ m)
    · -- from the last version on
      obtain ⟨z, hz⟩ := mns_some hb hC hy hm hk
      have hzB := mns_in hb hC hB hy hm hk hz
      exact ⟨z, (comp_same hb hA hC hB hx hn hk (by omega)).2 ⟨y, h, hz⟩, (mns_symm hb hC hB hy hzB hm hk).1 hz⟩
    · obtain ⟨z, hz⟩ := mns_some hb hA hx hn hk
      have hzB := mns_in hb hA hB hx hn hk hz
      exact ⟨z, hz, (comp_same hb hB hA hC hzB hk hm (by omega)).2 ⟨x, (mns_symm hb hA hB hx hzB hn hk).1 hz, h⟩⟩
end
structure CpD (v w u : Int) (F S T : List (List Int)) (M : List Int) : Prop where
  ok : CmOk M F S
  len : F.length = T.length
  nt : T.length ≤ 400
  ns : S.length ≤ 400
  nm : M.length ≤ 400
  lf : ∀ l ∈ F, l.length ≤ 400
  ls : ∀ l ∈ S, l.length ≤ 400
  lt : ∀ l ∈ T, l.length ≤ 400
  lr : ∀ R, CmN M F S R → ∀ l ∈ R, l.length ≤ 400
  same : ∀ R, CmN M F S R → (v ≤ w ∧ w ≤ u ∨ w ≤ v ∧ u ≤ w) → R = T
  sub : ∀ R, CmN M F S R → ∀ (i : Nat) (r t : List Int), R[i]? = some r → T[i]? = some t → ∀ y ∈ t, y ∈ r
theorem cp_data {b : Bk} {v w u : Int} {F S T : List (List Int)} {M : List Int} {e f g h : Int} (h1 : stepsOut b v w = (F, e)) (h2 : stepsOut b w u = (S, f)) (h3 : stepsOut b v u = (T, g)) (h4 : namesOut b w = (M, h)) (he : e = 0) (hf : f = 0) (hg : g = 0) : h = 0 ∧ CpD v w u F S T M := by
  subst he hf hg
  have good : ∀ {n m : Int} {R : List (List Int)}, stepsOut b n m = (R, 0) → openE b [n, m] = 0 ∧ R = stF b n.toNat m.toNat := fun {n m R} h => by
    unfold stepsOut at h
    by_cases hz : openE b [n, m] = 0
    · rw [if_pos hz] at h; injection h with h _; exact ⟨hz, h.symm⟩
    · rw [if_neg hz] at h; injection h with _ h; exact absurd h hz
  obtain ⟨o1, rfl⟩ := good h1
  obtain ⟨o2, rfl⟩ := good h2
  obtain ⟨_, rfl⟩ := good h3
  clear h1 h2 h3
  obtain ⟨hb, hV⟩ := openE_val o1
  have hv := hV v (by simp)
  have hw := hV w (by simp)
  have hu := (openE_val o2).2 u (by simp)
  have en : openE b [w] = 0 := by
    unfold openE; rw [if_pos hb, if_pos (fun q hq => by simp at hq; subst hq; exact hw)]
  unfold namesOut at h4
  rw [if_pos en] at h4
  injection h4 with h4 h4'
  rw [val_len hb] at hv hw hu
  obtain ⟨n, rfl⟩ : ∃ k : Nat, v = (k : Int) := ⟨v.toNat, by omega⟩
  obtain ⟨k, rfl⟩ : ∃ k : Nat, w = (k : Int) := ⟨w.toNat, by omega⟩
  obtain ⟨m, rfl⟩ : ∃ k : Nat, u = (k : Int) := ⟨u.toNat, by omega⟩
  simp only [Int.toNat_natCast] at h4 ⊢
  have hn : n ≤ b.chs.length := by omega
  have hk : k ≤ b.chs.length := by omega
  have hm : m ≤ b.chs.length := by omega
  obtain ⟨A, hA, hAi, hAl⟩ := vers_at hb hn
  obtain ⟨B, hB, hBi, hBl⟩ := vers_at hb hk
  obtain ⟨C, hC, hCi, hCl⟩ := vers_at hb hm
  have eA : (vers b).getD n [] = A := by rw [List.getD_eq_getElem?_getD, hA]; rfl
  have eB : (vers b).getD k [] = B := by rw [List.getD_eq_getElem?_getD, hB]; rfl
  rw [eB] at h4
  subst h4
  unfold stF
  rw [eA, eB]
  have hVB := vers_ver _ (List.mem_of_getElem? hB)
  have hVC := vers_ver _ (List.mem_of_getElem? hC)
  have one : ∀ {p q : Nat} {P Q : List Int} {x : Int}, (vers b)[p]? = some P → (vers b)[q]? = some Q → x ∈ P → p ≤ b.chs.length → q ≤ b.chs.length → Inc (mns b.chs p [x] q) ∧ (∀ z ∈ mns b.chs p [x] q, z ∈ Q) ∧ (mns b.chs p [x] q).length ≤ Q.length := fun {p q P Q x} hP hQ hx hp hq => by
    obtain ⟨Q', hQ', i1, i2⟩ := mns_ok hb hP (l := [x]) (by simp [Inc]) (by simp; exact hx) hp hq
    rw [hQ] at hQ'; injection hQ' with hQ'; subst hQ'
    exact ⟨i1, i2, inc_sub_len i1 i2⟩
  have led : ∀ {x y : Int}, x ∈ A → (LedN B (B.map fun z => mns b.chs k [z] m) (mns b.chs n [x] k) y ↔ ∃ z, z ∈ mns b.chs n [x] k ∧ y ∈ mns b.chs k [z] m) := fun {x y} hx => by
    constructor
    · rintro ⟨z, hz, j, bl, h1, h2, h3⟩
      rw [List.getElem?_map, h1] at h2
      injection h2 with h2
      subst h2
      exact ⟨z, hz, h3⟩
    · rintro ⟨z, hz, h3⟩
      obtain ⟨j, hj⟩ := List.getElem?_of_mem ((one hA hB hx hn hk).2.1 z hz)
      exact ⟨z, hz, j, _, hj, by rw [List.getElem?_map, hj]; rfl, h3⟩
  have rows : ∀ {R : List (List Int)}, CmN B (A.map fun x => mns b.chs n [x] k) (B.map fun z => mns b.chs k [z] m) R → ∀ {i : Nat} {r : List Int}, R[i]? = some r → ∃ x, A[i]? = some x ∧ Inc r ∧ ∀ y, y ∈ r ↔ ∃ z, z ∈ mns b.chs n [x] k ∧ y ∈ mns b.chs k [z] m := fun {R} hR {i r} hr => by
    have hi : i < A.length := by
      have h1 := (List.getElem?_eq_some_iff.1 hr).1
      have h2 := hR.1
      rw [List.length_map] at h2
      omega
    have hx : A[i]? = some A[i] := List.getElem?_eq_getElem hi
    obtain ⟨h1, h2⟩ := hR.2 i _ r (by rw [List.getElem?_map, hx]; rfl) hr
    exact ⟨_, hx, h1, fun y => (h2 y).trans (led (List.mem_of_getElem? hx))⟩
  refine ⟨h4'.symm, ⟨⟨.inr hVB, by simp, ?_, by simpa using hAl, ?_⟩, by simp, by simpa using hAl, by simpa using hBl, hBl, ?_, ?_, ?_, ?_, ?_, ?_⟩⟩
  · rw [List.all_eq_true]
    intro l hl
    obtain ⟨z, hz, rfl⟩ := List.mem_map.1 hl
    obtain ⟨i1, i2, _⟩ := one hB hC hz hk hm
    exact decide_eq_true ⟨i1, fun y hy => hVC.2.2.2 y (i2 y hy)⟩
  · rw [List.all_eq_true]
    intro l hl
    obtain ⟨x, hx, rfl⟩ := List.mem_map.1 hl
    obtain ⟨i1, i2, _⟩ := one hA hB hx hn hk
    exact decide_eq_true ⟨i1, i2⟩
  · intro l hl
    obtain ⟨x, hx, rfl⟩ := List.mem_map.1 hl
    exact Nat.le_trans (one hA hB hx hn hk).2.2 hBl
  · intro l hl
    obtain ⟨x, hx, rfl⟩ := List.mem_map.1 hl
    exact Nat.le_trans (one hB hC hx hk hm).2.2 hCl
  · intro l hl
    obtain ⟨x, hx, rfl⟩ := List.mem_map.1 hl
    exact Nat.le_trans (one hA hC hx hn hm).2.2 hCl
  · intro R hR l hl
    obtain ⟨i, hi⟩ := List.getElem?_of_mem hl
    obtain ⟨x, hx, h1, h2⟩ := rows hR hi
    have hxA := List.mem_of_getElem? hx
    exact Nat.le_trans (inc_sub_len h1 (fun y hy => by
      obtain ⟨z, hz, hyz⟩ := (h2 y).1 hy
      exact mns_in hb hB hC (mns_in hb hA hB hxA hn hk hz) hk hm hyz)) hCl
  · intro R hR hd
    refine List.ext_getElem? fun i => ?_
    by_cases hi : i < A.length
    · have hR' : i < R.length := by have := hR.1; rw [List.length_map] at this; omega
      have hr : R[i]? = some R[i] := List.getElem?_eq_getElem hR'
      obtain ⟨x, hx, h1, h2⟩ := rows hR hr
      have hxA := List.mem_of_getElem? hx
      rw [hr, List.getElem?_map, hx]
      refine congrArg some (inc_ext h1 (one hA hC hxA hn hm).1 fun y => ?_)
      rw [h2 y]
      exact (comp_same hb hA hB hC hxA hn hm (by omega)).symm
    · rw [List.getElem?_eq_none (by have := hR.1; rw [List.length_map] at this; omega), List.getElem?_eq_none (by simp; omega)]
  · intro R hR i r t hr ht y hy
    obtain ⟨x, hx, _, h2⟩ := rows hR hr
    rw [List.getElem?_map, hx] at ht
    injection ht with ht
    subst ht
    exact (h2 y).2 (comp_sub hb hA hB hC (List.mem_of_getElem? hx) hn hk hm hy)
end Go.Proofs.Ytplpogonkfnafaa
