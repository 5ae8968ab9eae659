
/- Confused: the mathematics; the lists of its first loops. -/
import Derived.Test.YthfegbcbpeedbaaGreatDoorKyCg
import Derived.Test.YthfegbcbpeedbaaGreatDoorKyOo
namespace Go.Ky
open Go.Nm
def allN : List Int := (List.range 65536).map fun n : Nat => (n : Int)
theorem allN_inc : Inc allN := by
  unfold allN Inc
  rw [List.pairwise_map]
  exact List.pairwise_lt_range.imp fun {a b} h => by omega
theorem allN_mem {z : Int} : z ∈ allN ↔ 0 ≤ z ∧ z < 65536 := by
  unfold allN
  rw [List.mem_map]
  constructor
  · rintro ⟨n, hn, rfl⟩
    have := List.mem_range.1 hn
    omega
  · rintro ⟨h1, h2⟩
    exact ⟨z.toNat, List.mem_range.2 (by omega), by omega⟩
/-- the names that the leaves have -/
def keysB (lv : List (List Int)) : List Int := allN.filter fun z => lv.any fun L => decide (z ∈ L)
/-- those that a leaf has behind a name -/
def pairB (lv : List (List Int)) (a : Int) : List Int := allN.filter fun z => lv.any fun L => decide (a ∈ L ∧ z ∈ L ∧ a < z)
def confF (lv : List (List Int)) : List (List Int) := (keysB lv).flatMap fun a => (pairB lv a).map fun b => [a, b]
def confL (m : Mx) (k : Kx) : List (List Int) := if ckE m k = 0 then confF k.lv else []
theorem keysB_inc (lv : List (List Int)) : Inc (keysB lv) := List.Pairwise.filter _ allN_inc
theorem pairB_inc (lv : List (List Int)) (a : Int) : Inc (pairB lv a) := List.Pairwise.filter _ allN_inc
theorem keysB_len (lv : List (List Int)) : (keysB lv).length ≤ 65536 := by
  refine Nat.le_trans (List.length_filter_le _ _) ?_
  unfold allN; simp
theorem pairB_len (lv : List (List Int)) (a : Int) : (pairB lv a).length ≤ 65536 := by
  refine Nat.le_trans (List.length_filter_le _ _) ?_
  unfold allN; simp
theorem keysB_mem {lv : List (List Int)} (h : ∀ L ∈ lv, Nms L) {z : Int} : z ∈ keysB lv ↔ ∃ L ∈ lv, z ∈ L := by
  unfold keysB
  rw [List.mem_filter, allN_mem, List.any_eq_true]
  constructor
  · rintro ⟨_, L, hL, hz⟩; exact ⟨L, hL, of_decide_eq_true hz⟩
  · rintro ⟨L, hL, hz⟩
    have := (h L hL).2 z hz
    exact ⟨by omega, L, hL, decide_eq_true hz⟩
theorem pairB_mem {lv : List (List Int)} (h : ∀ L ∈ lv, Nms L) {a z : Int} : z ∈ pairB lv a ↔ ∃ L ∈ lv, a ∈ L ∧ z ∈ L ∧ a < z := by
  unfold pairB
  rw [List.mem_filter, allN_mem, List.any_eq_true]
  constructor
  · rintro ⟨_, L, hL, hz⟩; exact ⟨L, hL, of_decide_eq_true hz⟩
  · rintro ⟨L, hL, hz⟩
    have := (h L hL).2 z hz.2.1
    exact ⟨by omega, L, hL, decide_eq_true hz⟩
/-- the positions that were gone through -/
def CfP (lv : List (List Int)) (P : Nat → Nat → Prop) (G : Int → List (List Int)) : Prop := ∀ a L, L ∈ G a ↔ ∃ (j i : Nat) (leaf : List Int), P j i ∧ lv[j]? = some leaf ∧ leaf[i]? = some a ∧ L = leaf.drop (i + 1)
def CfK (lv : List (List Int)) (P : Nat → Nat → Prop) (a : Int) : Prop := ∃ (j i : Nat) (leaf : List Int), P j i ∧ lv[j]? = some leaf ∧ leaf[i]? = some a
def PJ (j i : Nat) (j' i' : Nat) : Prop := j' < j ∨ (j' = j ∧ i' < i)
theorem CfP.put {lv : List (List Int)} {j i : Nat} {G : Int → List (List Int)} {leaf : List Int} {a : Int} (h : CfP lv (PJ j i) G) (hl : lv[j]? = some leaf) (ha : leaf[i]? = some a) : CfP lv (PJ j (i + 1)) (fun k => if k = a then G a ++ [leaf.drop (i + 1)] else G k) := fun b L => by
  have key : L ∈ (if b = a then G a ++ [leaf.drop (i + 1)] else G b) ↔ L ∈ G b ∨ (b = a ∧ L = leaf.drop (i + 1)) := by
    by_cases e : b = a
    · subst e; rw [if_pos rfl, List.mem_append, List.mem_singleton]; simp
    · rw [if_neg e]; simp [e]
  show L ∈ (if b = a then G a ++ [leaf.drop (i + 1)] else G b) ↔ _
  rw [key, h]
  constructor
  · rintro (⟨j', i', lf, hp, r⟩ | ⟨rfl, rfl⟩)
    · exact ⟨j', i', lf, by unfold PJ at *; omega, r⟩
    · exact ⟨j, i, leaf, .inr ⟨rfl, by omega⟩, hl, ha, rfl⟩
  · rintro ⟨j', i', lf, hp, h1, h2, h3⟩
    by_cases e : j' = j ∧ i' = i
    · obtain ⟨rfl, rfl⟩ := e
      rw [hl] at h1; injection h1 with h1; subst h1
      rw [ha] at h2; injection h2 with h2
      exact .inr ⟨h2.symm, h3⟩
    · exact .inl ⟨j', i', lf, by unfold PJ at *; omega, h1, h2, h3⟩
theorem CfK.put {lv : List (List Int)} {j i : Nat} {leaf : List Int} {a : Int} (hl : lv[j]? = some leaf) (ha : leaf[i]? = some a) (b : Int) : (CfK lv (PJ j i) b ∨ b = a) ↔ CfK lv (PJ j (i + 1)) b := by
  constructor
  · rintro (⟨j', i', lf, hp, r⟩ | rfl)
    · exact ⟨j', i', lf, by unfold PJ at *; omega, r⟩
    · exact ⟨j, i, leaf, .inr ⟨rfl, by omega⟩, hl, ha⟩
  · rintro ⟨j', i', lf, hp, h1, h2⟩
    by_cases e : j' = j ∧ i' = i
    · obtain ⟨rfl, rfl⟩ := e
      rw [hl] at h1; injection h1 with h1; subst h1
      rw [ha] at h2; injection h2 with h2
      exact .inr h2.symm
    · exact .inl ⟨j', i', lf, by unfold PJ at *; omega, h1, h2⟩
theorem PJ_next {lv : List (List Int)} {j : Nat} {leaf : List Int} (hl : lv[j]? = some leaf) (j' i' : Nat) (lf : List Int) (h1 : lv[j']? = some lf) (h2 : i' < lf.length) : PJ j leaf.length j' i' ↔ PJ (j + 1) 0 j' i' := by
  unfold PJ
  constructor
  · rintro (h | ⟨h, _⟩) <;> omega
  · rintro (h | ⟨h, h3⟩)
    · by_cases e : j' = j
      · subst e
        rw [hl] at h1; injection h1 with h1; subst h1
        exact .inr ⟨rfl, h2⟩
      · exact .inl (by omega)
    · omega
theorem CfP.next {lv : List (List Int)} {j : Nat} {leaf : List Int} {G : Int → List (List Int)} (hl : lv[j]? = some leaf) (h : CfP lv (PJ j leaf.length) G) : CfP lv (PJ (j + 1) 0) G := fun a L => by
  rw [h]
  constructor
  · rintro ⟨j', i', lf, hp, h1, h2, h3⟩
    exact ⟨j', i', lf, (PJ_next hl j' i' lf h1 (List.getElem?_eq_some_iff.1 h2).1).1 hp, h1, h2, h3⟩
  · rintro ⟨j', i', lf, hp, h1, h2, h3⟩
    exact ⟨j', i', lf, (PJ_next hl j' i' lf h1 (List.getElem?_eq_some_iff.1 h2).1).2 hp, h1, h2, h3⟩
theorem CfK.next {lv : List (List Int)} {j : Nat} {leaf : List Int} (hl : lv[j]? = some leaf) (a : Int) : CfK lv (PJ j leaf.length) a ↔ CfK lv (PJ (j + 1) 0) a := by
  constructor
  · rintro ⟨j', i', lf, hp, h1, h2⟩
    exact ⟨j', i', lf, (PJ_next hl j' i' lf h1 (List.getElem?_eq_some_iff.1 h2).1).1 hp, h1, h2⟩
  · rintro ⟨j', i', lf, hp, h1, h2⟩
    exact ⟨j', i', lf, (PJ_next hl j' i' lf h1 (List.getElem?_eq_some_iff.1 h2).1).2 hp, h1, h2⟩
theorem CfP.start (lv : List (List Int)) : CfP lv (PJ 0 0) (fun _ => []) := fun a L => by
  constructor
  · intro h; cases h
  · rintro ⟨j, i, _, h, _⟩; unfold PJ at h; omega
theorem CfK.start (lv : List (List Int)) (a : Int) : False ↔ CfK lv (PJ 0 0) a := by
  constructor
  · exact False.elim
  · rintro ⟨j, i, _, h, _⟩; unfold PJ at h; omega
theorem drop_mem {L : List Int} (hi : Inc L) {i : Nat} {a : Int} (ha : L[i]? = some a) (z : Int) : z ∈ L.drop (i + 1) ↔ z ∈ L ∧ a < z := by
  have hil := (List.getElem?_eq_some_iff.1 ha)
  have e : L = L.take i ++ a :: L.drop (i + 1) := by
    obtain ⟨h1, h2⟩ := hil
    rw [← h2, ← List.drop_eq_getElem_cons h1, List.take_append_drop]
  have hp : (L.take i ++ a :: L.drop (i + 1)).Pairwise (· < ·) := by rw [← e]; exact hi
  rw [List.pairwise_append, List.pairwise_cons] at hp
  constructor
  · intro h
    exact ⟨List.mem_of_mem_drop h, hp.2.1.1 z h⟩
  · rintro ⟨h1, h2⟩
    rw [e] at h1
    rcases List.mem_append.1 h1 with h3 | h3
    · have := hp.2.2 z h3 a (by simp); omega
    · rcases List.mem_cons.1 h3 with h4 | h4
      · omega
      · exact h4
theorem conf_keys {lv : List (List Int)} (h : ∀ L ∈ lv, Nms L) {n : Nat} (hn : lv.length = n) (z : Int) : CfK lv (PJ n 0) z ↔ z ∈ keysB lv := by
  rw [keysB_mem h]
  constructor
  · rintro ⟨j, i, L, _, h1, h2⟩; exact ⟨L, List.mem_of_getElem? h1, List.mem_of_getElem? h2⟩
  · rintro ⟨L, h1, h2⟩
    obtain ⟨j, hj⟩ := List.getElem?_of_mem h1
    obtain ⟨i, hi⟩ := List.getElem?_of_mem h2
    exact ⟨j, i, L, .inl (by have := (List.getElem?_eq_some_iff.1 hj).1; omega), hj, hi⟩
theorem conf_pairs {lv : List (List Int)} (h : ∀ L ∈ lv, Nms L) {n : Nat} (hn : lv.length = n) {G : Int → List (List Int)} (hG : CfP lv (PJ n 0) G) (a z : Int) : z ∈ pairB lv a ↔ ∃ L ∈ G a, z ∈ L := by
  rw [pairB_mem h]
  constructor
  · rintro ⟨L, h1, h2, h3, h4⟩
    obtain ⟨j, hj⟩ := List.getElem?_of_mem h1
    obtain ⟨i, hi⟩ := List.getElem?_of_mem h2
    exact ⟨L.drop (i + 1), (hG a _).2 ⟨j, i, L, .inl (by have := (List.getElem?_eq_some_iff.1 hj).1; omega), hj, hi, rfl⟩, (drop_mem (h L h1).1 hi z).2 ⟨h3, h4⟩⟩
  · rintro ⟨L, h1, h2⟩
    obtain ⟨j, i, lf, _, hj, hi, rfl⟩ := (hG a L).1 h1
    have hm := List.mem_of_getElem? hj
    have h3 := (drop_mem (h lf hm).1 hi z).1 h2
    exact ⟨lf, hm, List.mem_of_getElem? hi, h3.1, h3.2⟩
theorem conf_bound {lv : List (List Int)} (h : ∀ L ∈ lv, Nms L) {G : Int → List (List Int)} {P : Nat → Nat → Prop} (hG : CfP lv P G) (a : Int) : ∀ L ∈ G a, (∀ z ∈ L, 1 ≤ z ∧ z ≤ 65535) ∧ ∃ lf ∈ lv, L.length ≤ lf.length := fun L hL => by
  obtain ⟨j, i, lf, _, hj, hi, rfl⟩ := (hG a L).1 hL
  have hm := List.mem_of_getElem? hj
  exact ⟨fun z hz => (h lf hm).2 z (List.mem_of_mem_drop hz), lf, hm, by rw [List.length_drop]; omega⟩
end Go.Ky
