/- A further change: the mathematics. -/
import Derived.Test.YtplpogonkfnafaaNmNi
import Derived.Test.YtplpogonkfnafaaNmTc
namespace Go.Proofs.Ytplpogonkfnafaa
open Go.RowKit Go.Nm

theorem versF_pre : ∀ (L : List Ch) (a : List Int) (yr : Int) (M : List Ch), L.length < (versF a yr L).length → ∀ k, k ≤ L.length → (versF a yr (L ++ M))[k]? = (versF a yr L)[k]?
  | [], a, yr, M, _, k, hk => by
    have : k = 0 := by simpa using hk
    subst this
    rw [List.nil_append, versF_head, versF_head]
  | x :: L, a, yr, M, h, k, hk => by
    rw [List.cons_append]
    unfold versF at h ⊢
    by_cases hx : okCh a yr x
    · rw [if_pos hx] at h
      rw [if_pos hx, if_pos hx]
      cases k with
      | zero => rfl
      | succ k =>
        simp only [List.getElem?_cons_succ]
        exact versF_pre L _ _ M (by simpa using h) k (by simpa using hk)
    · rw [if_neg hx] at h
      simp at h
theorem fwdN_pre {b : Bk} {y : Ch} {v : Nat} {l : List Int} : ∀ k, v + k ≤ b.chs.length → fwdN (b.chs ++ [y]) v k l = fwdN b.chs v k l
  | 0, _ => rfl
  | k + 1, h => by
    unfold fwdN
    rw [List.getElem?_append_left (by omega), fwdN_pre k (by omega)]
theorem bwdN_pre {b : Bk} {y : Ch} {v : Nat} (hvl : v ≤ b.chs.length) {l : List Int} : ∀ k, k ≤ v → bwdN (b.chs ++ [y]) v k l = bwdN b.chs v k l
  | 0, _ => rfl
  | k + 1, h => by
    unfold bwdN
    rw [List.getElem?_append_left (by omega), bwdN_pre hvl k (by omega)]
theorem mns_pre {b : Bk} {y : Ch} {v w : Nat} (hvl : v ≤ b.chs.length) (hw : w ≤ b.chs.length) {l : List Int} : mns (b.chs ++ [y]) v l w = mns b.chs v l w := by
  unfold mns
  by_cases h : v ≤ w
  · rw [if_pos h, if_pos h, fwdN_pre _ (by omega)]
  · rw [if_neg h, if_neg h, bwdN_pre hvl _ (by omega)]
theorem mns_last {b : Bk} {y : Ch} {v : Nat} (hvl : v ≤ b.chs.length) {l : List Int} : mns (b.chs ++ [y]) v l (b.chs.length + 1) = rep (mns b.chs v l b.chs.length) y.fr y.to := by
  unfold mns
  rw [if_pos (by omega), if_pos hvl, show b.chs.length + 1 - v = (b.chs.length - v) + 1 by omega]
  rw [fwd_step (x := y) (by rw [show v + (b.chs.length - v) = b.chs.length by omega, List.getElem?_append_right (Nat.le_refl _), Nat.sub_self]; rfl), fwdN_pre _ (by omega)]
section
variable {b : Bk} {y : Ch} (hv : Val b)
include hv
theorem vers_pre {k : Nat} (hk : k ≤ b.chs.length) : (vers ⟨b.first, b.chs ++ [y]⟩)[k]? = (vers b)[k]? := by
  have h := hv.2
  unfold vers at h ⊢
  by_cases hf : Ver b.first
  · rw [if_pos hf] at h
    simp only [if_pos hf]
    exact versF_pre _ _ _ _ h k hk
  · rw [if_neg hf] at h
    simp at h
variable (hv2 : Val ⟨b.first, b.chs ++ [y]⟩)
include hv2
theorem openE_pre {V : List Int} (h : openE b V = 0) : openE ⟨b.first, b.chs ++ [y]⟩ V = 0 := by
  obtain ⟨_, h2⟩ := openE_val h
  unfold openE
  rw [if_pos hv2, if_pos]
  intro v hvm
  have := h2 v hvm
  rw [val_len hv] at this
  have e := val_len hv2
  simp only [List.length_append, List.length_singleton] at e
  omega
omit hv2 in
theorem openAt_pre {V V2 : List Int} {n x : Int} (h : openAtE b V n x = 0) (h2 : openE ⟨b.first, b.chs ++ [y]⟩ (V2 ++ [n]) = 0) : openAtE ⟨b.first, b.chs ++ [y]⟩ V2 n x = 0 := by
  obtain ⟨_, hV, hx⟩ := openAtE_zero h
  have hn := hV n (by simp)
  unfold openAtE
  rw [if_pos h2, if_pos]
  rw [List.getD_eq_getElem?_getD, vers_pre hv (by omega), ← List.getD_eq_getElem?_getD]
  exact hx
theorem names_pre {n : Int} {l : List Int} (h : namesOut b n = (l, 0)) : namesOut ⟨b.first, b.chs ++ [y]⟩ n = (l, 0) := by
  unfold namesOut at h ⊢
  by_cases h0 : openE b [n] = 0
  · rw [if_pos h0] at h
    rw [if_pos (openE_pre hv hv2 h0)]
    obtain ⟨_, hV⟩ := openE_val h0
    have := hV n (by simp)
    rw [val_len hv] at this
    rw [List.getD_eq_getElem?_getD, vers_pre hv (by omega), ← List.getD_eq_getElem?_getD]
    exact h
  · rw [if_neg h0] at h
    injection h with h1 h2
    exact absurd h2 h0
theorem means_pre {n x m : Int} {l : List Int} (h : meansOut b n x m = (l, 0)) : meansOut ⟨b.first, b.chs ++ [y]⟩ n x m = (l, 0) := by
  unfold meansOut at h ⊢
  by_cases h0 : openAtE b [m] n x = 0
  · rw [if_pos h0] at h
    obtain ⟨_, hV, hx⟩ := openAtE_zero h0
    have hn := hV n (by simp)
    have hm := hV m (by simp)
    have hop : openE b ([m] ++ [n]) = 0 := by
      unfold openE
      rw [if_pos hv, if_pos]
      intro v hvm
      have := hV v hvm
      rw [val_len hv]; omega
    rw [if_pos (openAt_pre hv h0 (openE_pre hv hv2 hop)), mns_pre (by omega) (by omega)]
    exact h
  · rw [if_neg h0] at h
    injection h with h1 h2
    exact absurd h2 h0
/-- what the last loops of the law go by -/
structure ApD (y : Ch) (m n : List Int) : Prop where
  mem : ∀ z, z ∈ n ↔ (z ∈ m ∧ z ∉ y.fr) ∨ (z ∈ y.to ∧ ∃ q ∈ m, q ∈ y.fr)
  inc : Inc n
  wm : ∀ z ∈ m, 1 ≤ z ∧ z ≤ 65535
  wn : ∀ z ∈ n, 1 ≤ z ∧ z ≤ 65535
  wt : ∀ z ∈ y.to, 1 ≤ z ∧ z ≤ 65535
  lm : m.length ≤ 400
  ln : n.length ≤ 400
theorem means_last {n x : Int} {l : List Int} (h : meansOut b n x (b.chs.length : Int) = (l, 0)) : ∃ l2, meansOut ⟨b.first, b.chs ++ [y]⟩ n x ((b.chs.length : Int) + 1) = (l2, 0) ∧ ApD y l l2 := by
  unfold meansOut at h
  by_cases h0 : openAtE b [(b.chs.length : Int)] n x = 0
  · rw [if_pos h0] at h
    injection h with h1 _
    rw [Int.toNat_natCast] at h1
    obtain ⟨_, hV, hx⟩ := openAtE_zero h0
    have hn := hV n (by simp)
    have e2 := val_len hv2
    simp only [List.length_append, List.length_singleton] at e2
    have hop : openE ⟨b.first, b.chs ++ [y]⟩ ([(b.chs.length : Int) + 1] ++ [n]) = 0 := by
      unfold openE
      rw [if_pos hv2, if_pos]
      intro v hvm
      simp at hvm
      rw [e2]
      rcases hvm with rfl | rfl <;> omega
    refine ⟨mns (b.chs ++ [y]) n.toNat [x] (b.chs.length + 1), ?_, ?_⟩
    · unfold meansOut
      rw [if_pos (openAt_pre hv h0 hop), show ((b.chs.length : Int) + 1).toNat = b.chs.length + 1 by omega]
    · obtain ⟨A, hA, hxA⟩ := getD_mem hx
      have hA2 : (vers ⟨b.first, b.chs ++ [y]⟩)[n.toNat]? = some A := by rw [vers_pre hv (by omega)]; exact hA
      obtain ⟨B, hB, hi1, hs1⟩ := mns_ok hv hA (l := [x]) (by simp [Inc]) (by simp; exact hxA) (by omega) (Nat.le_refl _)
      obtain ⟨C, hC, hi2, hs2⟩ := mns_ok hv2 hA2 (l := [x]) (by simp [Inc]) (by simp; exact hxA) (by simp; omega) (w := b.chs.length + 1) (by simp)
      obtain ⟨D, yr, hD, hok, hD2⟩ := vers_step hv2 (k := b.chs.length) (x := y) (by rw [List.getElem?_append_right (Nat.le_refl _), Nat.sub_self]; rfl)
      have hvB := vers_ver B (List.mem_of_getElem? hB)
      have hvC := vers_ver C (List.mem_of_getElem? hC)
      have hl1 := inc_sub_len hi1 hs1
      have hl2 := inc_sub_len hi2 hs2
      subst h1
      refine ⟨fun z => ?_, hi2, fun z hz => hvB.2.2.2 z (hs1 z hz), fun z hz => hvC.2.2.2 z (hs2 z hz), fun z hz => hok.2.2.2.1.2.2.2 z hz, by have := hvB.2.1; omega, by have := hvC.2.1; simp only at hl2; omega⟩
      rw [mns_last (by omega)]
      exact mem_rep hi1 hok.2.2.1.2.2.1
  · rw [if_neg h0] at h
    injection h with h1 h2
    exact absurd h2 h0
end
/-- as many names as a list holds -/
theorem count_inc {n : List Int} (hi : Inc n) (hw : ∀ z ∈ n, 1 ≤ z ∧ z ≤ 65535) : ((List.range 65536).filter fun k : Nat => decide ((k : Int) ∈ n)).length = n.length := by
  have h : ((List.range 65536).filter fun k : Nat => decide ((k : Int) ∈ n)).map (fun k : Nat => (k : Int)) = n := by
    apply inc_ext _ hi
    · intro z
      simp only [List.mem_map, List.mem_filter, List.mem_range, decide_eq_true_eq]
      constructor
      · rintro ⟨k, ⟨_, h⟩, rfl⟩; exact h
      · intro hz
        have := hw z hz
        exact ⟨z.toNat, ⟨by omega, by rw [Int.toNat_of_nonneg (by omega)]; exact hz⟩, by omega⟩
    · exact List.pairwise_map.2 (((List.pairwise_lt_range).filter _).imp fun h => by omega)
  rw [← List.length_map (f := fun k : Nat => (k : Int)), h]
end Go.Proofs.Ytplpogonkfnafaa
