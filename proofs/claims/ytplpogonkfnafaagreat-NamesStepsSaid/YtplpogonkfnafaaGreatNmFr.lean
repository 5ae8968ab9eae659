
/- The reference's fates as mathematics. -/
import Derived.Test.YtplpogonkfnafaaGreatNmFn
import Derived.Test.YtplpogonkfnafaaGreatNmBg
namespace Go.Proofs.YtplpogonkfnafaaGreat
open Go.RowKit Go.Nm

/-- all beginnings of fates up to a version -/
def lev (b : Bk) : Nat → List (List Int)
  | 0 => b.first.map fun y => [y]
  | k + 1 => stp b (lev b k)
theorem itr_lev (b : Bk) : ∀ j k, itr b j (lev b k) = lev b (k + j)
  | 0, k => rfl
  | j + 1, k => by
    show itr b j (lev b (k + 1)) = _
    rw [itr_lev b j (k + 1), show k + 1 + j = k + (j + 1) by omega]
theorem allF_lev (b : Bk) : allF b = lev b b.chs.length := by
  show fatesF b (b.chs.length + 1) [] = _
  rw [allF_itr, stp_first]
  have h := itr_lev b b.chs.length 0
  rw [Nat.zero_add] at h
  exact h
section
variable {b : Bk} (hb : Val b)
include hb
theorem lev_P : ∀ k A, k ≤ b.chs.length → (vers b)[k]? = some A → LevP k A (lev b k)
  | 0, A, _, hA => by
    have h0 := val_first hb
    rw [h0] at hA
    injection hA with hA
    subst hA
    intro g hg
    obtain ⟨y, hy, rfl⟩ := List.mem_map.1 hg
    exact ⟨rfl, y, hy, rfl⟩
  | k + 1, A, hk, hA => by
    obtain ⟨c, hc⟩ : ∃ c, b.chs[k]? = some c := ⟨_, List.getElem?_eq_getElem (by omega)⟩
    obtain ⟨A', B, hA', hB, d⟩ := step_data hb hc
    rw [hB] at hA
    injection hA with hA
    subst hA
    exact stp_lev hc d (lev_P k A' (by omega) hA')
theorem lev_up {k : Nat} (hk : k < b.chs.length) : (lev b k).length ≤ (lev b (k + 1)).length := by
  obtain ⟨c, hc⟩ : ∃ c, b.chs[k]? = some c := ⟨_, List.getElem?_eq_getElem hk⟩
  obtain ⟨A', B, hA', hB, d⟩ := step_data hb hc
  have h := stp_len hc d (lev_P hb k A' (by omega) hA')
  show _ ≤ (stp b (lev b k)).length
  rw [h]
  exact Nat.le_add_right _ _
theorem lev_mono : ∀ j k, k + j ≤ b.chs.length → (lev b k).length ≤ (lev b (k + j)).length
  | 0, k, _ => Nat.le_refl _
  | j + 1, k, h => Nat.le_trans (lev_mono j k (by omega)) (lev_up hb (k := k + j) (by omega))
theorem cntF_small : ∀ (j k : Nat) (A : List Int), k + j = b.chs.length → (vers b)[k]? = some A → (lev b b.chs.length).length ≤ 2048 →
    cntF (b.chs.drop k) (fun z => (lastN (lev b k) z : Int), ((lev b k).length : Int)) ≤ 2048
  | 0, k, A, hk, hA, hle => by
    have e : b.chs.drop k = [] := List.drop_eq_nil_of_le (by omega)
    rw [e]
    show ((lev b k).length : Int) ≤ 2048
    rw [show k = b.chs.length by omega]
    omega
  | j + 1, k, A, hk, hA, hle => by
    obtain ⟨c, hc⟩ : ∃ c, b.chs[k]? = some c := ⟨_, List.getElem?_eq_getElem (by omega)⟩
    obtain ⟨A', B, hA', hB, d⟩ := step_data hb hc
    rw [hA] at hA'
    cases hA'
    have hL := lev_P hb k A (by omega) hA
    have hm := lev_mono hb (j + 1) k (by omega)
    rw [show k + (j + 1) = b.chs.length by omega] at hm
    rw [cntF_next hc]
    dsimp only
    rw [if_neg (by omega)]
    have hv := val_chs hb hc
    rw [chS_lev hc d hL (by omega) hv]
    exact cntF_small j (k + 1) B (by omega) hB hle
theorem rich_lev : rich b = decide (2048 < (allF b).length) := by
  rw [allF_lev]
  have h0 := val_first hb
  have hf := val_ver hb
  have e : cnt b = cntF (b.chs.drop 0) (fun z => (lastN (lev b 0) z : Int), ((lev b 0).length : Int)) := by
    unfold cnt
    rw [List.drop_zero]
    congr 1
    refine Prod.ext ?_ ?_
    · funext z
      have := first_last b hf.2.2.1 z
      rw [stp_first] at this
      exact this.symm
    · show ((b.first.length : Nat) : Int) = ((b.first.map fun y => [y]).length : Int)
      rw [List.length_map]
  unfold rich
  rw [e]
  by_cases h : 2048 < (lev b b.chs.length).length
  · rw [decide_eq_true h, decide_eq_true_eq]
    refine Int.not_le.1 fun hle => ?_
    have h2 := cntF_lev hb b.chs.length 0 b.first (lev b 0) (by omega) h0 (lev_P hb 0 _ (by omega) h0) hle
    have h3 := itr_lev b b.chs.length 0
    rw [Nat.zero_add] at h3
    rw [h3] at h2
    omega
  · rw [decide_eq_false h, decide_eq_false_iff_not]
    have := cntF_small hb b.chs.length 0 b.first (by omega) h0 (by omega)
    omega
end
/-- what the loops of the reference gather, at most 2049 of them -/
def cut (L : List (List Int)) : List (List Int) := L.take 2049
theorem cut_full {A B : List (List Int)} (h : 2048 < (cut A).length) : cut (A ++ B) = cut A := by
  unfold cut at *
  rw [List.length_take] at h
  rw [List.take_append_of_le_length (by omega)]
theorem cut_more {A : List (List Int)} {x : List Int} (h : ¬ 2048 < (cut A).length) : cut (A ++ [x]) = cut A ++ [x] := by
  unfold cut at *
  rw [List.length_take] at h
  rw [List.take_of_length_le (l := A) (by omega), List.take_of_length_le (by simp; omega)]
theorem cut_len (A : List (List Int)) : (cut A).length ≤ 2049 := by unfold cut; rw [List.length_take]; omega
theorem cut_small {A : List (List Int)} (h : ¬ 2048 < (cut A).length) : cut A = A := by
  unfold cut at *
  rw [List.length_take] at h
  exact List.take_of_length_le (by omega)
theorem cut_big {A : List (List Int)} (h : 2048 < (cut A).length) : 2048 < A.length := by
  unfold cut at *
  rw [List.length_take] at h
  omega
theorem stp_next {b : Bk} {L : List (List Int)} {i : Nat} {g : List Int} (h : L[i]? = some g) : stp b (L.take (i + 1)) = stp b (L.take i) ++ (furF b g).map fun y => g ++ [y] := by
  unfold stp
  rw [show L.take (i + 1) = L.take i ++ [g] from by rw [List.take_add_one, h]; rfl, List.flatMap_append]
  simp
theorem map_next {g l : List Int} {k : Nat} {y : Int} (h : l[k]? = some y) : (l.take (k + 1)).map (fun y => g ++ [y]) = (l.take k).map (fun y => g ++ [y]) ++ [g ++ [y]] := by
  rw [show l.take (k + 1) = l.take k ++ [y] from by rw [List.take_add_one, h]; rfl, List.map_append]; rfl
end Go.Proofs.YtplpogonkfnafaaGreat
