
/- The reference: Fates, Count, named, through, Through. -/
import Derived.Test.YtplpogonkfnafaaGreatNmFt
import Derived.Test.YtplpogonkfnafaaGreatNmFp
import Derived.Test.YtplpogonkfnafaaGreatNmRm
namespace Go.Proofs.YtplpogonkfnafaaGreat
open Go.RowKit Go.Nm

theorem count_fates (b : Bk) : countOut b = (((fatesOut b).1.length : Int), (fatesOut b).2) := by
  unfold countOut fatesOut
  by_cases h1 : openE b [] = 0
  · rw [if_pos h1, if_pos h1]
    cases hr : rich b with
    | true => rfl
    | false =>
      have hv : Val b := by
        rw [openE_empty] at h1
        by_cases hv : Val b
        · exact hv
        · rw [if_neg hv] at h1; cases h1
      simp only [Bool.false_eq_true, if_false]
      rw [← fates_count hv hr]
      rfl
  · rw [if_neg h1, if_neg h1]; rfl
theorem named_open (b : Bk) (n x m : Int) : openAtE b [m] n x = if openE b [n, m] = 0 then (if x ∈ rverF b n.toNat then 0 else 22) else openE b [n, m] := by
  unfold openAtE
  have e : openE b ([m] ++ [n]) = openE b [n, m] := by rw [List.singleton_append]; exact openE_two b n m
  rw [e]
  by_cases h : openE b [n, m] = 0
  · rw [if_pos h, if_pos h]
    obtain ⟨hv, hV⟩ := openE_val h
    have hn := hV n (by simp)
    rw [val_len hv] at hn
    have : (vers b).getD n.toNat [] = rverF b n.toNat := by
      rw [List.getD_eq_getElem?_getD, rver_is hv (by omega)]; rfl
    rw [this]
  · rw [if_neg h, if_neg h]
theorem openAt_one (b : Bk) (n x : Int) : openAtE b [n] n x = openAtE b [] n x := by
  unfold openAtE
  rw [List.singleton_append, List.nil_append, openE_one]
theorem thr_next {n : Nat} {x : Int} {fs : List (List Int)} {i : Nat} {f : List Int} {z : Int} (h : fs[i]? = some f) (hz : f[n]? = some z) : thr n x (fs.take (i + 1)) = thr n x (fs.take i) ++ (if z = x then [(i : Int)] else []) := by
  have hi := (List.getElem?_eq_some_iff.1 h).1
  rw [show fs.take (i + 1) = fs.take i ++ [f] from by rw [List.take_add_one, h]; rfl, thr_snoc, hz, List.length_take, Nat.min_eq_left (by omega)]
  by_cases e : z = x <;> simp [e]
theorem all_long {b : Bk} {n : Nat} (hn : n ≤ b.chs.length) : ∀ f ∈ allF b, n < f.length := fun f hf => by
  have := (mem_all.1 hf).1
  omega
end Go.Proofs.YtplpogonkfnafaaGreat
