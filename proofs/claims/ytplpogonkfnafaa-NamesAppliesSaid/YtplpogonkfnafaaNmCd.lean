/- NamesChains: what is known of its answers. -/
import Derived.Test.YtplpogonkfnafaaNmFp
import Derived.Test.YtplpogonkfnafaaNmBg
namespace Go.Proofs.Ytplpogonkfnafaa
open Go.RowKit Go.Nm

/-- where the chain of a name is told, and the fates are not too many -/
structure ChD (b : Bk) (V X : Int) (c t : List Int) (l : List (List Int)) : Prop where
  val : Val b
  few : l.length ≤ 100000
  clen : c.length ≤ b.chs.length
  tin : ∀ q ∈ t, ∃ (j : Nat) (f : List Int), q = (j : Int) ∧ l[j]? = some f ∧ f.length = b.chs.length + 1
  tlen : t.length ≤ 100000
  law : ∀ (k : Nat) (ch : Ch), b.chs[k]? = some ch → touchB l ch.fr k t = decide ((k : Int) ∈ c)
theorem openE_none {b : Bk} (h : Val b) : openE b [] = 0 := by
  unfold openE
  rw [if_pos h, if_pos]
  intro v hv
  simp at hv
theorem ch_data {b : Bk} {V X e f g : Int} {c t : List Int} {l : List (List Int)} (h1 : chainOut b V X = (c, e)) (h2 : throughOut b V X = (t, f)) (h3 : fatesOut b = (l, g)) :
    (e ≠ 0 ∧ f = e ∧ c = []) ∨ (e = 0 ∧ f = 2 ∧ g = 2) ∨ (e = 0 ∧ f = 0 ∧ g = 0 ∧ ChD b V X c t l) := by
  unfold chainOut at h1
  unfold throughOut at h2
  unfold fatesOut at h3
  by_cases h0 : openAtE b [] V X = 0
  case neg =>
    rw [if_neg h0] at h1 h2
    injection h1 with a1 a2
    injection h2 with a3 a4
    exact .inl ⟨by rw [← a2]; exact h0, by rw [← a2, ← a4], a1.symm⟩
  rw [if_pos h0] at h1 h2
  obtain ⟨hv, hV, hx⟩ := openAtE_zero h0
  have hn := hV V (by simp)
  rw [if_pos (openE_none hv)] at h3
  by_cases hr : rich b = true
  case pos =>
    rw [if_pos hr] at h2 h3
    injection h1 with a1 a2
    injection h2 with a3 a4
    injection h3 with a5 a6
    exact .inr (.inl ⟨a2.symm, a4.symm, a6.symm⟩)
  rw [if_neg hr] at h2 h3
  injection h1 with a1 a2
  injection h2 with a3 a4
  injection h3 with a5 a6
  refine .inr (.inr ⟨a2.symm, a4.symm, a6.symm, ?_⟩)
  obtain ⟨n, rfl⟩ : ∃ k : Nat, V = (k : Int) := ⟨V.toNat, by omega⟩
  rw [Int.toNat_natCast] at hx a1 a3
  obtain ⟨A, hA, hxA⟩ := getD_mem hx
  have hpoor : rich b = false := by simpa using hr
  have hfew := fates_few hv hpoor
  have a5' : l = fatesF b (b.chs.length + 1) [] := a5.symm
  subst a1 a3
  rw [a5']
  refine ⟨hv, hfew, chainT_len _ _ _ _, fun q hq => ?_, Nat.le_trans (thr_len _ _ _) hfew, fun k ch hc => chain_touch hv hA hxA (by omega) hc⟩
  obtain ⟨j, rfl, f, hf, _⟩ := mem_thr.1 hq
  exact ⟨j, f, rfl, hf, (mem_all.1 (List.mem_of_getElem? hf)).1⟩
theorem touch_next {l : List (List Int)} {fr t : List Int} {i k j : Nat} {f : List Int} {z : Int} (ht : t[k]? = some (j : Int)) (hf : l[j]? = some f) (hz : f[i]? = some z) : touchB l fr i (t.take (k + 1)) = (touchB l fr i (t.take k) || decide (z ∈ fr)) := by
  unfold touchB
  rw [List.take_add_one, ht]
  simp only [Option.toList_some, List.any_append, List.any_cons, List.any_nil, Bool.or_false, Int.toNat_natCast, hf, hz]
end Go.Proofs.Ytplpogonkfnafaa
