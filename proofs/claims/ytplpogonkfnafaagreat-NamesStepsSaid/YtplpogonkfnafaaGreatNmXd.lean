
/- NamesExact: what is known of its answers. -/
import Derived.Test.YtplpogonkfnafaaGreatNmXm
namespace Go.Proofs.YtplpogonkfnafaaGreat
open Go.RowKit Go.Nm

/-- a change is between two versions -/
def betw (V W z : Int) : Bool := decide (min V W ≤ z) && decide (z < max V W)
def stillB (V W : Int) (c : List Int) : Bool := !c.any (betw V W)
theorem stillB_next {V W : Int} {c : List Int} {k : Nat} {z : Int} (h : c[k]? = some z) : stillB V W (c.take (k + 1)) = (stillB V W (c.take k) && !betw V W z) := by
  unfold stillB
  rw [List.take_add_one, h]
  simp
theorem openAtE_three (b : Bk) (V : List Int) (n x : Int) : openAtE b V n x ≠ 3 := by
  have h : openE b (V ++ [n]) = 0 ∨ openE b (V ++ [n]) = 21 ∨ openE b (V ++ [n]) = 20 := by
    unfold openE
    split
    · split
      · exact .inl rfl
      · exact .inr (.inl rfl)
    · exact .inr (.inr rfl)
  unfold openAtE
  rcases h with h | h | h <;> rw [h]
  · rw [if_pos rfl]
    split <;> decide
  · rw [if_neg (by decide)]; decide
  · rw [if_neg (by decide)]; decide
theorem mem_chain {b : Bk} {n : Nat} {x : Int} {k : Nat} {c : Ch} (hc : b.chs[k]? = some c) {z : Int} (hz : z ∈ mns b.chs n [x] k) (hf : z ∈ c.fr) : (k : Int) ∈ chainT b.chs n x b.chs.length := by
  unfold chainT
  refine List.mem_map.2 ⟨k, List.mem_filter.2 ⟨List.mem_range.2 (List.getElem?_eq_some_iff.1 hc).1, ?_⟩, rfl⟩
  rw [hc]
  simp only [List.any_eq_true, decide_eq_true_eq]
  exact ⟨z, hz, hf⟩
/-- what NamesExact goes by -/
theorem ex_data {b : Bk} {V X W y e : Int} {c : List Int} {f : Int} (h1 : exOut b V X W = (y, e)) (h2 : chainOut b V X = (c, f)) (he : e = 0 ∨ e = 3) :
    f = 0 ∧ c.length ≤ 1000 ∧ (stillB V W c = true → e = 0 ∧ y = X) ∧ (e = 0 → relOut b V X W y = (1, 0) ∧ exOut b W y V = (X, 0) ∧ exOut b W y 0 = exOut b V X 0) := by
  unfold exOut at h1
  by_cases h0 : openAtE b [W] V X = 0
  case neg =>
    rw [if_neg h0] at h1
    injection h1 with _ h1
    rcases he with rfl | rfl
    · exact absurd h1 h0
    · exact absurd h1 (openAtE_three _ _ _ _)
  rw [if_pos h0] at h1
  by_cases hpoor : rich b = true
  case pos =>
    rw [if_pos hpoor] at h1
    injection h1 with _ h1
    rcases he with rfl | rfl <;> cases h1
  rw [if_neg hpoor] at h1
  have hpoor : rich b = false := by simpa using hpoor
  obtain ⟨hv, hV, hx⟩ := openAtE_zero h0
  have hn := hV V (by simp)
  have hm := hV W (by simp)
  obtain ⟨n, rfl⟩ : ∃ k : Nat, V = (k : Int) := ⟨V.toNat, by omega⟩
  obtain ⟨m, rfl⟩ : ∃ k : Nat, W = (k : Int) := ⟨W.toNat, by omega⟩
  rw [Int.toNat_natCast] at hx
  simp only [Int.toNat_natCast] at h1
  obtain ⟨A, hA, hxA⟩ := getD_mem hx
  have d : NmD b n X A := ⟨hv, by omega, hA, hxA⟩
  have hmc : m ≤ b.chs.length := by omega
  have h64 := hv.1
  unfold chainOut at h2
  rw [if_pos d.openAt0, Int.toNat_natCast] at h2
  injection h2 with h2 h3
  refine ⟨h3.symm, by rw [← h2]; exact Nat.le_trans (chainT_len _ _ _ _) (by omega), fun hs => ?_, fun hez => ?_⟩
  · have hst : StillP b n X m := fun k cc hk1 hk2 hc z hz hf => by
      have hmem := mem_chain hc hz hf
      rw [h2] at hmem
      unfold stillB at hs
      simp only [Bool.not_eq_true', List.any_eq_false] at hs
      have := hs _ hmem
      unfold betw at this
      simp only [Bool.and_eq_true, decide_eq_true_eq, not_and] at this
      exact this (by omega) (by omega)
    obtain ⟨e1, e2⟩ := still_same d hmc hst
    have h4 : exS b.chs n X m = (X, 0) := by
      unfold exS
      rw [e1]
      exact exF_one (relE_one.2 ⟨e1, e2⟩)
    rw [h4] at h1
    injection h1 with h5 h6
    exact ⟨h6.symm, h5.symm⟩
  · subst hez
    obtain ⟨hr, hy⟩ := exF_zero h1
    obtain ⟨B, dy⟩ := d.to hmc hy
    have rd : RelD b n X m y := ⟨hv, by omega, hmc, hpoor, A, B, hA, dy.at_, hxA, dy.mem⟩
    obtain ⟨r1, r2⟩ := relE_one.1 hr
    have hrt : relE b.chs m y n X = 1 := by rw [rel_turn rd, hr]; rfl
    refine ⟨by rw [rd.rel, hr], ?_, ?_⟩
    · unfold exOut
      rw [if_pos (dy.openAt (by omega)), if_neg (by rw [hpoor]; decide)]
      simp only [Int.toNat_natCast]
      unfold exS
      rw [r2]
      exact exF_one hrt
    · have o1 : openAtE b [0] m y = 0 := dy.openAt (k := 0) (by omega)
      have o2 : openAtE b [0] n X = 0 := d.openAt (k := 0) (by omega)
      unfold exOut
      rw [if_pos o1, if_pos o2, if_neg (by rw [hpoor]; decide), if_neg (by rw [hpoor]; decide)]
      simp only [Int.toNat_natCast]
      show exS b.chs m y 0 = exS b.chs n X 0
      rcases Nat.le_total n m with hle | hle
      · exact (same_first d dy hle r1 r2).symm
      · exact same_first dy d hle r2 r1
end Go.Proofs.YtplpogonkfnafaaGreat
