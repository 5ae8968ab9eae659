
/- Relations as mathematics: turned, and what they say of meanings. -/
import Derived.Test.YtplpogonkfnafaaGreatNmPt
import Derived.Test.YtplpogonkfnafaaGreatNmBd
namespace Go.Proofs.YtplpogonkfnafaaGreat
open Go.RowKit Go.Nm

theorem openE_two (b : Bk) (n m : Int) : openE b [m, n] = openE b [n, m] := by
  unfold openE
  have e : (∀ v ∈ [m, n], 0 ≤ v ∧ v < ((vers b).length : Int)) ↔ (∀ v ∈ [n, m], 0 ≤ v ∧ v < ((vers b).length : Int)) := by
    simp only [List.mem_cons, List.not_mem_nil, or_false, forall_eq_or_imp, forall_eq]
    exact and_comm
  simp only [e]
/-- what a relation is the other way round -/
def turnE (r : Int) : Int := if r = 2 then 3 else if r = 3 then 2 else r
theorem relOut_err (b : Bk) (n x m y : Int) : (relOut b m y n x).2 = (relOut b n x m y).2 := by
  unfold relOut openAtE
  simp only [List.singleton_append]
  rw [openE_two b m n]
  generalize (vers b).getD n.toNat [] = A
  generalize (vers b).getD m.toNat [] = B
  by_cases h1 : openE b [m, n] = 0
  · by_cases h2 : x ∈ A <;> by_cases h3 : y ∈ B <;> by_cases h4 : rich b = true <;> simp [h1, h2, h3, h4]
  · simp [h1]
/-- what is known where a relation is told -/
structure RelD (b : Bk) (n : Nat) (x : Int) (m : Nat) (y : Int) : Prop where
  val : Val b
  hn : n ≤ b.chs.length
  hm : m ≤ b.chs.length
  poor : rich b = false
  ex : ∃ A B, (vers b)[n]? = some A ∧ (vers b)[m]? = some B ∧ x ∈ A ∧ y ∈ B
theorem getD_mem {LL : List (List Int)} {n : Nat} {x : Int} (h : x ∈ LL.getD n []) : ∃ A, LL[n]? = some A ∧ x ∈ A := by
  rw [List.getD_eq_getElem?_getD] at h
  cases hA : LL[n]? with
  | none => rw [hA] at h; cases h
  | some A => rw [hA] at h; exact ⟨A, rfl, h⟩
theorem relOut_data {b : Bk} {n x m y : Int} (h : (relOut b n x m y).2 = 0) : ∃ n' m' : Nat, n = n' ∧ m = m' ∧ RelD b n' x m' y ∧ relOut b n x m y = (relE b.chs n' x m' y, 0) := by
  unfold relOut at h
  split at h
  · rename_i h0
    split at h
    · rename_i h1
      split at h
      · cases h
      · rename_i h2
        obtain ⟨hv, hV, hx⟩ := openAtE_zero h0
        have hn := hV n (by simp)
        have hm := hV m (by simp)
        refine ⟨n.toNat, m.toNat, by omega, by omega, ⟨hv, by omega, by omega, by simpa using h2, ?_⟩, ?_⟩
        · obtain ⟨A, hA, hxA⟩ := getD_mem hx
          obtain ⟨B, hB, hyB⟩ := getD_mem h1
          exact ⟨A, B, hA, hB, hxA, hyB⟩
        · unfold relOut
          rw [if_pos h0, if_pos h1, if_neg h2]
    · cases h
  · rename_i h0; exact absurd h h0
section
variable {b : Bk} {n m : Nat} {x y : Int} (d : RelD b n x m y)
include d
theorem RelD.turn : RelD b m y n x := by
  obtain ⟨A, B, h1, h2, h3, h4⟩ := d.ex
  exact ⟨d.val, d.hm, d.hn, d.poor, B, A, h2, h1, h4, h3⟩
theorem RelD.symm : y ∈ mns b.chs n [x] m ↔ x ∈ mns b.chs m [y] n := by
  obtain ⟨A, B, h1, h2, h3, h4⟩ := d.ex
  exact mns_symm d.val h1 h2 h3 h4 d.hn d.hm
theorem rel_turn : relE b.chs m y n x = turnE (relE b.chs n x m y) := by
  have hs := d.symm
  unfold relE turnE
  by_cases h1 : mns b.chs n [x] m = [y] <;> by_cases h2 : mns b.chs m [y] n = [x]
  · simp [h1, h2]
  · simp [h1, h2]
  · simp [h1, h2]
  · by_cases h3 : y ∈ mns b.chs n [x] m
    · simp [h1, h2, h3, hs.1 h3]
    · have h4 : ¬ x ∈ mns b.chs m [y] n := fun h => h3 (hs.2 h)
      simp [h1, h2, h3, h4]
theorem rel_holds : decide (y ∈ mns b.chs n [x] m) = decide (relE b.chs n x m y ≠ 0) := by
  have hs := d.symm
  apply decide_eq_decide.2
  unfold relE
  by_cases h1 : mns b.chs n [x] m = [y]
  · by_cases h2 : mns b.chs m [y] n = [x] <;> simp [h1, h2]
  · by_cases h2 : mns b.chs m [y] n = [x]
    · have : y ∈ mns b.chs n [x] m := hs.2 (by rw [h2]; simp)
      simp [h1, h2, this]
    · by_cases h3 : y ∈ mns b.chs n [x] m <;> simp [h1, h2, h3]
omit d in
theorem rel_alone : mns b.chs n [x] m = [y] ↔ relE b.chs n x m y = 1 ∨ relE b.chs n x m y = 2 := by
  unfold relE
  by_cases h1 : mns b.chs n [x] m = [y] <;> by_cases h2 : mns b.chs m [y] n = [x] <;> by_cases h3 : y ∈ mns b.chs n [x] m <;> simp [h1, h2, h3]
omit d in
theorem rel_range : relE b.chs n x m y = 0 ∨ relE b.chs n x m y = 1 ∨ relE b.chs n x m y = 2 ∨ relE b.chs n x m y = 3 ∨ relE b.chs n x m y = 4 := by
  unfold relE
  by_cases h1 : mns b.chs n [x] m = [y] <;> by_cases h2 : mns b.chs m [y] n = [x] <;> by_cases h3 : y ∈ mns b.chs n [x] m <;> simp [h1, h2, h3]
theorem RelD.openAt : openAtE b [(m : Int)] n x = 0 := by
  obtain ⟨A, B, h1, h2, h3, h4⟩ := d.ex
  have hl := val_len d.val
  have hn := d.hn
  have hm := d.hm
  have e : openE b ([(m : Int)] ++ [(n : Int)]) = 0 := by
    unfold openE
    rw [if_pos d.val, if_pos]
    intro v hv
    simp at hv
    rcases hv with rfl | rfl <;> omega
  unfold openAtE
  rw [if_pos e, if_pos]
  rw [Int.toNat_natCast, List.getD_eq_getElem?_getD, h1]; exact h3
theorem RelD.rel : relOut b n x m y = (relE b.chs n x m y, 0) := by
  obtain ⟨A, B, h1, h2, h3, h4⟩ := d.ex
  unfold relOut
  rw [if_pos d.openAt, if_pos, if_neg]
  · simp
  · rw [d.poor]; decide
  · rw [Int.toNat_natCast, List.getD_eq_getElem?_getD, h2]; exact h4
theorem RelD.means : meansOut b n x m = (mns b.chs n [x] m, 0) := by
  unfold meansOut
  rw [if_pos d.openAt]
  simp
end
end Go.Proofs.YtplpogonkfnafaaGreat
