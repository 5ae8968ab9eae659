/- Relations by fates are relations by meanings. -/
import Derived.Test.YtplpogonkfnafaaNmMo
namespace Go.Proofs.Ytplpogonkfnafaa
open Go.RowKit Go.Nm

section
variable {b : Bk} (hb : Val b) {n m : Nat} {x y : Int} {A B : List Int} (hA : (vers b)[n]? = some A) (hB : (vers b)[m]? = some B) (hx : x ∈ A) (hy : y ∈ B) (hn : n ≤ b.chs.length) (hm : m ≤ b.chs.length)
include hb hA hx hn hm
theorem thr_sub : (∀ z ∈ thr n x (allF b), z ∈ thr m y (allF b)) ↔ mns b.chs n [x] m = [y] := by
  obtain ⟨C, hC, hi, hs⟩ := mns_ok hb hA (l := [x]) (by simp [Inc]) (by simp; exact hx) hn hm
  constructor
  · intro h
    have hall : ∀ z ∈ mns b.chs n [x] m, z = y := fun z hz => by
      obtain ⟨s, hsF, h1, h2⟩ := (mns_fates hb hA hx hn hm).1 hz
      obtain ⟨j, hj, e⟩ := List.getElem_of_mem hsF
      have hjs : (allF b)[j]? = some s := by rw [← e]; exact List.getElem?_eq_getElem hj
      obtain ⟨j', e', f, hf, hfy⟩ := mem_thr.1 (h j (mem_thr.2 ⟨j, rfl, s, hjs, h1⟩))
      have : j = j' := by omega
      subst this
      rw [hjs] at hf
      injection hf with hf
      subst hf
      rw [h2] at hfy
      injection hfy
    obtain ⟨z, hz⟩ := mns_some hb hA hx hn hm
    have e := hall z hz
    subst e
    exact inc_one hi hz hall
  · intro h k hk
    obtain ⟨j, rfl, f, hf, hfx⟩ := mem_thr.1 hk
    have hfF := List.mem_of_getElem? hf
    have hfl := (mem_all.1 hfF).1
    obtain ⟨z, hz⟩ : ∃ z, f[m]? = some z := ⟨_, List.getElem?_eq_getElem (by omega)⟩
    have hzm := (mns_fates hb hA hx hn hm).2 ⟨f, hfF, hfx, hz⟩
    rw [h] at hzm
    have e : z = y := by simpa using hzm
    subst e
    exact mem_thr.2 ⟨j, rfl, f, hf, hz⟩
theorem thr_meet : (∃ z ∈ thr n x (allF b), z ∈ thr m y (allF b)) ↔ y ∈ mns b.chs n [x] m := by
  rw [mns_fates hb hA hx hn hm]
  constructor
  · rintro ⟨z, hz, hz2⟩
    obtain ⟨j, rfl, f, hf, hfx⟩ := mem_thr.1 hz
    obtain ⟨j', e', f', hf', hfy⟩ := mem_thr.1 hz2
    have : j = j' := by omega
    subst this
    rw [hf] at hf'
    injection hf' with hf'
    subst hf'
    exact ⟨f, List.mem_of_getElem? hf, hfx, hfy⟩
  · rintro ⟨s, hsF, h1, h2⟩
    obtain ⟨j, hj, e⟩ := List.getElem_of_mem hsF
    have hjs : (allF b)[j]? = some s := by rw [← e]; exact List.getElem?_eq_getElem hj
    exact ⟨j, mem_thr.2 ⟨j, rfl, s, hjs, h1⟩, mem_thr.2 ⟨j, rfl, s, hjs, h2⟩⟩
include hB hy
theorem rel_thr : rrelF (thr n x (allF b)) (thr m y (allF b)) = relE b.chs n x m y := by
  have h1 : (∀ z ∈ thr n x (allF b), z ∈ thr m y (allF b)) ↔ mns b.chs n [x] m = [y] := thr_sub hb hA hx hn hm
  have h2 : (∀ z ∈ thr m y (allF b), z ∈ thr n x (allF b)) ↔ mns b.chs m [y] n = [x] := thr_sub hb hB hy hm hn
  have h3 : (∃ z ∈ thr n x (allF b), z ∈ thr m y (allF b)) ↔ y ∈ mns b.chs n [x] m := thr_meet hb hA hx hn hm
  unfold rrelF relE
  by_cases a1 : mns b.chs n [x] m = [y]
  · by_cases a2 : mns b.chs m [y] n = [x]
    · rw [if_pos ⟨h1.2 a1, h2.2 a2⟩, if_pos a1, if_pos a2]
    · rw [if_neg (fun h => a2 (h2.1 h.2)), if_pos (h1.2 a1), if_pos a1, if_neg a2]
  · rw [if_neg (fun h => a1 (h1.1 h.1)), if_neg (fun h => a1 (h1.1 h)), if_neg a1]
    by_cases a2 : mns b.chs m [y] n = [x]
    · rw [if_pos (h2.2 a2), if_pos a2]
    · rw [if_neg (fun h => a2 (h2.1 h)), if_neg a2]
      by_cases a3 : y ∈ mns b.chs n [x] m
      · rw [if_pos (h3.2 a3), if_pos a3]
      · rw [if_neg (fun h => a3 (h3.1 h)), if_neg a3]
end
/-- what the reference's Exact tells by the first fate through a name -/
theorem exS_first {b : Bk} {n m : Nat} {x y : Int} (hy : y ∈ mns b.chs n [x] m) :
    exS b.chs n x m = if relE b.chs n x m y = 1 then (y, 0) else (0, 3) := by
  unfold exS
  by_cases h : relE b.chs n x m y = 1
  · rw [if_pos h, (relE_one.1 h).1]
    exact exF_one h
  · rw [if_neg h]
    rcases exF_err (chs := b.chs) (n := n) (x := x) (m := m) (mns b.chs n [x] m) with h0 | h0
    · exfalso
      obtain ⟨⟨z, e⟩, hz⟩ : ∃ o, exF b.chs n x m (mns b.chs n [x] m) = o := ⟨_, rfl⟩
      rw [hz] at h0
      simp only at h0
      subst h0
      obtain ⟨h1, h2⟩ := exF_zero hz
      have h3 := (relE_one.1 h1).1
      rw [h3] at hy
      have : y = z := by simpa using hy
      subst this
      exact h h1
    · exact h0
end Go.Proofs.Ytplpogonkfnafaa
