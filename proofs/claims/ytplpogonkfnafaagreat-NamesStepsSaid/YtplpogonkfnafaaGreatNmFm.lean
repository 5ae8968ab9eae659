
/- How many fates there are. -/
import Derived.Test.YtplpogonkfnafaaGreatNmBf
import Derived.Test.YtplpogonkfnafaaGreatNmBd
import Derived.Test.YtplpogonkfnafaaGreatNmBc
namespace Go.Proofs.YtplpogonkfnafaaGreat
open Go.RowKit Go.Nm

def stp (b : Bk) (L : List (List Int)) : List (List Int) := L.flatMap fun g => (furF b g).map fun y => g ++ [y]
def itr (b : Bk) : Nat → List (List Int) → List (List Int)
  | 0, L => L
  | d + 1, L => itr b d (stp b L)
theorem fates_itr (b : Bk) : ∀ (d : Nat) (L : List (List Int)), L.flatMap (fatesF b d) = itr b d L
  | 0, L => by
    show L.flatMap (fun g => [g]) = L
    induction L with
    | nil => rfl
    | cons g L ih => rw [List.flatMap_cons, ih]; rfl
  | d + 1, L => by
    show _ = itr b d (stp b L)
    rw [← fates_itr b d (stp b L)]
    unfold stp
    rw [List.flatMap_assoc]
    congr 1
    funext g
    rw [List.flatMap_map]
    rfl
/-- how many of some beginnings end with a name -/
def lastN (L : List (List Int)) (z : Int) : Nat := L.countP fun g => decide (g.getLast? = some z)
def lastIn (L : List (List Int)) (fr : List Int) : Nat := L.countP fun g => match g.getLast? with | some y => decide (y ∈ fr) | none => false
theorem nodup_count {l : List Int} (h : l.Nodup) (z : Int) : l.countP (fun y => decide (y = z)) = if z ∈ l then 1 else 0 := by
  induction l with
  | nil => simp
  | cons a l ih =>
    obtain ⟨h1, h2⟩ := List.nodup_cons.1 h
    rw [List.countP_cons, ih h2]
    by_cases e : a = z
    · subst e; simp [h1]
    · have : ¬ z = a := fun h => e h.symm
      simp [e, this]
theorem inc_nodup {l : List Int} (h : Inc l) : l.Nodup := List.Pairwise.imp (fun {a c} hlt => by omega) h
theorem last_snoc (g : List Int) (y : Int) : (g ++ [y]).getLast? = some y := by simp
theorem sum_last (L : List (List Int)) : ∀ {fr : List Int}, fr.Nodup → (fr.map fun y => lastN L y).sum = lastIn L fr := by
  intro fr hn
  induction L with
  | nil =>
    unfold lastN lastIn
    simp only [List.countP_nil]
    induction fr with
    | nil => rfl
    | cons a l ih => rw [List.map_cons, List.sum_cons, ih (List.nodup_cons.1 hn).2]
  | cons g L ih =>
    have e : ∀ y, lastN (g :: L) y = lastN L y + (if g.getLast? = some y then 1 else 0) := fun y => by unfold lastN; rw [List.countP_cons]; simp
    have e2 : lastIn (g :: L) fr = lastIn L fr + (match g.getLast? with | some y => if y ∈ fr then 1 else 0 | none => 0) := by
      unfold lastIn
      rw [List.countP_cons]
      cases g.getLast? <;> simp
    rw [e2, ← ih]
    simp only [e]
    have h3 : ∀ (l : List Int), (l.map fun y => lastN L y + (if g.getLast? = some y then 1 else 0)).sum = (l.map fun y => lastN L y).sum + (l.map fun y => if g.getLast? = some y then 1 else 0).sum := fun l => by
      induction l with
      | nil => rfl
      | cons a l ih2 => simp only [List.map_cons, List.sum_cons, ih2]; omega
    rw [h3]
    congr 1
    cases hg : g.getLast? with
    | none =>
      simp only
      have : ∀ (l : List Int), (l.map fun y => if (none : Option Int) = some y then 1 else 0).sum = 0 := fun l => by
        induction l with
        | nil => rfl
        | cons a l ih2 => simp only [List.map_cons, List.sum_cons, ih2]; simp
      exact this fr
    | some v =>
      simp only
      have : ∀ (l : List Int), (l.map fun y => if some v = some y then 1 else 0).sum = l.countP fun y => decide (y = v) := fun l => by
        induction l with
        | nil => rfl
        | cons a l ih2 =>
          simp only [List.map_cons, List.sum_cons, ih2, List.countP_cons]
          by_cases e : a = v
          · subst e; simp; omega
          · have : ¬ v = a := fun h => e h.symm
            simp [e, this]
      rw [this fr, nodup_count hn]
/-- beginnings of one length, with names of a version at their ends -/
def LevP (k : Nat) (A : List Int) (L : List (List Int)) : Prop := ∀ g ∈ L, g.length = k + 1 ∧ ∃ y ∈ A, g.getLast? = some y
section
variable {b : Bk} {k : Nat} {c : Ch} {A B : List Int} (hc : b.chs[k]? = some c) (d : StepD A B c)
theorem fur_at {g : List Int} {y : Int} (hc : b.chs[k]? = some c) (hl : g.length = k + 1) (hy : g.getLast? = some y) : furF b g = if y ∈ c.fr then c.to else [y] := by
  unfold furF
  rw [hy]
  dsimp only
  rw [hl, Nat.add_sub_cancel, hc]
include hc d
theorem stp_lev {L : List (List Int)} (h : LevP k A L) : LevP (k + 1) B (stp b L) := by
  intro s hs
  obtain ⟨g, hg, hm⟩ := List.mem_flatMap.1 hs
  obtain ⟨z, hz, rfl⟩ := List.mem_map.1 hm
  obtain ⟨hl, y, hyA, hy⟩ := h g hg
  refine ⟨by simp [hl], z, ?_, last_snoc _ _⟩
  rw [fur_at hc hl hy] at hz
  split at hz
  · exact d.memB.2 (.inr hz)
  · simp at hz; subst hz; exact d.memB.2 (.inl ⟨hyA, by assumption⟩)
theorem stp_len : ∀ {L : List (List Int)}, LevP k A L → (stp b L).length = L.length + lastIn L c.fr * (c.to.length - 1)
  | [], _ => by simp [stp, lastIn]
  | g :: L, h => by
    obtain ⟨hl, y, hyA, hy⟩ := h g List.mem_cons_self
    have ih := stp_len (L := L) fun s hs => h s (List.mem_cons_of_mem _ hs)
    have e : stp b (g :: L) = (furF b g).map (fun y => g ++ [y]) ++ stp b L := rfl
    rw [e, List.length_append, ih, List.length_map, fur_at hc hl hy]
    have e2 : lastIn (g :: L) c.fr = lastIn L c.fr + (if y ∈ c.fr then 1 else 0) := by
      unfold lastIn
      rw [List.countP_cons, hy]
      by_cases hf : y ∈ c.fr <;> simp [hf]
    rw [e2, Nat.add_mul, List.length_cons]
    have ht : 1 ≤ c.to.length := by
      cases h : c.to with
      | nil => exact absurd h d.toN
      | cons a l => simp
    by_cases hf : y ∈ c.fr
    · rw [if_pos hf, if_pos hf]; omega
    · rw [if_neg hf, if_neg hf]; simp; omega
theorem stp_last (z : Int) : ∀ {L : List (List Int)}, LevP k A L → lastN (stp b L) z = if z ∈ c.to then lastIn L c.fr else if z ∈ c.fr then 0 else lastN L z
  | [], _ => by simp [stp, lastN, lastIn]
  | g :: L, h => by
    obtain ⟨hl, y, hyA, hy⟩ := h g List.mem_cons_self
    have ih := stp_last z (L := L) fun s hs => h s (List.mem_cons_of_mem _ hs)
    have e : stp b (g :: L) = (furF b g).map (fun y => g ++ [y]) ++ stp b L := rfl
    have e1 : lastN (stp b (g :: L)) z = (furF b g).countP (fun y => decide (y = z)) + lastN (stp b L) z := by
      unfold lastN
      rw [e, List.countP_append, List.countP_map]
      congr 1
      refine List.countP_congr fun u _ => ?_
      simp
    have e2 : lastIn (g :: L) c.fr = lastIn L c.fr + (if y ∈ c.fr then 1 else 0) := by
      unfold lastIn
      rw [List.countP_cons, hy]
      by_cases hf : y ∈ c.fr <;> simp [hf]
    have e3 : lastN (g :: L) z = lastN L z + (if y = z then 1 else 0) := by
      unfold lastN
      rw [List.countP_cons, hy]
      simp
    rw [e1, ih, e2, e3, fur_at hc hl hy]
    by_cases hf : y ∈ c.fr
    · rw [if_pos hf, nodup_count (inc_nodup d.ito)]
      by_cases ht : z ∈ c.to
      · simp [ht, hf]; omega
      · by_cases hz : z ∈ c.fr
        · simp [ht, hz]
        · have : ¬ y = z := fun e => hz (e ▸ hf)
          simp [ht, hz, this]
    · rw [if_neg hf]
      have hne : z ∈ c.to → ¬ y = z := fun ht e => hf (d.toA y (e ▸ ht) hyA)
      by_cases ht : z ∈ c.to
      · simp [ht, hf, hne ht]
      · by_cases hz : z ∈ c.fr
        · have : ¬ y = z := fun e => hf (e ▸ hz)
          simp [ht, hz, this]
        · by_cases e : y = z <;> simp [ht, hz, e]; omega
end
end Go.Proofs.YtplpogonkfnafaaGreat
