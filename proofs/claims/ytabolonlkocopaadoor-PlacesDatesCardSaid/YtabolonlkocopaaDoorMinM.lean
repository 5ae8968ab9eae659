/- Minus, as mathematics. -/
import Derived.Test.YtabolonlkocopaaDoorNml
namespace Go.Proofs.YtabolonlkocopaaDoor
open Go.RowKit Go.Plc Go.Shelf

def minusRun (T P : List Sq) : Nat → List Sq → List Sq → List Sq
  | 0, _, O => O
  | _ + 1, [], O => O
  | k + 1, s :: S, O => if 4096 < O.length then O else if coversS T s then minusRun T P k S O else if s ∈ P then minusRun T P k ((kidsS s).reverse ++ S) O else minusRun T P k S (addS O s)
def wt1 (s : Sq) : Nat := 5 ^ (s.l + 1).toNat
def wt (S : List Sq) : Nat := (S.map wt1).sum
def minusS (a b : List Sq) : List Sq := minusRun (ofList b) (aroundS (ofList b)) (wt a.reverse) a.reverse []
def minusOut (a b : List Sq) : List Sq × Int := if regB a && regB b then (if 4096 < (minusS a b).length then ([], 2) else (regionS (minusS a b), 0)) else ([], 11)
example : minusOut [⟨1,2,1⟩] [⟨0,5,3⟩] = ([⟨0,4,2⟩, ⟨0,5,2⟩, ⟨0,4,3⟩], 0) := by decide +kernel

theorem minus_end {T P S O : List Sq} {k : Nat} (h : S = [] ∨ 4096 < O.length) : minusRun T P k S O = O := by
  cases k with
  | zero => rfl
  | succ k =>
    rcases h with rfl | h
    · rfl
    · cases S with
      | nil => rfl
      | cons s S => simp [minusRun, h]
theorem wt_pos (s : Sq) : 1 ≤ wt1 s := Nat.pow_pos (by decide)
theorem wt_cons (s : Sq) (S : List Sq) : wt (s :: S) = wt1 s + wt S := by simp [wt]
theorem wt_kids {s : Sq} (h : 1 ≤ s.l) (S : List Sq) : wt ((kidsS s).reverse ++ S) < wt (s :: S) := by
  have e : ∀ x y : Int, wt1 ⟨s.l - 1, x, y⟩ = 5 ^ s.l.toNat := fun x y => by unfold wt1; congr 1; show (s.l - 1 + 1).toNat = _; omega
  have e2 : wt1 s = 5 * 5 ^ s.l.toNat := by
    unfold wt1; rw [show (s.l + 1).toNat = s.l.toNat + 1 by omega, Nat.pow_succ, Nat.mul_comm]
  have p : 1 ≤ 5 ^ s.l.toNat := Nat.pow_pos (by decide)
  simp only [kidsS, wt, List.map_cons, List.sum_cons, List.reverse_cons, List.reverse_nil, List.nil_append, List.cons_append, e, e2]
  omega
theorem wt_len (S : List Sq) : S.length ≤ wt S := by
  induction S with
  | nil => exact Nat.le_refl _
  | cons s S ih => rw [wt_cons]; have := wt_pos s; simp; omega
theorem wt_le {S : List Sq} (h : ∀ s ∈ S, s.okB = true) : wt S ≤ S.length * 48828125 := by
  induction S with
  | nil => exact Nat.le_refl _
  | cons s S ih =>
    have h1 := ih fun t ht => h t (List.mem_cons_of_mem _ ht)
    have h2 := ((Sq.okB_iff s).1 (h s (List.mem_cons_self))).2.1
    have h3 : wt1 s ≤ 5 ^ 11 := Nat.pow_le_pow_right (by decide) (by omega)
    rw [wt_cons]
    simp only [List.length_cons, Nat.add_mul]
    omega
/-- the steps of a round -/
theorem minus_cov {T P S O : List Sq} {s : Sq} {k : Nat} (h0 : ¬ 4096 < O.length) (h : coversS T s = true) : minusRun T P (k + 1) (s :: S) O = minusRun T P k S O := by simp [minusRun, h0, h]
theorem minus_kids {T P S O : List Sq} {s : Sq} {k : Nat} (h0 : ¬ 4096 < O.length) (h : coversS T s = false) (h2 : s ∈ P) : minusRun T P (k + 1) (s :: S) O = minusRun T P k ((kidsS s).reverse ++ S) O := by simp [minusRun, h0, h, h2]
theorem minus_left {T P S O : List Sq} {s : Sq} {k : Nat} (h0 : ¬ 4096 < O.length) (h : coversS T s = false) (h2 : s ∉ P) : minusRun T P (k + 1) (s :: S) O = minusRun T P k S (addS O s) := by simp [minusRun, h0, h, h2]

/-- the squares of around are of level 1 or more -/
theorem aroundStep_lvl (s : Sq) : ∀ (k i : Nat) (O : List Sq), 1 ≤ i → (∀ t ∈ O, 1 ≤ t.l) → ∀ t ∈ aroundStep i s k O, 1 ≤ t.l
  | 0, i, O, _, h, t, ht => h t ht
  | k + 1, i, O, hi, h, t, ht => by
    unfold aroundStep at ht
    split at ht
    · exact h t ht
    · refine aroundStep_lvl s k (i + 1) _ (by omega) (fun u hu => ?_) t ht
      rcases mem_addS.1 hu with hu | rfl
      · exact h u hu
      · show 1 ≤ (i : Int); omega
theorem mem_sortS {L : List Sq} {s : Sq} : s ∈ sortS L ↔ s ∈ L := (sortS_perm L).mem_iff
theorem mem_regionS {C : List Sq} {s : Sq} (h : s ∈ regionS C) : s ∈ C := by
  unfold regionS at h
  obtain ⟨i, _, hi⟩ := List.mem_flatMap.1 h
  unfold rowS at hi
  rw [mem_sortS] at hi
  exact (List.mem_filter.1 hi).1
theorem around_lvl {C : List Sq} (h : ∀ s ∈ C, s.okB = true) : ∀ t ∈ aroundS C, 1 ≤ t.l := by
  rw [around_eq]
  have hR : ∀ s ∈ regionS C, 0 ≤ s.l := fun s hs => ((Sq.okB_iff s).1 (h s (mem_regionS hs))).1
  generalize regionS C = R at hR
  suffices ∀ (R O : List Sq), (∀ s ∈ R, 0 ≤ s.l) → (∀ t ∈ O, 1 ≤ t.l) → ∀ t ∈ R.foldl aroS O, 1 ≤ t.l from this R [] hR (fun t ht => by cases ht)
  intro R
  induction R with
  | nil => intro O _ hO; exact hO
  | cons s R ih =>
    intro O hR hO
    refine ih _ (fun t ht => hR t (List.mem_cons_of_mem _ ht)) ?_
    have := hR s List.mem_cons_self
    exact aroundStep_lvl s _ _ O (by omega) hO
theorem cellsOf_app (P Q : List Sq) : cellsOf (P ++ Q) = cellsOf P ++ cellsOf Q := by unfold cellsOf; rw [List.flatMap_append]
theorem cellsOf_one (P : List Sq) : ∀ u ∈ cellsOf P, u.oneCell' = true := by
  intro u hu
  obtain ⟨s, _, hs⟩ := List.mem_flatMap.1 hu
  unfold encS at hs
  simp only [List.mem_cons, List.not_mem_nil, or_false] at hs
  rcases hs with rfl | rfl | rfl <;> rfl
theorem cellsOf_at : ∀ (P : List Sq) (j : Nat) (u : Value), (cellsOf P)[j]? = some u → ∃ i s, P[i]? = some s ∧ (j = i * 3 ∧ u = .int .i64 s.l ∨ j = i * 3 + 1 ∧ u = .int .i64 s.x ∨ j = i * 3 + 2 ∧ u = .int .i64 s.y)
  | [], j, u, h => by simp [cellsOf] at h
  | s :: P, j, u, h => by
    have e : cellsOf (s :: P) = [.int .i64 s.l, .int .i64 s.x, .int .i64 s.y] ++ cellsOf P := rfl
    rw [e] at h
    by_cases h3 : j < 3
    · refine ⟨0, s, rfl, ?_⟩
      have : j = 0 ∨ j = 1 ∨ j = 2 := by omega
      rcases this with rfl | rfl | rfl <;> simp at h <;> simp [h]
    · rw [List.getElem?_append_right (by simp; omega)] at h
      obtain ⟨i, t, hi, ht⟩ := cellsOf_at P (j - 3) u (by simpa using h)
      refine ⟨i + 1, t, by simpa using hi, ?_⟩
      rcases ht with ⟨h, rfl⟩ | ⟨h, rfl⟩ | ⟨h, rfl⟩
      · exact .inl ⟨by omega, rfl⟩
      · exact .inr (.inl ⟨by omega, rfl⟩)
      · exact .inr (.inr ⟨by omega, rfl⟩)
end Go.Proofs.YtabolonlkocopaaDoor
