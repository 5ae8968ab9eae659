
/- The reference's forth and back as mathematics. -/
import Derived.Test.YtplpogonkfnafaaGreatNmFs
namespace Go.Proofs.YtplpogonkfnafaaGreat
open Go.RowKit Go.Nm

/-- numbers put into a list, one after the other -/
def putsF (o : List Int) (m : List Int) : List Int := m.foldl (fun o n => rputF n o) o
def rforthF (x : Ch) (l : List Int) : List Int := l.foldl (fun o z => putsF o (goesF x z)) []
/-- .. the name itself, as often as one of its is among some -/
def backS (x : Ch) (l : List Int) (o : List Int) (z : Int) : List Int := (goesF x z).foldl (fun o m => if m ∈ l then rputF z o else o) o
def rbackF (x : Ch) (A l : List Int) : List Int := A.foldl (backS x l) []
theorem mem_putsF {z : Int} {m o : List Int} : z ∈ putsF o m ↔ z ∈ o ∨ z ∈ m := mem_puts
theorem putsF_inc {m o : List Int} (h : Inc o) : Inc (putsF o m) := puts_inc h
theorem putsF_len (m o : List Int) : (putsF o m).length ≤ o.length + m.length := puts_len m o
theorem mem_forthG {x : Ch} {z : Int} : ∀ {l o : List Int}, z ∈ l.foldl (fun o z => putsF o (goesF x z)) o ↔ z ∈ o ∨ ∃ y ∈ l, z ∈ goesF x y
  | [], o => by simp
  | y :: l, o => by
    rw [List.foldl_cons, mem_forthG, mem_putsF]
    simp only [List.mem_cons, exists_eq_or_imp]
    exact or_assoc
theorem forthG_inc {x : Ch} : ∀ {l o : List Int}, Inc o → Inc (l.foldl (fun o z => putsF o (goesF x z)) o)
  | [], _, h => h
  | y :: l, o, h => by rw [List.foldl_cons]; exact forthG_inc (putsF_inc h)
theorem mem_backS {x : Ch} {l : List Int} {z q : Int} {o : List Int} : q ∈ backS x l o z ↔ q ∈ o ∨ (q = z ∧ ∃ m ∈ goesF x z, m ∈ l) := by
  unfold backS
  generalize goesF x z = m
  induction m generalizing o with
  | nil => simp
  | cons a m ih =>
    rw [List.foldl_cons, ih]
    by_cases ha : a ∈ l
    · rw [if_pos ha, mem_rputF]
      constructor
      · rintro ((h | h) | ⟨h, _⟩)
        · exact .inr ⟨h, a, List.mem_cons_self, ha⟩
        · exact .inl h
        · exact .inr ⟨h, a, List.mem_cons_self, ha⟩
      · rintro (h | ⟨h, _⟩)
        · exact .inl (.inr h)
        · exact .inl (.inl h)
    · rw [if_neg ha]
      constructor
      · rintro (h | ⟨h, m', hm, hl⟩)
        · exact .inl h
        · exact .inr ⟨h, m', List.mem_cons_of_mem _ hm, hl⟩
      · rintro (h | ⟨h, m', hm, hl⟩)
        · exact .inl h
        · rcases List.mem_cons.1 hm with e | hm
          · rw [e] at hl; exact absurd hl ha
          · exact .inr ⟨h, m', hm, hl⟩
theorem backS_inc {x : Ch} {l : List Int} {z : Int} {o : List Int} (h : Inc o) : Inc (backS x l o z) := by
  unfold backS
  generalize goesF x z = m
  induction m generalizing o with
  | nil => exact h
  | cons a m ih =>
    rw [List.foldl_cons]
    by_cases ha : a ∈ l
    · rw [if_pos ha]; exact ih (rputF_inc h)
    · rw [if_neg ha]; exact ih h
theorem mem_backG {x : Ch} {l : List Int} {q : Int} : ∀ {A o : List Int}, q ∈ A.foldl (backS x l) o ↔ q ∈ o ∨ (q ∈ A ∧ ∃ m ∈ goesF x q, m ∈ l)
  | [], o => by simp
  | a :: A, o => by
    rw [List.foldl_cons, mem_backG, mem_backS]
    constructor
    · rintro ((h | ⟨h, h2⟩) | ⟨h, h2⟩)
      · exact .inl h
      · subst h; exact .inr ⟨List.mem_cons_self, h2⟩
      · exact .inr ⟨List.mem_cons_of_mem _ h, h2⟩
    · rintro (h | ⟨h, h2⟩)
      · exact .inl (.inl h)
      · rcases List.mem_cons.1 h with e | h
        · subst e; exact .inl (.inr ⟨rfl, h2⟩)
        · exact .inr ⟨h, h2⟩
theorem backG_inc {x : Ch} {l : List Int} : ∀ {A o : List Int}, Inc o → Inc (A.foldl (backS x l) o)
  | [], _, h => h
  | a :: A, o, h => by rw [List.foldl_cons]; exact backG_inc (backS_inc h)
theorem mem_goesF {x : Ch} {z q : Int} : q ∈ goesF x z ↔ (z ∈ x.fr ∧ q ∈ x.to) ∨ (z ∉ x.fr ∧ q = z) := by
  unfold goesF
  by_cases h : z ∈ x.fr
  · rw [if_pos h]; simp [h]
  · rw [if_neg h]; simp [h]
section
variable {A B : List Int} {x : Ch} (d : StepD A B x)
include d
/-- as the program goes on -/
theorem forth_rep {l : List Int} (hl : Inc l) (hs : ∀ z ∈ l, z ∈ A) : rforthF x l = rep l x.fr x.to := by
  refine inc_ext (forthG_inc (by simp [Inc])) (d.fwd hl hs).1 fun z => ?_
  unfold rforthF
  rw [mem_forthG, mem_rep hl d.ifr]
  simp only [List.not_mem_nil, false_or, mem_goesF]
  constructor
  · rintro ⟨y, hy, ⟨h1, h2⟩ | ⟨h1, rfl⟩⟩
    · exact .inr ⟨h2, y, hy, h1⟩
    · exact .inl ⟨hy, h1⟩
  · rintro (⟨h1, h2⟩ | ⟨h1, y, hy, h2⟩)
    · exact ⟨z, h1, .inr ⟨h2, rfl⟩⟩
    · exact ⟨y, hy, .inl ⟨h2, h1⟩⟩
/-- .. and back -/
theorem back_rep {l : List Int} (hl : Inc l) (hs : ∀ z ∈ l, z ∈ B) : rbackF x A l = rep l x.to x.fr := by
  refine inc_ext (backG_inc (by simp [Inc])) (d.bwd hl hs).1 fun z => ?_
  unfold rbackF
  rw [mem_backG, mem_rep hl d.ito]
  simp only [List.not_mem_nil, false_or, mem_goesF]
  constructor
  · rintro ⟨hz, m, ⟨h1, h2⟩ | ⟨h1, rfl⟩, hm⟩
    · exact .inr ⟨h1, m, hm, h2⟩
    · exact .inl ⟨hm, fun ht => h1 (d.toA m ht hz)⟩
  · rintro (⟨h1, h2⟩ | ⟨h1, y, hy, h2⟩)
    · rcases d.memB.1 (hs z h1) with ⟨h3, h4⟩ | h3
      · exact ⟨h3, z, .inr ⟨h4, rfl⟩, h1⟩
      · exact absurd h3 h2
    · exact ⟨d.frA z h1, y, .inl ⟨h1, h2⟩, hy⟩
end
end Go.Proofs.YtplpogonkfnafaaGreat
