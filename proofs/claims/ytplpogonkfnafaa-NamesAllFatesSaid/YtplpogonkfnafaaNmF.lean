/- A region that draws its order, by facts: each operation, once those that it waits for are done, establishes its own fact and keeps the others: then behind the region all facts stand, in whatever order it ran. -/
import Derived.Orders
import Derived.Laws.World
namespace Go.Proofs.Ytplpogonkfnafaa
open Go

section
variable {P : Program} {ops : Array Oper} {Q : Exit → Act → World → Prop}

/-- what is left to do -/
def leftOf (l : List Bool) : Nat := l.count false

theorem leftOf_set : ∀ (l : List Bool) (i : Nat), l[i]? = some false → leftOf (l.set i true) + 1 = leftOf l
  | [], i, h => by simp at h
  | b :: l, 0, h => by simp at h; subst h; simp [leftOf]
  | b :: l, i + 1, h => by
    have ih := leftOf_set l i (by simpa using h)
    unfold leftOf at *
    simp only [List.set_cons_succ, List.count_cons]
    omega

theorem leftOf_pos {l : List Bool} {i : Nat} (h : l[i]? = some false) : 0 < leftOf l := by
  have := leftOf_set l i h; omega

/-- an edge leads back -/
def backB (ops : Array Oper) : Bool := (List.range ops.size).all fun i => ((ops[i]?).map (·.after.all fun e => !Region.binds .any e || decide (e.on < i))).getD true

theorem backB_spec (h : backB ops = true) {i : Nat} {o : Oper} (hi : ops[i]? = some o) {e : Edge} (he : e ∈ o.after) (hb : Region.binds .any e = true) : e.on < i := by
  unfold backB at h
  rw [List.all_eq_true] at h
  have h1 := h i (by rw [List.mem_range]; exact (Array.getElem?_eq_some_iff.1 hi).1)
  simp only [hi, Option.map_some, Option.getD_some, Array.all_eq_true_iff_forall_mem] at h1
  have h2 := h1 e he
  rw [hb] at h2
  simpa using h2

theorem ready_none {listed : Array Bool} (hb : backB ops = true) (hs : listed.size = ops.size) (h : Region.ready .any ops listed = []) : ∀ i, i < ops.size → listed.getD i false = true := by
  intro i
  induction i using Nat.strongRecOn with
  | _ i ih =>
    intro hi
    rcases hl : listed.getD i false with _ | _
    · exfalso
      have hm : i ∈ Region.ready .any ops listed := mem_ready.2 ⟨by
          rw [← hs] at hi
          simp [hi] at hl ⊢
          exact hl, ops[i], Array.getElem?_eq_getElem hi, fun e he hbd => ih e.on (backB_spec hb (Array.getElem?_eq_getElem hi) he hbd) (by have := backB_spec hb (Array.getElem?_eq_getElem hi) he hbd; omega)⟩
      rw [h] at hm; cases hm
    · rfl

/-- operation j waits for operation i -/
def waitsB (ops : Array Oper) (j i : Nat) : Bool := ((ops[j]?).map (·.after.any fun e => Region.binds .any e && e.on == i)).getD false
theorem waits_no {j i : Nat} {oj : Oper} (hj : ops[j]? = some oj) (h : ∀ e ∈ oj.after, Region.binds .any e = true → e.on ≠ i) : waitsB ops j i = false := by
  unfold waitsB
  rw [hj]
  simp only [Option.map_some, Option.getD_some]
  rw [← Bool.not_eq_true, Array.any_eq_true']
  rintro ⟨e, he, hb⟩
  rw [Bool.and_eq_true, beq_iff_eq] at hb
  exact h e he hb.1 hb.2

theorem wpAny_facts (G : Act → World → Prop) (F : Nat → Act → World → Prop) (hb : backB ops = true)
    (hstep : ∀ i o, ops[i]? = some o → ∀ a w, G a w → (∀ e ∈ o.after, Region.binds .any e = true → F e.on a w) → wpOp P ops Q i (fun a' w' => G a' w' ∧ F i a' w' ∧ ∀ j, j < ops.size → j ≠ i → waitsB ops j i = false → F j a w → F j a' w') a w)
    (hend : ∀ a w, G a w → (∀ j, j < ops.size → F j a w) → Q .normal a w) :
    ∀ (fuel : Nat) (listed : Array Bool) (a : Act) (w : World), listed.size = ops.size → leftOf listed.toList ≤ fuel →
      (∀ j oj, ops[j]? = some oj → listed.getD j false = true → ∀ e ∈ oj.after, Region.binds .any e = true → listed.getD e.on false = true) → G a w → (∀ j, listed.getD j false = true → F j a w) → wpAny P .any ops Q fuel listed a w := by
  intro fuel
  induction fuel with
  | zero =>
    intro listed a w hs hf _ hG hF
    have hnil : Region.ready .any ops listed = [] := by
      cases hr : Region.ready .any ops listed with
      | nil => rfl
      | cons i rs =>
        have hm : i ∈ Region.ready .any ops listed := by rw [hr]; exact List.mem_cons_self
        obtain ⟨h0, o, ho, _⟩ := mem_ready.1 hm
        have hi : i < listed.size := by rw [hs]; exact (Array.getElem?_eq_some_iff.1 ho).1
        have := leftOf_pos (l := listed.toList) (i := i) (by simp [hi] at h0 ⊢; exact h0)
        omega
    exact ⟨hnil, hend a w hG fun j hj => hF j (ready_none hb hs hnil j hj)⟩
  | succ fuel ih =>
    intro listed a w hs hf hw hG hF
    refine ⟨fun hnil => hend a w hG fun j hj => hF j (ready_none hb hs hnil j hj), fun i hm => ?_⟩
    obtain ⟨h0, o, ho, hall⟩ := mem_ready.1 hm
    have hi : i < listed.size := by rw [hs]; exact (Array.getElem?_eq_some_iff.1 ho).1
    have hi0 : listed.getD i false = false := by simp [hi] at h0 ⊢; exact h0
    refine wpOp_mono (fun a' w' h => ?_) (hstep i o ho a w hG fun e he hbd => hF _ (hall e he hbd))
    refine ih _ a' w' (by simpa using hs) ?_ (fun j oj hj hl e he hbd => ?_) h.1 fun j hj => ?_
    · have := leftOf_set listed.toList i (by simp [hi] at h0 ⊢; exact h0)
      rw [Array.toList_setIfInBounds]
      omega
    · by_cases hji : j = i
      · subst hji
        rw [ho] at hj
        cases hj
        exact getD_set_true (hall e he hbd)
      · rw [getD_set_ne false (Ne.symm hji)] at hl
        exact getD_set_true (hw j oj hj hl e he hbd)
    · by_cases hji : j = i
      · subst hji; exact h.2.1
      · rw [getD_set_ne false (Ne.symm hji)] at hj
        have hjs : j < ops.size := by
          rcases Nat.lt_or_ge j listed.size with h | h
          · omega
          · simp [Array.getElem?_eq_none h] at hj
        refine h.2.2 j hjs hji (waits_no (Array.getElem?_eq_getElem hjs) fun e he hbd heq => ?_) (hF j hj)
        have := hw j _ (Array.getElem?_eq_getElem hjs) hj e he hbd
        rw [heq, hi0] at this; cases this

/-- the law: 'G' holds all along, operation i leaves 'F i' and keeps all other facts -/
theorem wp_region_facts {id : Nat} {a : Act} {w : World} (G : Act → World → Prop) (F : Nat → Act → World → Prop) (hm : P.follows .mixedOrders = true) (hb : backB ops = true)
    (hG : G a w.drew)
    (hstep : ∀ i o, ops[i]? = some o → ∀ a w, G a w → (∀ e ∈ o.after, Region.binds .any e = true → F e.on a w) → wpOp P ops Q i (fun a' w' => G a' w' ∧ F i a' w' ∧ ∀ j, j < ops.size → j ≠ i → waitsB ops j i = false → F j a w → F j a' w') a w)
    (hend : ∀ a w, G a w → (∀ j, j < ops.size → F j a w) → Q .normal a w) : (Code.region id ops true).wp P Q a w :=
  wp_region_any hm (wpAny_facts G F hb hstep hend ops.size _ a _ (by simp) (by simp [leftOf]) (fun j oj hj hl => by
      exfalso
      rcases Nat.lt_or_ge j ops.size with h | h <;> simp [h] at hl) hG (fun j hj => by
      exfalso
      rcases Nat.lt_or_ge j ops.size with h | h <;> simp [h] at hj))
/-- an operation without a guard -/
theorem wpOp_bare {i : Nat} {o : Oper} {K : Act → World → Prop} {a : Act} {w : World} (ho : ops[i]? = some o) (hg : o.guard = none) (h : o.wp P a w K Q) : wpOp P ops Q i K a w := by
  unfold wpOp
  simp only [ho]
  rw [if_pos (by unfold Region.wanted; rw [hg])]
  exact .inl h
end
section
variable {P : Program} {ops : Array Oper} {Q : Exit → Act → World → Prop}
/-- one more operation is done -/
def andB (dn : Nat → Bool) (i : Nat) : Nat → Bool := fun j => j == i || dn j
theorem wpAny_done (G : (Nat → Bool) → Act → World → Prop) (hb : backB ops = true)
    (hstep : ∀ dn i o, ops[i]? = some o → dn i = false → (∀ e ∈ o.after, Region.binds .any e = true → dn e.on = true) → ∀ a w, G dn a w → wpOp P ops Q i (fun a' w' => G (andB dn i) a' w') a w)
    (hend : ∀ dn a w, (∀ j, j < ops.size → dn j = true) → G dn a w → Q .normal a w) :
    ∀ (fuel : Nat) (listed : Array Bool) (a : Act) (w : World), listed.size = ops.size → leftOf listed.toList ≤ fuel → G (fun j => listed.getD j false) a w → wpAny P .any ops Q fuel listed a w := by
  intro fuel
  induction fuel with
  | zero =>
    intro listed a w hs hf hG
    have hnil : Region.ready .any ops listed = [] := by
      cases hr : Region.ready .any ops listed with
      | nil => rfl
      | cons i rs =>
        have hm : i ∈ Region.ready .any ops listed := by rw [hr]; exact List.mem_cons_self
        obtain ⟨h0, o, ho, _⟩ := mem_ready.1 hm
        have hi : i < listed.size := by rw [hs]; exact (Array.getElem?_eq_some_iff.1 ho).1
        have := leftOf_pos (l := listed.toList) (i := i) (by simp [hi] at h0 ⊢; exact h0)
        omega
    exact ⟨hnil, hend _ a w (ready_none hb hs hnil) hG⟩
  | succ fuel ih =>
    intro listed a w hs hf hG
    refine ⟨fun hnil => hend _ a w (ready_none hb hs hnil) hG, fun i hm => ?_⟩
    obtain ⟨h0, o, ho, hall⟩ := mem_ready.1 hm
    have hi : i < listed.size := by rw [hs]; exact (Array.getElem?_eq_some_iff.1 ho).1
    have hi0 : listed.getD i false = false := by simp [hi] at h0 ⊢; exact h0
    refine wpOp_mono (fun a' w' h => ?_) (hstep _ i o ho hi0 (fun e he hbd => hall e he hbd) a w hG)
    refine ih _ a' w' (by simpa using hs) ?_ ?_
    · have := leftOf_set listed.toList i (by simp [hi] at h0 ⊢; exact h0)
      rw [Array.toList_setIfInBounds]
      omega
    · have e : (fun j => (listed.setIfInBounds i true).getD j false) = andB (fun j => listed.getD j false) i := by
        funext j
        unfold andB
        by_cases hji : j = i
        · subst hji
          simp [hi]
        · have : (j == i) = false := by simpa using hji
          rw [this, Bool.false_or]
          by_cases hj : j < listed.size
          · simp [hj, Ne.symm hji]
          · simp [hj]
      rw [e]; exact h
/-- the law -/
theorem wp_region_done {id : Nat} {a : Act} {w : World} (G : (Nat → Bool) → Act → World → Prop) (hm : P.follows .mixedOrders = true) (hb : backB ops = true)
    (hG : G (fun _ => false) a w.drew)
    (hstep : ∀ dn i o, ops[i]? = some o → dn i = false → (∀ e ∈ o.after, Region.binds .any e = true → dn e.on = true) → ∀ a w, G dn a w → wpOp P ops Q i (fun a' w' => G (andB dn i) a' w') a w)
    (hend : ∀ dn a w, (∀ j, j < ops.size → dn j = true) → G dn a w → Q .normal a w) : (Code.region id ops true).wp P Q a w :=
  wp_region_any hm (wpAny_done G hb hstep hend ops.size _ a _ (by simp) (by simp [leftOf]) (by
    have e : (fun j => (Array.replicate ops.size false).getD j false) = fun _ => false := by
      funext j
      by_cases hj : j < ops.size <;> simp [hj]
    rw [e]; exact hG))
end
end Go.Proofs.Ytplpogonkfnafaa
