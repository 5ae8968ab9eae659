/- What names mean, as plain mathematics: steps between versions keep to the versions, and are turned by the steps back. -/
import Derived.Test.YtplpogonkfnafaaNmQ
namespace Go.Proofs.Ytplpogonkfnafaa
open Go.RowKit Go.Nm

theorem versF_head (l : List Ch) (a : List Int) (y : Int) : (versF a y l)[0]? = some a := by
  cases l with
  | nil => rfl
  | cons x l => unfold versF; split <;> rfl
theorem versF_step : ∀ (l : List Ch) (a : List Int) (y : Int), l.length < (versF a y l).length → ∀ k x, l[k]? = some x → ∃ A y', (versF a y l)[k]? = some A ∧ okCh A y' x ∧ (versF a y l)[k + 1]? = some (rep A x.fr x.to)
  | [], a, y, _, k, x, h => by simp at h
  | x0 :: l, a, y, hlen, k, x, h => by
    unfold versF at hlen ⊢
    split at hlen
    · rename_i hok
      rw [if_pos hok]
      cases k with
      | zero =>
        simp at h; subst h
        exact ⟨a, y, rfl, hok, by simpa using versF_head l (rep a x0.fr x0.to) x0.yr⟩
      | succ k =>
        obtain ⟨A, y', h1, h2, h3⟩ := versF_step l (rep a x0.fr x0.to) x0.yr (by simpa using hlen) k x (by simpa using h)
        exact ⟨A, y', by simpa using h1, h2, by simpa using h3⟩
    · simp at hlen
theorem vers_step {b : Bk} (hb : Val b) {k : Nat} {x : Ch} (h : b.chs[k]? = some x) : ∃ A y, (vers b)[k]? = some A ∧ okCh A y x ∧ (vers b)[k + 1]? = some (rep A x.fr x.to) := by
  have hv := hb.2
  unfold vers at hv ⊢
  split at hv
  · rename_i h0
    rw [if_pos h0]
    exact versF_step _ _ _ hv k x h
  · simp at hv
theorem vers_at {b : Bk} (hb : Val b) {k : Nat} (h : k ≤ b.chs.length) : ∃ A, (vers b)[k]? = some A ∧ Inc A ∧ A.length ≤ 400 := by
  have hl := val_len hb
  have hk : k < (vers b).length := by omega
  refine ⟨_, List.getElem?_eq_getElem hk, vers_ok _ (List.getElem_mem hk)⟩
/-- a step's facts -/
structure StepD (A B : List Int) (x : Ch) : Prop where
  ia : Inc A
  ib : Inc B
  ifr : Inc x.fr
  ito : Inc x.to
  eq : B = rep A x.fr x.to
  frA : ∀ z ∈ x.fr, z ∈ A
  toA : ∀ z ∈ x.to, z ∈ A → z ∈ x.fr
  frN : x.fr ≠ []
  toN : x.to ≠ []
theorem step_data {b : Bk} (hb : Val b) {k : Nat} {x : Ch} (h : b.chs[k]? = some x) : ∃ A B, (vers b)[k]? = some A ∧ (vers b)[k + 1]? = some B ∧ StepD A B x := by
  obtain ⟨A, y, h1, h2, h3⟩ := vers_step hb h
  have hA := vers_ok A (List.mem_of_getElem? h1)
  have hB := vers_ok _ (List.mem_of_getElem? h3)
  refine ⟨A, _, h1, h3, hA.1, hB.1, h2.2.2.1.2.2.1, h2.2.2.2.1.2.2.1, rfl, fun z hz => Classical.byContradiction fun hn => ?_, fun z hz hzA => Classical.byContradiction fun hn => ?_, fun e => by have := h2.2.2.1.1; rw [e] at this; simp at this, fun e => by have := h2.2.2.2.1.1; rw [e] at this; simp at this⟩
  · have : z ∈ wo x.fr A := (mem_wo h2.2.2.1.2.2.1 hA.1 z).2 ⟨hz, hn⟩
    rw [h2.2.2.2.2.1] at this; simp at this
  · exact h2.2.2.2.2.2.1 z ((mem_wo h2.2.2.2.1.2.2.1 h2.2.2.1.2.2.1 z).2 ⟨hz, hn⟩) hzA
theorem StepD.memB {A B : List Int} {x : Ch} (h : StepD A B x) {z : Int} : z ∈ B ↔ (z ∈ A ∧ z ∉ x.fr) ∨ z ∈ x.to := by
  rw [h.eq, mem_rep h.ia h.ifr]
  constructor
  · rintro (h1 | h1)
    · exact .inl h1
    · exact .inr h1.1
  · rintro (h1 | h1)
    · exact .inl h1
    · obtain ⟨y, hy⟩ := List.exists_mem_of_ne_nil _ h.frN
      exact .inr ⟨h1, y, h.frA y hy, hy⟩
theorem StepD.fwd {A B : List Int} {x : Ch} (h : StepD A B x) {l : List Int} (hl : Inc l) (hs : ∀ z ∈ l, z ∈ A) : Inc (rep l x.fr x.to) ∧ ∀ z ∈ rep l x.fr x.to, z ∈ B := by
  refine ⟨rep_inc hl h.ifr h.ito fun z hz hzl => h.toA z hz (hs z hzl), fun z hz => h.memB.2 ?_⟩
  rcases (mem_rep hl h.ifr).1 hz with h1 | h1
  · exact .inl ⟨hs z h1.1, h1.2⟩
  · exact .inr h1.1
theorem StepD.bwd {A B : List Int} {x : Ch} (h : StepD A B x) {l : List Int} (hl : Inc l) (hs : ∀ z ∈ l, z ∈ B) : Inc (rep l x.to x.fr) ∧ ∀ z ∈ rep l x.to x.fr, z ∈ A := by
  refine ⟨rep_inc hl h.ito h.ifr fun z hz hzl => ?_, fun z hz => ?_⟩
  · rcases h.memB.1 (hs z hzl) with h1 | h1
    · exact absurd hz h1.2
    · exact h1
  · rcases (mem_rep hl h.ito).1 hz with h1 | h1
    · rcases h.memB.1 (hs z h1.1) with h2 | h2
      · exact h2.1
      · exact absurd h2 h1.2
    · exact h.frA z h1.1
theorem fwdN_ok {b : Bk} (hb : Val b) {v : Nat} {l A : List Int} (hA : (vers b)[v]? = some A) (hl : Inc l) (hs : ∀ z ∈ l, z ∈ A) : ∀ k, v + k ≤ b.chs.length → ∃ B, (vers b)[v + k]? = some B ∧ Inc (fwdN b.chs v k l) ∧ ∀ z ∈ fwdN b.chs v k l, z ∈ B
  | 0, _ => ⟨A, hA, hl, hs⟩
  | k + 1, h => by
    obtain ⟨B, h1, h2, h3⟩ := fwdN_ok hb hA hl hs k (by omega)
    have hx : b.chs[v + k]? = some b.chs[v + k] := List.getElem?_eq_getElem (by omega)
    obtain ⟨A', B', g1, g2, g3⟩ := step_data hb hx
    rw [h1] at g1; injection g1 with g1; subst g1
    rw [fwd_step hx]
    exact ⟨B', g2, (g3.fwd h2 h3).1, (g3.fwd h2 h3).2⟩
theorem bwdN_ok {b : Bk} (hb : Val b) {v : Nat} {l A : List Int} (hA : (vers b)[v]? = some A) (hl : Inc l) (hs : ∀ z ∈ l, z ∈ A) (hv : v ≤ b.chs.length) : ∀ k, k ≤ v → ∃ B, (vers b)[v - k]? = some B ∧ Inc (bwdN b.chs v k l) ∧ ∀ z ∈ bwdN b.chs v k l, z ∈ B
  | 0, _ => ⟨A, hA, hl, hs⟩
  | k + 1, h => by
    obtain ⟨B, h1, h2, h3⟩ := bwdN_ok hb hA hl hs hv k (by omega)
    have hx : b.chs[v - (k + 1)]? = some b.chs[v - (k + 1)] := List.getElem?_eq_getElem (by omega)
    obtain ⟨A', B', g1, g2, g3⟩ := step_data hb hx
    rw [show v - (k + 1) + 1 = v - k by omega, h1] at g2; injection g2 with g2; subst g2
    rw [bwd_step hx]
    exact ⟨A', g1, (g3.bwd h2 h3).1, (g3.bwd h2 h3).2⟩
/-- what names mean is names of the other version, in order -/
theorem mns_ok {b : Bk} (hb : Val b) {v w : Nat} {l A : List Int} (hA : (vers b)[v]? = some A) (hl : Inc l) (hs : ∀ z ∈ l, z ∈ A) (hv : v ≤ b.chs.length) (hw : w ≤ b.chs.length) : ∃ B, (vers b)[w]? = some B ∧ Inc (mns b.chs v l w) ∧ ∀ z ∈ mns b.chs v l w, z ∈ B := by
  unfold mns
  split
  · obtain ⟨B, h1, h2⟩ := fwdN_ok hb hA hl hs (w - v) (by omega)
    rw [show v + (w - v) = w by omega] at h1
    exact ⟨B, h1, h2⟩
  · obtain ⟨B, h1, h2⟩ := bwdN_ok hb hA hl hs hv (v - w) (by omega)
    rw [show v - (v - w) = w by omega] at h1
    exact ⟨B, h1, h2⟩
theorem inc_sub_len : ∀ {l B : List Int}, Inc l → (∀ z ∈ l, z ∈ B) → l.length ≤ B.length
  | [], _, _, _ => Nat.zero_le _
  | x :: l, B, h, hs => by
    have hx := hs x List.mem_cons_self
    have ih := inc_sub_len (l := l) (B := B.erase x) h.tail fun z hz => (List.mem_erase_of_ne (by have := h.head z hz; omega)).2 (hs z (List.mem_cons_of_mem _ hz))
    rw [List.length_erase_of_mem hx] at ih
    have := List.length_pos_of_mem hx
    simp only [List.length_cons]; omega
end Go.Proofs.Ytplpogonkfnafaa
