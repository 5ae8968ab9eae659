
/- What names mean, as paths through the changes. -/
import Derived.Test.YtplpogonkfnafaaGreatNmBc
import Derived.Test.YtplpogonkfnafaaGreatNmBd
namespace Go.Proofs.YtplpogonkfnafaaGreat
open Go.RowKit Go.Nm

/-- one name may become another one by a change -/
def Sp (c : Ch) (y z : Int) : Prop := (y ∉ c.fr ∧ z = y) ∨ (y ∈ c.fr ∧ z ∈ c.to)
def Pth (chs : List Ch) : Nat → Nat → Int → Int → Prop
  | _, 0, x, y => x = y
  | i, k + 1, x, y => ∃ z c, chs[i]? = some c ∧ Sp c x z ∧ Pth chs (i + 1) k z y
theorem pth_tail {chs : List Ch} : ∀ {k i : Nat} {x y : Int}, Pth chs i (k + 1) x y ↔ ∃ z c, Pth chs i k x z ∧ chs[i + k]? = some c ∧ Sp c z y
  | 0, i, x, y => by
    constructor
    · rintro ⟨z, c, hc, hs, rfl⟩; exact ⟨x, c, rfl, hc, hs⟩
    · rintro ⟨z, c, rfl, hc, hs⟩; exact ⟨y, c, hc, hs, rfl⟩
  | k + 1, i, x, y => by
    constructor
    · rintro ⟨z, c, hc, hs, hp⟩
      obtain ⟨u, d, h1, h2, h3⟩ := pth_tail.1 hp
      exact ⟨u, d, ⟨z, c, hc, hs, h1⟩, by rw [show i + (k + 1) = i + 1 + k by omega]; exact h2, h3⟩
    · rintro ⟨u, d, ⟨z, c, hc, hs, h1⟩, h2, h3⟩
      exact ⟨z, c, hc, hs, pth_tail.2 ⟨u, d, h1, by rw [show i + 1 + k = i + (k + 1) by omega]; exact h2, h3⟩⟩
theorem pth_add {chs : List Ch} : ∀ {j i k : Nat} {x y : Int}, Pth chs i (j + k) x y ↔ ∃ z, Pth chs i j x z ∧ Pth chs (i + j) k z y
  | 0, i, k, x, y => by
    rw [Nat.zero_add]
    constructor
    · intro h; exact ⟨x, rfl, h⟩
    · rintro ⟨z, rfl, h⟩; exact h
  | j + 1, i, k, x, y => by
    rw [show j + 1 + k = (j + k) + 1 by omega]
    constructor
    · rintro ⟨z, c, hc, hs, hp⟩
      obtain ⟨u, h1, h2⟩ := pth_add.1 hp
      exact ⟨u, ⟨z, c, hc, hs, h1⟩, by rw [show i + (j + 1) = i + 1 + j by omega]; exact h2⟩
    · rintro ⟨u, ⟨z, c, hc, hs, h1⟩, h2⟩
      exact ⟨z, c, hc, hs, pth_add.2 ⟨u, h1, by rw [show i + 1 + j = i + (j + 1) by omega]; exact h2⟩⟩
section
variable {b : Bk} (hb : Val b)
theorem ch_at {k : Nat} (h : k < b.chs.length) : ∃ c, b.chs[k]? = some c := ⟨_, List.getElem?_eq_getElem h⟩
include hb
theorem mem_fwd {v : Nat} {l A : List Int} (hA : (vers b)[v]? = some A) (hl : Inc l) (hs : ∀ z ∈ l, z ∈ A) : ∀ k, v + k ≤ b.chs.length → ∀ z, (z ∈ fwdN b.chs v k l ↔ ∃ x ∈ l, Pth b.chs v k x z) := by
  intro k
  induction k with
  | zero => intro _ z; constructor
            · intro h; exact ⟨z, h, rfl⟩
            · rintro ⟨x, h, rfl⟩; exact h
  | succ k ih =>
    intro hk z
    obtain ⟨c, hc⟩ := ch_at (b := b) (k := v + k) (by omega)
    obtain ⟨B, hB, hBi, _⟩ := fwdN_ok hb hA hl hs k (by omega)
    obtain ⟨_, _, _, _, g⟩ := step_data hb hc
    rw [fwd_step hc, mem_rep hBi g.ifr]
    constructor
    · rintro (⟨h1, h2⟩ | ⟨h1, y, h2, h3⟩)
      · obtain ⟨x, hx, hp⟩ := (ih (by omega) z).1 h1
        exact ⟨x, hx, pth_tail.2 ⟨z, c, hp, hc, .inl ⟨h2, rfl⟩⟩⟩
      · obtain ⟨x, hx, hp⟩ := (ih (by omega) y).1 h2
        exact ⟨x, hx, pth_tail.2 ⟨y, c, hp, hc, .inr ⟨h3, h1⟩⟩⟩
    · rintro ⟨x, hx, hp⟩
      obtain ⟨y, c', h1, h2, h3⟩ := pth_tail.1 hp
      rw [hc] at h2
      cases h2
      have hy := (ih (by omega) y).2 ⟨x, hx, h1⟩
      rcases h3 with ⟨h3, rfl⟩ | ⟨h3, h4⟩
      · exact .inl ⟨hy, h3⟩
      · exact .inr ⟨h4, y, hy, h3⟩
theorem mem_bwd {v : Nat} {l A : List Int} (hA : (vers b)[v]? = some A) (hl : Inc l) (hs : ∀ z ∈ l, z ∈ A) (hv : v ≤ b.chs.length) : ∀ k, k ≤ v → ∀ B, (vers b)[v - k]? = some B → ∀ z, (z ∈ bwdN b.chs v k l ↔ z ∈ B ∧ ∃ y ∈ l, Pth b.chs (v - k) k z y) := by
  intro k
  induction k with
  | zero =>
    intro _ B hB z
    rw [Nat.sub_zero, hA] at hB
    cases hB
    constructor
    · intro h; exact ⟨hs z h, z, h, rfl⟩
    · rintro ⟨_, y, h, rfl⟩; exact h
  | succ k ih =>
    intro hk B hB z
    have hi : v - (k + 1) + 1 = v - k := by omega
    obtain ⟨c, hc⟩ := ch_at (b := b) (k := v - (k + 1)) (by omega)
    obtain ⟨D, hD, hDi, hDs⟩ := bwdN_ok hb hA hl hs hv k (by omega)
    obtain ⟨A', B', hA', hB', g⟩ := step_data hb hc
    rw [hi, hD] at hB'
    cases hB'
    rw [hB] at hA'
    cases hA'
    rw [bwd_step hc, mem_rep hDi g.ito]
    have key := ih (by omega) D hD
    constructor
    · rintro (⟨h1, h2⟩ | ⟨h1, y, h2, h3⟩)
      · rcases g.memB.1 (hDs z h1) with ⟨h4, h5⟩ | h4
        · obtain ⟨_, y, hy, hp⟩ := (key z).1 h1
          exact ⟨h4, y, hy, z, c, hc, .inl ⟨h5, rfl⟩, by rw [hi]; exact hp⟩
        · exact absurd h4 h2
      · obtain ⟨_, u, hu, hp⟩ := (key y).1 h2
        exact ⟨g.frA z h1, u, hu, y, c, hc, .inr ⟨h1, h3⟩, by rw [hi]; exact hp⟩
    · rintro ⟨hz, y, hy, u, c', h1, h2, h3⟩
      rw [hc] at h1
      cases h1
      rw [hi] at h3
      rcases h2 with ⟨h2, rfl⟩ | ⟨h2, h4⟩
      · exact .inl ⟨(key u).2 ⟨g.memB.2 (.inl ⟨hz, h2⟩), y, hy, h3⟩, fun h => h2 (g.toA u h hz)⟩
      · exact .inr ⟨h2, u, (key u).2 ⟨g.memB.2 (.inr h4), y, hy, h3⟩, h4⟩
/-- a name means another one if and only if there is a path between them -/
theorem mem_mns {n m : Nat} {l A B : List Int} (hA : (vers b)[n]? = some A) (hB : (vers b)[m]? = some B) (hl : Inc l) (hs : ∀ z ∈ l, z ∈ A) (hn : n ≤ b.chs.length) (hm : m ≤ b.chs.length) (z : Int) :
    z ∈ mns b.chs n l m ↔ z ∈ B ∧ ∃ x ∈ l, (n ≤ m ∧ Pth b.chs n (m - n) x z) ∨ (m ≤ n ∧ Pth b.chs m (n - m) z x) := by
  obtain ⟨B', hB', _, hsub⟩ := mns_ok hb hA hl hs hn hm
  rw [hB] at hB'
  cases hB'
  have flip : ∀ {p q : Prop}, (p → q) → (p ↔ q ∧ p) := fun h => ⟨fun hp => ⟨h hp, hp⟩, And.right⟩
  rw [flip (hsub z)]
  refine and_congr_right fun hz => ?_
  unfold mns
  split
  · rename_i hle
    rw [mem_fwd hb hA hl hs (m - n) (by omega) z]
    constructor
    · rintro ⟨x, hx, hp⟩; exact ⟨x, hx, .inl ⟨hle, hp⟩⟩
    · rintro ⟨x, hx, ⟨_, hp⟩ | ⟨h, hp⟩⟩
      · exact ⟨x, hx, hp⟩
      · have : n = m := by omega
        subst this
        rw [Nat.sub_self] at hp ⊢
        exact ⟨x, hx, hp.symm⟩
  · rename_i hle
    have e : n - (n - m) = m := by omega
    rw [mem_bwd hb hA hl hs hn (n - m) (by omega) B (by rw [e]; exact hB) z, e]
    constructor
    · rintro ⟨_, x, hx, hp⟩; exact ⟨x, hx, .inr ⟨by omega, hp⟩⟩
    · rintro ⟨x, hx, ⟨h, _⟩ | ⟨_, hp⟩⟩
      · omega
      · exact ⟨hz, x, hx, hp⟩
theorem mns_symm {n m : Nat} {A B : List Int} {x y : Int} (hA : (vers b)[n]? = some A) (hB : (vers b)[m]? = some B) (hx : x ∈ A) (hy : y ∈ B) (hn : n ≤ b.chs.length) (hm : m ≤ b.chs.length) : y ∈ mns b.chs n [x] m ↔ x ∈ mns b.chs m [y] n := by
  rw [mem_mns hb hA hB (by simp [Inc]) (by simp; exact hx) hn hm, mem_mns hb hB hA (by simp [Inc]) (by simp; exact hy) hm hn]
  simp only [List.mem_singleton, exists_eq_left, hx, hy, true_and]
  exact or_comm
/-- from each name a path leads on, and back -/
theorem pth_on {n : Nat} {A : List Int} {x : Int} (hA : (vers b)[n]? = some A) (hx : x ∈ A) : ∀ k B, n + k ≤ b.chs.length → (vers b)[n + k]? = some B → ∃ z ∈ B, Pth b.chs n k x z := by
  intro k
  induction k with
  | zero => intro B _ hB; rw [Nat.add_zero, hA] at hB; cases hB; exact ⟨x, hx, rfl⟩
  | succ k ih =>
    intro B hk hB
    obtain ⟨c, hc⟩ := ch_at (b := b) (k := n + k) (by omega)
    obtain ⟨A', B', hA', hB', g⟩ := step_data hb hc
    have e : n + k + 1 = n + (k + 1) := by omega
    rw [e, hB] at hB'
    cases hB'
    obtain ⟨z, hz, hp⟩ := ih A' (by omega) hA'
    by_cases hf : z ∈ c.fr
    · obtain ⟨u, hu⟩ : ∃ u, u ∈ c.to := by
        cases ht : c.to with
        | nil => exact absurd ht g.toN
        | cons u _ => exact ⟨u, List.mem_cons_self⟩
      exact ⟨u, g.memB.2 (.inr hu), pth_tail.2 ⟨z, c, hp, hc, .inr ⟨hf, hu⟩⟩⟩
    · exact ⟨z, g.memB.2 (.inl ⟨hz, hf⟩), pth_tail.2 ⟨z, c, hp, hc, .inl ⟨hf, rfl⟩⟩⟩
theorem pth_back {n : Nat} {A : List Int} {x : Int} (hA : (vers b)[n]? = some A) (hx : x ∈ A) (hn : n ≤ b.chs.length) : ∀ k B, k ≤ n → (vers b)[n - k]? = some B → ∃ z ∈ B, Pth b.chs (n - k) k z x := by
  intro k
  induction k with
  | zero => intro B _ hB; rw [Nat.sub_zero, hA] at hB; cases hB; exact ⟨x, hx, rfl⟩
  | succ k ih =>
    intro B hk hB
    obtain ⟨c, hc⟩ := ch_at (b := b) (k := n - (k + 1)) (by omega)
    obtain ⟨A', B', hA', hB', g⟩ := step_data hb hc
    have e : n - (k + 1) + 1 = n - k := by omega
    rw [e] at hB'
    rw [hB] at hA'
    cases hA'
    obtain ⟨z, hz, hp⟩ := ih B' (by omega) hB'
    rcases g.memB.1 hz with ⟨h1, h2⟩ | h1
    · exact ⟨z, h1, z, c, hc, .inl ⟨h2, rfl⟩, by rw [e]; exact hp⟩
    · obtain ⟨u, hu⟩ : ∃ u, u ∈ c.fr := by
        cases ht : c.fr with
        | nil => exact absurd ht g.frN
        | cons u _ => exact ⟨u, List.mem_cons_self⟩
      exact ⟨u, g.frA u hu, z, c, hc, .inr ⟨hu, h1⟩, by rw [e]; exact hp⟩
theorem mns_some {n m : Nat} {A : List Int} {x : Int} (hA : (vers b)[n]? = some A) (hx : x ∈ A) (hn : n ≤ b.chs.length) (hm : m ≤ b.chs.length) : ∃ z, z ∈ mns b.chs n [x] m := by
  obtain ⟨B, hB, _, _⟩ := vers_at hb hm
  rcases Nat.le_total n m with h | h
  · have e : n + (m - n) = m := by omega
    obtain ⟨z, hz, hp⟩ := pth_on hb hA hx (m - n) B (by omega) (by rw [e]; exact hB)
    exact ⟨z, (mem_mns hb hA hB (by simp [Inc]) (by simp; exact hx) hn hm z).2 ⟨hz, x, by simp, .inl ⟨h, hp⟩⟩⟩
  · have e : n - (n - m) = m := by omega
    obtain ⟨z, hz, hp⟩ := pth_back hb hA hx hn (n - m) B (by omega) (by rw [e]; exact hB)
    rw [e] at hp
    exact ⟨z, (mem_mns hb hA hB (by simp [Inc]) (by simp; exact hx) hn hm z).2 ⟨hz, x, by simp, .inr ⟨h, hp⟩⟩⟩
end
end Go.Proofs.YtplpogonkfnafaaGreat
