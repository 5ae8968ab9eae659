
/- Fates as paths. -/
import Derived.Test.YtplpogonkfnafaaGreatNmFn
import Derived.Test.YtplpogonkfnafaaGreatNmPt
import Derived.Test.YtplpogonkfnafaaGreatNmXd
import Derived.Test.YtplpogonkfnafaaGreatNmTh
namespace Go.Proofs.YtplpogonkfnafaaGreat
open Go.RowKit Go.Nm

theorem mem_fates {b : Bk} : ∀ {d : Nat} {g s : List Int}, s ∈ fatesF b d g ↔ ∃ e, s = g ++ e ∧ e.length = d ∧ ∀ i x, e[i]? = some x → x ∈ furF b (g ++ e.take i)
  | 0, g, s => by
    unfold fatesF
    constructor
    · intro h
      simp at h
      subst h
      exact ⟨[], by simp, rfl, fun i x h => by simp at h⟩
    · rintro ⟨e, rfl, he, _⟩
      have := List.length_eq_zero_iff.1 he
      subst this
      simp
  | d + 1, g, s => by
    show s ∈ (furF b g).flatMap (fun x => fatesF b d (g ++ [x])) ↔ _
    rw [List.mem_flatMap]
    constructor
    · rintro ⟨x, hx, hs⟩
      obtain ⟨e, rfl, he, h⟩ := mem_fates.1 hs
      refine ⟨x :: e, by simp, by simp [he], fun i y hy => ?_⟩
      cases i with
      | zero => simp at hy; subst hy; simpa using hx
      | succ i =>
        have := h i y (by simpa using hy)
        simpa using this
    · rintro ⟨e, rfl, he, h⟩
      cases e with
      | nil => simp at he
      | cons x e =>
        refine ⟨x, by simpa using h 0 x rfl, mem_fates.2 ⟨e, by simp, by simpa using he, fun i y hy => ?_⟩⟩
        have := h (i + 1) y (by simpa using hy)
        simpa using this
section
variable {b : Bk} (hb : Val b)
theorem fur_step {s : List Int} {i : Nat} {x y : Int} {c : Ch} (hc : b.chs[i]? = some c) (hx : s[i]? = some x) : y ∈ furF b (s.take (i + 1)) ↔ Sp c x y := by
  have hi := (List.getElem?_eq_some_iff.1 hx).1
  have hl : (s.take (i + 1)).length = i + 1 := by rw [List.length_take]; omega
  have hlast : (s.take (i + 1)).getLast? = some x := by
    rw [List.getLast?_eq_getElem?, hl, Nat.add_sub_cancel, List.getElem?_take, if_pos (by omega), hx]
  unfold furF
  rw [hlast]
  dsimp only
  rw [hl, Nat.add_sub_cancel, hc]
  dsimp only
  unfold Sp
  by_cases h : x ∈ c.fr <;> simp [h]
theorem fur_nil : furF b [] = b.first := rfl
/-- what a fate is -/
theorem mem_all {s : List Int} : s ∈ fatesF b (b.chs.length + 1) [] ↔ s.length = b.chs.length + 1 ∧ (∀ x, s[0]? = some x → x ∈ b.first) ∧ ∀ i x y c, b.chs[i]? = some c → s[i]? = some x → s[i + 1]? = some y → Sp c x y := by
  rw [mem_fates]
  constructor
  · rintro ⟨e, rfl, he, h⟩
    refine ⟨he, fun x hx => by have := h 0 x hx; simpa [fur_nil] using this, fun i x y c hc hx hy => ?_⟩
    have := h (i + 1) y hy
    rw [List.nil_append] at this
    exact (fur_step hc hx).1 this
  · rintro ⟨hl, h0, h⟩
    refine ⟨s, rfl, hl, fun i y hy => ?_⟩
    rw [List.nil_append]
    cases i with
    | zero => simpa [fur_nil] using h0 y hy
    | succ i =>
      have hi := (List.getElem?_eq_some_iff.1 hy).1
      obtain ⟨c, hc⟩ := ch_at (b := b) (k := i) (by omega)
      have hx : s[i]? = some s[i] := List.getElem?_eq_getElem (by omega)
      exact (fur_step hc hx).2 (h i _ y c hc hx hy)
theorem fate_path {s : List Int} (hs : s ∈ fatesF b (b.chs.length + 1) []) : ∀ k i x y, s[i]? = some x → s[i + k]? = some y → Pth b.chs i k x y
  | 0, i, x, y, hx, hy => by rw [Nat.add_zero, hx] at hy; injection hy
  | k + 1, i, x, y, hx, hy => by
    obtain ⟨hl, _, h⟩ := mem_all.1 hs
    have hi := (List.getElem?_eq_some_iff.1 hy).1
    have hz : s[i + k]? = some s[i + k] := List.getElem?_eq_getElem (by omega)
    obtain ⟨c, hc⟩ := ch_at (b := b) (k := i + k) (by omega)
    exact pth_tail.2 ⟨_, c, fate_path hs k i x _ hx hz, hc, h (i + k) _ y c hc hz (by rw [show i + k + 1 = i + (k + 1) by omega]; exact hy)⟩
/-- a path as a function -/
theorem pth_fun {chs : List Ch} : ∀ {k i : Nat} {x y : Int}, Pth chs i k x y → ∃ p : Nat → Int, p i = x ∧ p (i + k) = y ∧ ∀ j, i ≤ j → j < i + k → ∃ c, chs[j]? = some c ∧ Sp c (p j) (p (j + 1))
  | 0, i, x, y, h => ⟨fun _ => x, rfl, h, fun j h1 h2 => by omega⟩
  | k + 1, i, x, y, h => by
    obtain ⟨z, c, hp, hc, hs⟩ := pth_tail.1 h
    obtain ⟨p, h1, h2, h3⟩ := pth_fun hp
    refine ⟨fun j => if j = i + (k + 1) then y else p j, ?_, by simp, fun j hj1 hj2 => ?_⟩
    · show (if i = i + (k + 1) then y else p i) = x
      rw [if_neg (by omega)]; exact h1
    · show ∃ c, chs[j]? = some c ∧ Sp c (if j = i + (k + 1) then y else p j) (if j + 1 = i + (k + 1) then y else p (j + 1))
      rw [if_neg (by omega)]
      by_cases e : j + 1 = i + (k + 1)
      · rw [if_pos e]
        have e' : j = i + k := by omega
        subst e'
        exact ⟨c, hc, by rw [h2]; exact hs⟩
      · rw [if_neg e]
        exact h3 j hj1 (by omega)
theorem fun_fate {p : Nat → Int} (h0 : p 0 ∈ b.first) (h : ∀ j, j < b.chs.length → ∃ c, b.chs[j]? = some c ∧ Sp c (p j) (p (j + 1))) : (List.range (b.chs.length + 1)).map p ∈ fatesF b (b.chs.length + 1) [] := by
  refine mem_all.2 ⟨by simp, fun x hx => ?_, fun i x y c hc hx hy => ?_⟩
  · simp at hx; rw [← hx]; exact h0
  · have hi := (List.getElem?_eq_some_iff.1 hc).1
    obtain ⟨c', hc', hs⟩ := h i hi
    rw [hc] at hc'
    cases hc'
    rw [List.getElem?_map, List.getElem?_range (by omega)] at hx hy
    simp only [Option.map_some, Option.some.injEq] at hx hy
    rw [← hx, ← hy]; exact hs
include hb
/-- two names with a path between them lie on one fate -/
theorem fate_through {n k : Nat} {x z : Int} {A : List Int} (hA : (vers b)[n]? = some A) (hx : x ∈ A) (hp : Pth b.chs n k x z) (hk : n + k ≤ b.chs.length) : ∃ s ∈ fatesF b (b.chs.length + 1) [], s[n]? = some x ∧ s[n + k]? = some z := by
  have h0 := val_first hb
  obtain ⟨C, hC, _, _⟩ := vers_at hb hk
  have hz : z ∈ C := by
    obtain ⟨C', hC', _, hsub⟩ := fwdN_ok hb hA (l := [x]) (by simp [Inc]) (by simp; exact hx) k hk
    rw [hC] at hC'; cases hC'
    exact hsub z ((mem_fwd hb hA (by simp [Inc]) (by simp; exact hx) k hk z).2 ⟨x, by simp, hp⟩)
  obtain ⟨u, hu, hp1⟩ := pth_back hb hA hx (by omega) n b.first (Nat.le_refl _) (by rw [Nat.sub_self]; exact h0)
  rw [Nat.sub_self] at hp1
  obtain ⟨W, hW, _, _⟩ := vers_at hb (k := b.chs.length) (Nat.le_refl _)
  obtain ⟨t, _, hp3⟩ := pth_on hb hC hz (b.chs.length - (n + k)) W (by omega) (by rw [show n + k + (b.chs.length - (n + k)) = b.chs.length by omega]; exact hW)
  obtain ⟨p1, a1, a2, a3⟩ := pth_fun hp1
  obtain ⟨p2, b1, b2, b3⟩ := pth_fun hp
  obtain ⟨p3, c1, c2, c3⟩ := pth_fun hp3
  rw [Nat.zero_add] at a2
  obtain ⟨q, hq⟩ : ∃ q : Nat → Int, q = fun j => if j ≤ n then p1 j else if j ≤ n + k then p2 j else p3 j := ⟨_, rfl⟩
  have q1 : ∀ j, j ≤ n → q j = p1 j := fun j hj => by rw [hq]; exact if_pos hj
  have q2 : ∀ j, n ≤ j → j ≤ n + k → q j = p2 j := fun j h1 h2 => by
    rw [hq]
    dsimp only
    split
    · have : j = n := by omega
      subst this
      rw [a2, b1]
    · first | rfl | rw [if_pos h2]
  have q3 : ∀ j, n + k ≤ j → q j = p3 j := fun j h1 => by
    by_cases h2 : j = n + k
    · subst h2
      rw [q2 _ (by omega) (Nat.le_refl _), b2, c1]
    · rw [hq]
      dsimp only
      rw [if_neg (by omega), if_neg (by omega)]
  refine ⟨(List.range (b.chs.length + 1)).map q, fun_fate (by rw [q1 0 (by omega), a1]; exact hu) fun j hj => ?_, ?_, ?_⟩
  · rcases Nat.lt_or_ge j n with h1 | h1
    · rw [q1 j (by omega), q1 (j + 1) (by omega)]; exact a3 j (by omega) (by omega)
    · rcases Nat.lt_or_ge j (n + k) with h2 | h2
      · rw [q2 j h1 (by omega), q2 (j + 1) (by omega) (by omega)]; exact b3 j h1 h2
      · rw [q3 j h2, q3 (j + 1) (by omega)]; exact c3 j h2 (by omega)
  · rw [List.getElem?_map, List.getElem?_range (by omega), Option.map_some, q1 n (Nat.le_refl _), a2]
  · rw [List.getElem?_map, List.getElem?_range (by omega), Option.map_some, q3 _ (Nat.le_refl _), c1]
/-- what a name means at another version are the names there of the fates through it -/
theorem mns_fates {n m : Nat} {x z : Int} {A : List Int} (hA : (vers b)[n]? = some A) (hx : x ∈ A) (hn : n ≤ b.chs.length) (hm : m ≤ b.chs.length) : z ∈ mns b.chs n [x] m ↔ ∃ s ∈ fatesF b (b.chs.length + 1) [], s[n]? = some x ∧ s[m]? = some z := by
  have d : NmD b n x A := ⟨hb, hn, hA, hx⟩
  constructor
  · intro hz
    obtain ⟨C, dz⟩ := d.to hm hz
    rcases Nat.le_total n m with h | h
    · have hp := (d.up h hm z).1 hz
      obtain ⟨s, hs, h1, h2⟩ := fate_through hb hA hx hp (by omega)
      exact ⟨s, hs, h1, by rw [show n + (m - n) = m by omega] at h2; exact h2⟩
    · have hp := (d.down h dz).1 hz
      obtain ⟨s, hs, h1, h2⟩ := fate_through hb dz.at_ dz.mem hp (by omega)
      exact ⟨s, hs, by rw [show m + (n - m) = n by omega] at h2; exact h2, h1⟩
  · rintro ⟨s, hs, h1, h2⟩
    obtain ⟨C, hC, _, _⟩ := vers_at hb hm
    have h0 := val_first hb
    obtain ⟨hl, hf, _⟩ := mem_all.1 hs
    have hs0 : s[0]? = some s[0] := List.getElem?_eq_getElem (by omega)
    have hzC : z ∈ C := by
      have hp := fate_path hs m 0 _ z hs0 (by rw [Nat.zero_add]; exact h2)
      obtain ⟨C', hC', _, hsub⟩ := fwdN_ok hb h0 (l := [s[0]]) (by simp [Inc]) (by simp; exact hf _ hs0) m (by omega)
      rw [Nat.zero_add, hC] at hC'; cases hC'
      exact hsub z ((mem_fwd hb h0 (by simp [Inc]) (by simp; exact hf _ hs0) m (by omega) z).2 ⟨_, by simp, hp⟩)
    rcases Nat.le_total n m with h | h
    · exact (d.up h hm z).2 (fate_path hs (m - n) n x z h1 (by rw [show n + (m - n) = m by omega]; exact h2))
    · exact (d.down h ⟨hb, hm, hC, hzC⟩).2 (fate_path hs (n - m) m z x h2 (by rw [show m + (n - m) = n by omega]; exact h1))
end
/-- some fate through a name goes by these names -/
def touchB (fs : List (List Int)) (fr : List Int) (i : Nat) (t : List Int) : Bool := t.any fun k => match fs[k.toNat]? with | some f => (match f[i]? with | some z => decide (z ∈ fr) | none => false) | none => false
theorem mem_thr {n : Nat} {x : Int} {fs : List (List Int)} {k : Int} : k ∈ thr n x fs ↔ ∃ j : Nat, k = j ∧ ∃ f, fs[j]? = some f ∧ f[n]? = some x := by
  unfold thr
  rw [List.mem_map]
  constructor
  · rintro ⟨j, hj, rfl⟩
    obtain ⟨h1, h2⟩ := List.mem_filter.1 hj
    rw [decide_eq_true_eq] at h2
    cases hf : fs[j]? with
    | none => rw [hf] at h2; cases h2
    | some f => rw [hf] at h2; exact ⟨j, rfl, f, hf, h2⟩
  · rintro ⟨j, rfl, f, hf, hx⟩
    refine ⟨j, List.mem_filter.2 ⟨List.mem_range.2 (List.getElem?_eq_some_iff.1 hf).1, ?_⟩, rfl⟩
    rw [hf]
    simpa using hx
/-- the law of the chains -/
theorem chain_touch {b : Bk} {n k : Nat} {x : Int} {A : List Int} {c : Ch} (hb : Val b) (hA : (vers b)[n]? = some A) (hx : x ∈ A) (hn : n ≤ b.chs.length) (hc : b.chs[k]? = some c) :
    touchB (fatesF b (b.chs.length + 1) []) c.fr k (thr n x (fatesF b (b.chs.length + 1) [])) = decide ((k : Int) ∈ chainT b.chs n x b.chs.length) := by
  have hk := (List.getElem?_eq_some_iff.1 hc).1
  apply Bool.eq_iff_iff.2
  rw [decide_eq_true_eq]
  unfold touchB
  rw [List.any_eq_true]
  constructor
  · rintro ⟨q, hq, h⟩
    obtain ⟨j, rfl, f, hf, hfx⟩ := mem_thr.1 hq
    rw [Int.toNat_natCast, hf] at h
    dsimp only at h
    cases hz : f[k]? with
    | none => rw [hz] at h; cases h
    | some z =>
      rw [hz] at h
      dsimp only at h
      exact mem_chain hc ((mns_fates hb hA hx hn (by omega)).2 ⟨f, List.mem_of_getElem? hf, hfx, hz⟩) (by simpa using h)
  · intro h
    unfold chainT at h
    obtain ⟨i, hi, e⟩ := List.mem_map.1 h
    have e : i = k := by omega
    subst e
    obtain ⟨_, h2⟩ := List.mem_filter.1 hi
    rw [hc] at h2
    simp only [List.any_eq_true, decide_eq_true_eq] at h2
    obtain ⟨z, hz, hzf⟩ := h2
    obtain ⟨s, hs, h3, h4⟩ := (mns_fates hb hA hx hn (by omega)).1 hz
    obtain ⟨j, hj⟩ := List.getElem?_of_mem hs
    refine ⟨(j : Int), mem_thr.2 ⟨j, rfl, s, hj, h3⟩, ?_⟩
    rw [Int.toNat_natCast, hj]
    dsimp only
    rw [h4]
    simpa using hzf
end Go.Proofs.YtplpogonkfnafaaGreat
