
/- Squares as sets of cells; regions as canonical sets of squares: plain mathematics. -/
import Derived.Test.YtabolonlkocopaaGreatDoorSqM
namespace Go.Plc

/-! Squares as sets of cells. -/
def inS (s : Sq) (x y : Int) : Prop := x / 2 ^ s.l.toNat = s.x ∧ y / 2 ^ s.l.toNat = s.y
def covC (L : List Sq) (x y : Int) : Prop := ∃ s ∈ L, inS s x y

theorem two_pos (k : Nat) : (0 : Int) < 2 ^ k := Int.pow_pos (by decide)
theorem div_div_pow (x : Int) (a b : Nat) : x / 2 ^ a / 2 ^ b = x / 2 ^ (a + b) := by
  rw [Int.pow_add, Int.ediv_ediv_of_nonneg (Int.le_of_lt (two_pos a))]
theorem in_blur {s : Sq} {x y : Int} {L : Int} (h0 : 0 ≤ s.l) (h : s.l ≤ L) (hi : inS s x y) : inS (blurS s L) x y := by
  obtain ⟨h1, h2⟩ := hi
  have e : L.toNat = s.l.toNat + (L - s.l).toNat := by omega
  refine ⟨?_, ?_⟩
  · show x / 2 ^ L.toNat = s.x / _
    rw [e, ← div_div_pow, h1]
  · show y / 2 ^ L.toNat = s.y / _
    rw [e, ← div_div_pow, h2]
theorem in_inj {a b : Sq} {x y : Int} (hl : a.l = b.l) (ha : inS a x y) (hb : inS b x y) : a = b := by
  obtain ⟨h1, h2⟩ := ha
  obtain ⟨h3, h4⟩ := hb
  rw [hl] at h1 h2
  exact Sq.ext3 hl (by omega) (by omega)
theorem blur_l (s : Sq) (L : Int) : (blurS s L).l = L := rfl
theorem within_iff {a b : Sq} : withinS a b = true ↔ a.l ≤ b.l ∧ blurS a b.l = b := by unfold withinS; simp
/-- two squares with a common cell: the smaller one lies in the other -/
theorem within_of_common {a b : Sq} {x y : Int} (h0 : 0 ≤ a.l) (hl : a.l ≤ b.l) (ha : inS a x y) (hb : inS b x y) : withinS a b = true :=
  within_iff.2 ⟨hl, in_inj (blur_l _ _) (in_blur h0 hl ha) hb⟩
theorem in_of_within {a b : Sq} {x y : Int} (h0 : 0 ≤ a.l) (h : withinS a b = true) (ha : inS a x y) : inS b x y := by
  obtain ⟨h1, h2⟩ := within_iff.1 h
  rw [← h2]; exact in_blur h0 h1 ha
theorem in_corner (s : Sq) : inS s (s.x * 2 ^ s.l.toNat) (s.y * 2 ^ s.l.toNat) :=
  ⟨Int.mul_ediv_cancel _ (Int.ne_of_gt (two_pos _)), Int.mul_ediv_cancel _ (Int.ne_of_gt (two_pos _))⟩
theorem within_refl (a : Sq) : withinS a a = true := within_iff.2 ⟨Int.le_refl _, by
  unfold blurS; rw [Int.sub_self]; simp⟩
theorem within_trans {a b c : Sq} (h0 : 0 ≤ a.l) (h1 : withinS a b = true) (h2 : withinS b c = true) : withinS a c = true := by
  have g1 := within_iff.1 h1
  have g2 := within_iff.1 h2
  have hb : 0 ≤ b.l := by omega
  exact within_of_common h0 (by omega) (in_corner a) (in_of_within hb h2 (in_of_within h0 h1 (in_corner a)))
theorem within_anti {a b : Sq} (h1 : withinS a b = true) (h2 : withinS b a = true) : a = b := by
  obtain ⟨g1, g2⟩ := within_iff.1 h1
  obtain ⟨g3, g4⟩ := within_iff.1 h2
  have e : a.l = b.l := by omega
  have h := within_iff.1 (within_refl a)
  rw [← g2, ← e]; exact h.2.symm
theorem blur_blur {s : Sq} {L M : Int} (h0 : 0 ≤ s.l) (h1 : s.l ≤ L) (h2 : L ≤ M) : blurS (blurS s L) M = blurS s M :=
  in_inj rfl (in_blur (show 0 ≤ L by omega) h2 (in_blur h0 h1 (in_corner s))) (in_blur h0 (by omega) (in_corner s))

/-! the children -/
theorem half_pow {l : Int} (h : 1 ≤ l) : (2 : Int) ^ l.toNat = 2 ^ (l - 1).toNat * 2 := by
  rw [show l.toNat = (l - 1).toNat + 1 by omega, Int.pow_succ]
theorem half_div {l x : Int} (h : 1 ≤ l) : x / 2 ^ l.toNat = x / 2 ^ (l - 1).toNat / 2 := by
  rw [half_pow h, Int.ediv_ediv_of_nonneg (Int.le_of_lt (two_pos _))]
theorem mem_kids {s k : Sq} : k ∈ kidsS s ↔ k.l = s.l - 1 ∧ k.x / 2 = s.x ∧ k.y / 2 = s.y := by
  unfold kidsS
  simp only [List.mem_cons, List.not_mem_nil, or_false]
  constructor
  · rintro (rfl | rfl | rfl | rfl) <;> exact ⟨rfl, by dsimp only; omega, by dsimp only; omega⟩
  · rintro ⟨h1, h2, h3⟩
    have e : k = ⟨s.l - 1, k.x, k.y⟩ := Sq.ext3 h1 rfl rfl
    have hx : k.x = 2 * s.x ∨ k.x = 2 * s.x + 1 := by omega
    have hy : k.y = 2 * s.y ∨ k.y = 2 * s.y + 1 := by omega
    rcases hx with hx | hx <;> rcases hy with hy | hy <;> rw [hx, hy] at e <;> simp [e]
theorem in_kids {s : Sq} {x y : Int} (h : 1 ≤ s.l) : inS s x y ↔ ∃ k ∈ kidsS s, inS k x y := by
  constructor
  · rintro ⟨h1, h2⟩
    refine ⟨⟨s.l - 1, x / 2 ^ (s.l - 1).toNat, y / 2 ^ (s.l - 1).toNat⟩, mem_kids.2 ⟨rfl, ?_, ?_⟩, rfl, rfl⟩
    · show x / 2 ^ (s.l - 1).toNat / 2 = s.x
      rw [← half_div h, h1]
    · show y / 2 ^ (s.l - 1).toNat / 2 = s.y
      rw [← half_div h, h2]
  · rintro ⟨k, hk, h1, h2⟩
    obtain ⟨g1, g2, g3⟩ := mem_kids.1 hk
    rw [g1] at h1 h2
    exact ⟨by rw [half_div h, h1, g2], by rw [half_div h, h2, g3]⟩
theorem side_step {l : Int} (h0 : 1 ≤ l) (h1 : l ≤ 10) : sideOf (l - 1) = 2 * sideOf l := by
  unfold sideOf
  rw [show (10 - (l - 1)).toNat = (10 - l).toNat + 1 by omega, Int.pow_succ]; omega
theorem kid_ok {s k : Sq} (hs : s.okB = true) (hk : k ∈ kidsS s) (h : 1 ≤ s.l) : k.okB = true := by
  obtain ⟨v1, v2, v3, v4, v5, v6⟩ := (Sq.okB_iff s).1 hs
  obtain ⟨g1, g2, g3⟩ := mem_kids.1 hk
  have := side_step h v2
  rw [Sq.okB_iff, g1, this]
  exact ⟨by omega, by omega, by omega, by omega, by omega, by omega⟩
theorem kid_within {s k : Sq} (hk : k ∈ kidsS s) : withinS k s = true := by
  obtain ⟨g1, g2, g3⟩ := mem_kids.1 hk
  rw [within_iff]
  refine ⟨by omega, Sq.ext3 rfl ?_ ?_⟩
  · show k.x / 2 ^ (s.l - k.l).toNat = s.x
    rw [g1, show (s.l - (s.l - 1)).toNat = 1 by omega]; simpa using g2
  · show k.y / 2 ^ (s.l - k.l).toNat = s.y
    rw [g1, show (s.l - (s.l - 1)).toNat = 1 by omega]; simpa using g3
/-- what lies strictly in a square lies in one of its children -/
theorem within_kid {s t : Sq} (h0 : 0 ≤ t.l) (h : withinS t s = true) (hl : t.l < s.l) : ∃ k ∈ kidsS s, withinS t k = true := by
  have hi := in_of_within h0 h (in_corner t)
  obtain ⟨k, hk, hk2⟩ := (in_kids (by omega)).1 hi
  exact ⟨k, hk, within_of_common h0 (by have := (mem_kids.1 hk).1; omega) (in_corner t) hk2⟩
/-- a square above a child that is not the child is above its parent -/
theorem within_up {s k t : Sq} (h1 : 1 ≤ s.l) (hk : k ∈ kidsS s) (h : withinS k t = true) (hl : k.l < t.l) : withinS s t = true := by
  have g := (mem_kids.1 hk).1
  have hi := in_of_within (by omega) h (in_corner k)
  have hj := in_of_within (by omega) (kid_within hk) (in_corner k)
  exact within_of_common (by omega) (by omega) hj hi
theorem par_kid (s : Sq) : s ∈ kidsS (parS s) := by
  unfold parS
  refine mem_kids.2 ⟨by show s.l = s.l + 1 - 1; omega, ?_, ?_⟩
  · show s.x / 2 = s.x / 2 ^ (s.l + 1 - s.l).toNat
    rw [show (s.l + 1 - s.l).toNat = 1 by omega]; simp
  · show s.y / 2 = s.y / 2 ^ (s.l + 1 - s.l).toNat
    rw [show (s.l + 1 - s.l).toNat = 1 by omega]; simp

/-! regions -/
structure Canon (L : List Sq) : Prop where
  ok : ∀ s ∈ L, s.okB = true
  anti : ∀ s ∈ L, ∀ t ∈ L, withinS s t = true → s = t
  quad : ∀ p, p.okB = true → 1 ≤ p.l → ¬ ∀ k ∈ kidsS p, k ∈ L
def fullC (L : List Sq) (s : Sq) : Prop := ∀ x y, inS s x y → covC L x y

theorem ok_l {s : Sq} (h : s.okB = true) : 0 ≤ s.l ∧ s.l ≤ 10 := by have := (Sq.okB_iff s).1 h; omega
theorem Canon.full {L : List Sq} (h : Canon L) : ∀ (n : Nat) (s : Sq), s.okB = true → s.l = (n : Int) → fullC L s → ∃ t ∈ L, withinS s t = true := by
  intro n
  induction n with
  | zero =>
    intro s hs hn hf
    obtain ⟨t, ht, hi⟩ := hf _ _ (in_corner s)
    have := ok_l (h.ok t ht)
    exact ⟨t, ht, within_of_common (by omega) (by omega) (in_corner s) hi⟩
  | succ n ih =>
    intro s hs hn hf
    have h1 : 1 ≤ s.l := by omega
    have hk : ∀ k ∈ kidsS s, ∃ t ∈ L, withinS k t = true := fun k hk =>
      ih k (kid_ok hs hk h1) (by have := (mem_kids.1 hk).1; omega) fun x y hi => hf x y ((in_kids h1).2 ⟨k, hk, hi⟩)
    by_cases hex : ∃ k ∈ kidsS s, ∃ t ∈ L, withinS k t = true ∧ k.l < t.l
    · obtain ⟨k, hk1, t, ht, hw, hl⟩ := hex
      exact ⟨t, ht, within_up h1 hk1 hw hl⟩
    · exfalso
      refine h.quad s hs h1 fun k hk1 => ?_
      obtain ⟨t, ht, hw⟩ := hk k hk1
      have : ¬ k.l < t.l := fun hl => hex ⟨k, hk1, t, ht, hw, hl⟩
      have e : k.l = t.l := by have := (within_iff.1 hw).1; omega
      have e2 : k = t := by
        have g := (within_iff.1 hw).2
        rw [← g, ← e]
        exact (within_iff.1 (within_refl k)).2.symm
      rw [e2]; exact ht
theorem Canon.above {L : List Sq} (h : Canon L) {s : Sq} (hs : s.okB = true) (hf : fullC L s) : ∃ t ∈ L, withinS s t = true :=
  h.full s.l.toNat s hs (by have := ok_l hs; omega) hf
theorem full_of_mem {L : List Sq} {s : Sq} (h : s ∈ L) : fullC L s := fun _ _ hi => ⟨s, h, hi⟩
theorem full_of_within {L : List Sq} {s t : Sq} (h0 : 0 ≤ s.l) (h : t ∈ L) (hw : withinS s t = true) : fullC L s := fun _ _ hi => ⟨t, h, in_of_within h0 hw hi⟩
/-- two regions that cover the same have the same squares -/
theorem Canon.sub {L M : List Sq} (hL : Canon L) (hM : Canon M) (h : ∀ x y, covC L x y ↔ covC M x y) {s : Sq} (hs : s ∈ L) : s ∈ M := by
  obtain ⟨t, ht, hw⟩ := hM.above (hL.ok s hs) fun x y hi => (h x y).1 ⟨s, hs, hi⟩
  obtain ⟨u, hu, hw2⟩ := hL.above (hM.ok t ht) fun x y hi => (h x y).2 ⟨t, ht, hi⟩
  have e := hL.anti s hs u hu (within_trans (ok_l (hL.ok s hs)).1 hw hw2)
  subst e
  rw [within_anti hw hw2]; exact ht
theorem Canon.mem {L M : List Sq} (hL : Canon L) (hM : Canon M) (h : ∀ x y, covC L x y ↔ covC M x y) (s : Sq) : s ∈ L ↔ s ∈ M :=
  ⟨hL.sub hM h, hM.sub hL fun x y => (h x y).symm⟩

/-! order -/
theorem ahead_trans {a b c : Sq} (h1 : aheadB a b = true) (h2 : aheadB b c = true) : aheadB a c = true := by
  rw [ahead_iff] at *; omega
theorem ahead_irr {a : Sq} (h : aheadB a a = true) : False := by rw [ahead_iff] at h; omega
def sortedS (L : List Sq) : Prop := L.Pairwise fun a b => aheadB a b = true
theorem sorted_ext : ∀ {L M : List Sq}, sortedS L → sortedS M → (∀ s, s ∈ L ↔ s ∈ M) → L = M
  | [], [], _, _, _ => rfl
  | [], b :: M, _, _, h => absurd ((h b).2 List.mem_cons_self) (by simp)
  | a :: L, [], _, _, h => absurd ((h a).1 List.mem_cons_self) (by simp)
  | a :: L, b :: M, hL, hM, h => by
    unfold sortedS at hL hM
    rw [List.pairwise_cons] at hL hM
    have e : a = b := by
      have h1 := (h a).1 List.mem_cons_self
      have h2 := (h b).2 List.mem_cons_self
      rw [List.mem_cons] at h1 h2
      rcases h1 with h1 | h1
      · exact h1
      · rcases h2 with h2 | h2
        · exact h2.symm
        · exact (ahead_irr (ahead_trans (hL.1 b h2) (hM.1 a h1))).elim
    subst e
    congr 1
    refine sorted_ext hL.2 hM.2 fun s => ?_
    have hs := h s
    rw [List.mem_cons, List.mem_cons] at hs
    constructor
    · intro h1
      rcases hs.1 (.inr h1) with h2 | h2
      · subst h2; exact (ahead_irr (hL.1 _ h1)).elim
      · exact h2
    · intro h1
      rcases hs.2 (.inr h1) with h2 | h2
      · subst h2; exact (ahead_irr (hM.1 _ h1)).elim
      · exact h2
theorem region_ext {L M : List Sq} (hL : Canon L) (hM : Canon M) (sL : sortedS L) (sM : sortedS M) (h : ∀ x y, covC L x y ↔ covC M x y) : L = M :=
  sorted_ext sL sM (hL.mem hM h)

theorem mem_addS' {C : List Sq} {s t : Sq} : t ∈ addS C s ↔ t ∈ C ∨ t = s := by
  unfold addS; split
  · rename_i h; constructor
    · exact .inl
    · rintro (h1 | rfl); exact h1; exact h
  · simp
theorem mem_foldAdd {L : List Sq} : ∀ {C : List Sq} {t : Sq}, t ∈ L.foldl addS C ↔ t ∈ C ∨ t ∈ L := by
  induction L with
  | nil => simp
  | cons s L ih => intro C t; rw [List.foldl_cons, ih, mem_addS', List.mem_cons, or_assoc]
theorem mem_ofList {L : List Sq} {t : Sq} : t ∈ ofList L ↔ t ∈ L := by unfold ofList; rw [mem_foldAdd]; simp
theorem mem_dropS' {C : List Sq} {s t : Sq} : t ∈ dropS C s ↔ t ∈ C ∧ t ≠ s := by unfold dropS; simp

/-- a square has another one around it -/
theorem around_iff {C : List Sq} {s : Sq} (hC : ∀ t ∈ C, t.okB = true) : hasAroundS C s = true ↔ ∃ t ∈ C, s.l < t.l ∧ withinS s t = true := by
  unfold hasAroundS
  rw [List.any_eq_true]
  constructor
  · rintro ⟨i, hi, h⟩
    rw [Bool.and_eq_true, decide_eq_true_eq, decide_eq_true_eq] at h
    exact ⟨_, h.2, h.1, within_iff.2 ⟨by show s.l ≤ (i : Int); omega, rfl⟩⟩
  · rintro ⟨t, ht, hl, hw⟩
    have h := ok_l (hC t ht)
    have e := (within_iff.1 hw).2
    refine ⟨t.l.toNat, List.mem_range.2 (by omega), ?_⟩
    rw [Bool.and_eq_true, decide_eq_true_eq, decide_eq_true_eq, show ((t.l.toNat : Nat) : Int) = t.l by omega, e]
    exact ⟨hl, ht⟩
theorem around_mem {C D : List Sq} {s : Sq} (h : ∀ t, t ∈ C ↔ t ∈ D) : hasAroundS C s = hasAroundS D s := by
  unfold hasAroundS
  congr 1
  funext i
  rw [decide_eq_decide.2 (h _)]
theorem within_level {a b : Sq} (h : withinS a b = true) (hl : a.l = b.l) : a = b := by
  have g := (within_iff.1 h).2
  rw [← g, ← hl]
  exact (within_iff.1 (within_refl a)).2.symm
theorem covers_iff {C : List Sq} {s : Sq} (hC : ∀ t ∈ C, t.okB = true) : coversS C s = true ↔ ∃ t ∈ C, withinS s t = true := by
  unfold coversS
  rw [Bool.or_eq_true, decide_eq_true_eq, around_iff hC]
  constructor
  · rintro (h | ⟨t, ht, _, hw⟩)
    · exact ⟨s, h, within_refl s⟩
    · exact ⟨t, ht, hw⟩
  · rintro ⟨t, ht, hw⟩
    by_cases hl : s.l < t.l
    · exact .inr ⟨t, ht, hl, hw⟩
    · have e := within_level hw (by have := (within_iff.1 hw).1; omega)
      exact .inl (e ▸ ht)

/-- a square is the first child of one all of whose children are there -/
theorem first_kid {s p : Sq} (hp : parS s = p) (hx : s.x % 2 = 0) (hy : s.y % 2 = 0) : s = ⟨p.l - 1, 2 * p.x, 2 * p.y⟩ := by
  have h := mem_kids.1 (par_kid s)
  rw [hp] at h
  exact Sq.ext3 h.1 (by show s.x = 2 * p.x; omega) (by show s.y = 2 * p.y; omega)
theorem leads_iff {C : List Sq} {s : Sq} : leadsS C s = true ↔ s.l ≠ 10 ∧ s.x % 2 = 0 ∧ s.y % 2 = 0 ∧ ∀ k ∈ kidsS (parS s), k ∈ C := by
  unfold leadsS
  rw [Bool.and_eq_true, Bool.not_eq_true', Bool.or_eq_false_iff, Bool.or_eq_false_iff, List.all_eq_true]
  simp only [decide_eq_false_iff_not, decide_eq_true_eq]
  constructor
  · rintro ⟨⟨⟨h1, h2⟩, h3⟩, h4⟩; exact ⟨h1, by omega, by omega, h4⟩
  · rintro ⟨h1, h2, h3, h4⟩; exact ⟨⟨⟨h1, by omega⟩, by omega⟩, h4⟩
theorem par_of_kid {p k : Sq} (hk : k ∈ kidsS p) : parS k = p := by
  obtain ⟨g1, g2, g3⟩ := mem_kids.1 hk
  unfold parS blurS
  rw [show (k.l + 1 - k.l).toNat = 1 by omega]
  exact Sq.ext3 (by show k.l + 1 = p.l; omega) (by simpa using g2) (by simpa using g3)
theorem quad_of_leads {C : List Sq} {p : Sq} (hp : p.okB = true) (h1 : 1 ≤ p.l) (h : ∀ k ∈ kidsS p, k ∈ C) : ∃ s ∈ C, s ∈ kidsS p ∧ leadsS C s = true := by
  have hk : (⟨p.l - 1, 2 * p.x, 2 * p.y⟩ : Sq) ∈ kidsS p := by unfold kidsS; simp
  refine ⟨_, h _ hk, hk, leads_iff.2 ⟨?_, ?_, ?_, ?_⟩⟩
  · have := ok_l hp; show p.l - 1 ≠ 10; omega
  · show 2 * p.x % 2 = 0; omega
  · show 2 * p.y % 2 = 0; omega
  · rw [par_of_kid hk]; exact h
theorem par_ok' {s : Sq} (hs : s.okB = true) (h : s.l ≠ 10) : (parS s).okB = true := by
  obtain ⟨v1, v2, v3, v4, v5, v6⟩ := (Sq.okB_iff s).1 hs
  have e := side_step (l := s.l + 1) (by omega) (by omega)
  rw [show s.l + 1 - 1 = s.l by omega] at e
  have hx : (parS s).x = s.x / 2 := by
    unfold parS blurS; rw [show (s.l + 1 - s.l).toNat = 1 by omega]; rfl
  have hy : (parS s).y = s.y / 2 := by
    unfold parS blurS; rw [show (s.l + 1 - s.l).toNat = 1 by omega]; rfl
  rw [Sq.okB_iff, hx, hy]
  show 0 ≤ s.l + 1 ∧ s.l + 1 ≤ 10 ∧ _ ∧ _ < sideOf (s.l + 1) ∧ _ ∧ _ < sideOf (s.l + 1)
  omega
theorem canon_of {L : List Sq} (hok : ∀ s ∈ L, s.okB = true) (h : ∀ s ∈ L, hasAroundS L s = false ∧ leadsS L s = false) : Canon L := by
  refine ⟨hok, fun s hs t ht hw => ?_, fun p hp h1 hq => ?_⟩
  · by_cases hl : s.l < t.l
    · have := (around_iff hok).2 ⟨t, ht, hl, hw⟩
      rw [(h s hs).1] at this; cases this
    · exact within_level hw (by have := (within_iff.1 hw).1; omega)
  · obtain ⟨s, hs, _, hl⟩ := quad_of_leads hp h1 hq
    rw [(h s hs).2] at hl; cases hl
theorem canon_no {L : List Sq} (h : Canon L) : ∀ s ∈ L, hasAroundS L s = false ∧ leadsS L s = false := by
  intro s hs
  have h0 := ok_l (h.ok s hs)
  refine ⟨?_, ?_⟩
  · cases hb : hasAroundS L s
    · rfl
    · obtain ⟨t, ht, hl, hw⟩ := (around_iff h.ok).1 hb
      have := h.anti s hs t ht hw
      subst this; omega
  · cases hb : leadsS L s
    · rfl
    · obtain ⟨h1, h2, h3, h4⟩ := leads_iff.1 hb
      exact (h.quad (parS s) (par_ok' (h.ok s hs) h1) (by show 1 ≤ s.l + 1; omega) h4).elim
theorem canon_mem {L M : List Sq} (h : Canon L) (e : ∀ s, s ∈ L ↔ s ∈ M) : Canon M :=
  ⟨fun s hs => h.ok s ((e s).2 hs), fun s hs t ht => h.anti s ((e s).2 hs) t ((e t).2 ht), fun p hp h1 hq => h.quad p hp h1 fun k hk => (e k).2 (hq k hk)⟩
theorem cov_mem {L M : List Sq} (e : ∀ s, s ∈ L ↔ s ∈ M) (x y : Int) : covC L x y ↔ covC M x y :=
  ⟨fun ⟨s, hs, h⟩ => ⟨s, (e s).1 hs, h⟩, fun ⟨s, hs, h⟩ => ⟨s, (e s).2 hs, h⟩⟩

/-! thinning: squares in others go -/
def thinS (L : List Sq) (C : List Sq) : List Sq := L.foldl (fun C s => if hasAroundS C s then dropS C s else C) C
/-- a square has a greatest one above it -/
theorem top_above {C : List Sq} (hC : ∀ t ∈ C, t.okB = true) : ∀ (n : Nat) (s : Sq), s ∈ C → 10 - s.l = (n : Int) → ∃ t ∈ C, withinS s t = true ∧ hasAroundS C t = false := by
  intro n
  induction n using Nat.strongRecOn with
  | _ n ih =>
    intro s hs hn
    cases hb : hasAroundS C s
    · exact ⟨s, hs, within_refl s, hb⟩
    · obtain ⟨t, ht, hl, hw⟩ := (around_iff hC).1 hb
      have h10 := ok_l (hC t ht)
      obtain ⟨u, hu, hw2, hb2⟩ := ih (10 - t.l).toNat (by omega) t ht (by omega)
      exact ⟨u, hu, within_trans (ok_l (hC s hs)).1 hw hw2, hb2⟩
theorem top_of {C : List Sq} (hC : ∀ t ∈ C, t.okB = true) {s : Sq} (hs : s ∈ C) : ∃ t ∈ C, withinS s t = true ∧ hasAroundS C t = false :=
  top_above hC (10 - s.l).toNat s hs (by have := ok_l (hC s hs); omega)
/-- D is C without some squares that have others around them -/
structure Thin (C D : List Sq) : Prop where
  sub : ∀ s ∈ D, s ∈ C
  gone : ∀ s ∈ C, s ∉ D → hasAroundS C s = true
theorem Thin.around {C D : List Sq} (h : Thin C D) (hC : ∀ t ∈ C, t.okB = true) {s : Sq} (hs : 0 ≤ s.l) : hasAroundS D s = hasAroundS C s := by
  have hD : ∀ t ∈ D, t.okB = true := fun t ht => hC t (h.sub t ht)
  rw [Bool.eq_iff_iff, around_iff hD, around_iff hC]
  constructor
  · rintro ⟨t, ht, h1, h2⟩; exact ⟨t, h.sub t ht, h1, h2⟩
  · rintro ⟨t, ht, h1, h2⟩
    obtain ⟨u, hu, hw, hb⟩ := top_of hC ht
    have huD : u ∈ D := by
      rcases Classical.em (u ∈ D) with h' | h'
      · exact h'
      · have := h.gone u hu h'; rw [hb] at this; cases this
    exact ⟨u, huD, by have := (within_iff.1 hw).1; omega, within_trans hs h2 hw⟩
theorem thin_step {C D : List Sq} (h : Thin C D) (hC : ∀ t ∈ C, t.okB = true) (s : Sq) (hs : 0 ≤ s.l) : Thin C (if hasAroundS D s then dropS D s else D) := by
  split
  · rename_i hb
    rw [h.around hC hs] at hb
    refine ⟨fun t ht => h.sub t (mem_dropS'.1 ht).1, fun t ht hn => ?_⟩
    by_cases e : t = s
    · subst e; exact hb
    · exact h.gone t ht fun hd => hn (mem_dropS'.2 ⟨hd, e⟩)
  · exact h
theorem thin_fold {C : List Sq} (hC : ∀ t ∈ C, t.okB = true) : ∀ (L D : List Sq), (∀ s ∈ L, 0 ≤ s.l) → Thin C D → Thin C (thinS L D) ∧ (∀ s ∈ L, hasAroundS C s = true → s ∉ thinS L D) ∧ (∀ s, s ∈ thinS L D → s ∈ D)
  | [], D, _, h => ⟨h, fun s hs => (by cases hs), fun s hs => hs⟩
  | s :: L, D, hL, h => by
    have h1 := thin_step h hC s (hL s List.mem_cons_self)
    obtain ⟨g1, g2, g3⟩ := thin_fold hC L _ (fun t ht => hL t (List.mem_cons_of_mem _ ht)) h1
    have e : thinS (s :: L) D = thinS L (if hasAroundS D s then dropS D s else D) := rfl
    rw [e]
    refine ⟨g1, fun t ht hb => ?_, fun t ht => ?_⟩
    · rcases List.mem_cons.1 ht with rfl | ht
      · intro hm
        have h2 := g3 t hm
        rw [h.around hC (hL t List.mem_cons_self), hb] at h2
        simp [mem_dropS'] at h2
      · exact g2 t ht hb
    · have h2 := g3 t ht
      split at h2
      · exact (mem_dropS'.1 h2).1
      · exact h2
theorem thin_spec {L : List Sq} (hL : ∀ s ∈ L, s.okB = true) (s : Sq) : s ∈ thinS L (ofList L) ↔ s ∈ L ∧ hasAroundS L s = false := by
  have hO : ∀ t, t ∈ ofList L ↔ t ∈ L := fun t => mem_ofList
  have hC : ∀ t ∈ ofList L, t.okB = true := fun t ht => hL t ((hO t).1 ht)
  obtain ⟨g1, g2, g3⟩ := thin_fold hC L (ofList L) (fun t ht => (ok_l (hL t ht)).1) ⟨fun _ h => h, fun _ h hn => absurd h hn⟩
  have ha : ∀ t, hasAroundS (ofList L) t = hasAroundS L t := fun t => around_mem hO
  constructor
  · intro h
    have hm := (hO s).1 (g1.sub s h)
    refine ⟨hm, ?_⟩
    cases hb : hasAroundS L s
    · rfl
    · exact absurd h (g2 s hm (by rw [ha, hb]))
  · rintro ⟨h1, h2⟩
    rcases Classical.em (s ∈ thinS L (ofList L)) with h' | h'
    · exact h'
    · have := g1.gone s ((hO s).2 h1) h'
      rw [ha, h2] at this; cases this
theorem thin_cov {L : List Sq} (hL : ∀ s ∈ L, s.okB = true) (x y : Int) : covC (thinS L (ofList L)) x y ↔ covC L x y := by
  constructor
  · rintro ⟨s, hs, hi⟩; exact ⟨s, ((thin_spec hL s).1 hs).1, hi⟩
  · rintro ⟨s, hs, hi⟩
    obtain ⟨t, ht, hw, hb⟩ := top_of hL hs
    exact ⟨t, (thin_spec hL t).2 ⟨ht, hb⟩, in_of_within (ok_l (hL s hs)).1 hw hi⟩

theorem mem_insS {s t : Sq} : ∀ {L : List Sq}, t ∈ insS s L ↔ t = s ∨ t ∈ L
  | [] => by simp [insS]
  | u :: L => by
    unfold insS
    split
    · rw [List.mem_cons, mem_insS, List.mem_cons]
      constructor
      · rintro (h | h | h); exact .inr (.inl h); exact .inl h; exact .inr (.inr h)
      · rintro (h | h | h); exact .inr (.inl h); exact .inl h; exact .inr (.inr h)
    · simp
theorem mem_sortS' {t : Sq} : ∀ {L : List Sq}, t ∈ sortS L ↔ t ∈ L
  | [] => by simp [sortS]
  | u :: L => by unfold sortS; rw [mem_insS, mem_sortS', List.mem_cons]
theorem mem_rowS {C : List Sq} {i : Nat} {t : Sq} : t ∈ rowS C i ↔ t ∈ C ∧ t.l = (i : Int) := by unfold rowS; rw [mem_sortS']; simp
theorem mem_drops {t : Sq} : ∀ {K C : List Sq}, t ∈ K.foldl dropS C ↔ t ∈ C ∧ t ∉ K
  | [], C => by simp
  | k :: K, C => by
    rw [List.foldl_cons, mem_drops, mem_dropS', List.mem_cons]
    constructor
    · rintro ⟨⟨h1, h2⟩, h3⟩; exact ⟨h1, fun h => h.elim h2 h3⟩
    · rintro ⟨h1, h2⟩; exact ⟨⟨h1, fun h => h2 (.inl h)⟩, fun h => h2 (.inr h)⟩
theorem mem_join {C : List Sq} {s t : Sq} (h : leadsS C s = true) : t ∈ joinStep C s ↔ (t ∈ C ∧ t ∉ kidsS (parS s)) ∨ t = parS s := by
  unfold joinStep; rw [if_pos h, mem_addS', mem_drops]
theorem join_no {C : List Sq} {s : Sq} (h : leadsS C s = false) : joinStep C s = C := by unfold joinStep; rw [h]; rfl

/-- valid squares none of which lies in another one -/
structure Anti (C : List Sq) : Prop where
  ok : ∀ s ∈ C, s.okB = true
  anti : ∀ s ∈ C, ∀ t ∈ C, withinS s t = true → s = t
theorem Anti.leads {C : List Sq} (h : Anti C) {s : Sq} (hl : leadsS C s = true) : s ∈ C ∧ (parS s).okB = true ∧ 1 ≤ (parS s).l := by
  obtain ⟨h1, h2, h3, h4⟩ := leads_iff.1 hl
  have hs := h4 s (par_kid s)
  have h0 := ok_l (h.ok s hs)
  exact ⟨hs, par_ok' (h.ok s hs) h1, by show 1 ≤ s.l + 1; omega⟩
theorem Anti.join {C : List Sq} (h : Anti C) (s : Sq) : Anti (joinStep C s) ∧ ∀ x y, covC (joinStep C s) x y ↔ covC C x y := by
  cases hl : leadsS C s
  · rw [join_no hl]; exact ⟨h, fun _ _ => Iff.rfl⟩
  · obtain ⟨hs, hp, h1⟩ := h.leads hl
    have hq := (leads_iff.1 hl).2.2.2
    have hmem := fun t => mem_join (t := t) hl
    generalize parS s = p at *
    -- another square of C neither lies in p nor p in it
    have hout : ∀ t ∈ C, t ∉ kidsS p → withinS p t = true → t = p := fun t ht hn hw => by
      exfalso
      have hk : (⟨p.l - 1, 2 * p.x, 2 * p.y⟩ : Sq) ∈ kidsS p := by unfold kidsS; simp
      have hkC := hq _ hk
      have h0 := ok_l (h.ok _ hkC)
      exact hn (h.anti _ hkC t ht (within_trans h0.1 (kid_within hk) hw) ▸ hk)
    have hin : ∀ t ∈ C, t ∉ kidsS p → withinS t p = true → t = p := fun t ht hn hw => by
      by_cases hlt : t.l < p.l
      · exfalso
        obtain ⟨k, hk, hw2⟩ := within_kid (ok_l (h.ok t ht)).1 hw hlt
        exact hn (h.anti t ht k (hq k hk) hw2 ▸ hk)
      · exact within_level hw (by have := (within_iff.1 hw).1; omega)
    refine ⟨⟨fun t ht => ?_, fun t ht u hu hw => ?_⟩, fun x y => ?_⟩
    · rcases (hmem t).1 ht with ht | rfl
      · exact h.ok t ht.1
      · exact hp
    · rcases (hmem t).1 ht with ht | rfl <;> rcases (hmem u).1 hu with hu | rfl
      · exact h.anti t ht.1 u hu.1 hw
      · exact hin t ht.1 ht.2 hw
      · exact (hout u hu.1 hu.2 hw).symm
      · rfl
    · constructor
      · rintro ⟨t, ht, hi⟩
        rcases (hmem t).1 ht with ht | rfl
        · exact ⟨t, ht.1, hi⟩
        · obtain ⟨k, hk, hk2⟩ := (in_kids h1).1 hi
          exact ⟨k, hq k hk, hk2⟩
      · rintro ⟨t, ht, hi⟩
        rcases Classical.em (t ∈ kidsS p) with hk | hk
        · exact ⟨p, (hmem p).2 (.inr rfl), (in_kids h1).2 ⟨t, hk, hi⟩⟩
        · exact ⟨t, (hmem t).2 (.inl ⟨ht, hk⟩), hi⟩
theorem Anti.joins {C : List Sq} (h : Anti C) : ∀ (R : List Sq), Anti (R.foldl joinStep C) ∧ ∀ x y, covC (R.foldl joinStep C) x y ↔ covC C x y := by
  intro R
  induction R generalizing C with
  | nil => exact ⟨h, fun _ _ => Iff.rfl⟩
  | cons s R ih =>
    have h1 := h.join s
    have h2 := ih h1.1
    exact ⟨h2.1, fun x y => (h2.2 x y).trans (h1.2 x y)⟩
/-- what a step changes -/
theorem join_other {C : List Sq} {s t : Sq} (h1 : t.l ≠ s.l) (h2 : t.l ≠ s.l + 1) : t ∈ joinStep C s ↔ t ∈ C := by
  cases hl : leadsS C s
  · rw [join_no hl]
  · rw [mem_join hl]
    constructor
    · rintro (h | rfl)
      · exact h.1
      · exact absurd rfl h2
    · intro h
      exact .inl ⟨h, fun hk => h1 (by have := (mem_kids.1 hk).1; rw [this]; show s.l + 1 - 1 = s.l; omega)⟩
theorem join_own {C : List Sq} {s t : Sq} (h1 : t.l = s.l) (h : t ∈ joinStep C s) : t ∈ C := by
  cases hl : leadsS C s
  · rwa [join_no hl] at h
  · rcases (mem_join hl).1 h with h | rfl
    · exact h.1
    · exact absurd h1 (by show s.l + 1 ≠ s.l; omega)
theorem joins_other {t : Sq} {i : Int} (h1 : t.l ≠ i) (h2 : t.l ≠ i + 1) : ∀ (R C : List Sq), (∀ s ∈ R, s.l = i) → (t ∈ R.foldl joinStep C ↔ t ∈ C)
  | [], _, _ => Iff.rfl
  | s :: R, C, hR => by
    have e := hR s List.mem_cons_self
    rw [List.foldl_cons, joins_other h1 h2 R _ fun u hu => hR u (List.mem_cons_of_mem _ hu), join_other (by omega) (by omega)]
theorem joins_own {t : Sq} {i : Int} (h1 : t.l = i) : ∀ (R C : List Sq), (∀ s ∈ R, s.l = i) → t ∈ R.foldl joinStep C → t ∈ C
  | [], _, _, h => h
  | s :: R, C, hR, h => join_own (by have := hR s List.mem_cons_self; omega) (joins_own h1 R _ (fun u hu => hR u (List.mem_cons_of_mem _ hu)) h)
theorem joins_quad {i : Int} {s : Sq} (hx : s.x % 2 = 0) (hy : s.y % 2 = 0) (h10 : s.l ≠ 10) : ∀ (R C : List Sq), (∀ s ∈ R, s.l = i) → s ∈ R → ¬ ∀ k ∈ kidsS (parS s), k ∈ R.foldl joinStep C
  | [], _, _, h => by cases h
  | u :: R, C, hR, h => by
    have hR' : ∀ v ∈ R, v.l = i := fun v hv => hR v (List.mem_cons_of_mem _ hv)
    rcases List.mem_cons.1 h with rfl | h
    · intro hq
      have hsl := hR s List.mem_cons_self
      have hkl : ∀ k ∈ kidsS (parS s), k.l = i := fun k hk => by
        have := (mem_kids.1 hk).1; rw [this]; show s.l + 1 - 1 = i; omega
      have h1 : ∀ k ∈ kidsS (parS s), k ∈ joinStep C s := fun k hk => joins_own (hkl k hk) R _ hR' (hq k hk)
      have h2 : leadsS C s = true := leads_iff.2 ⟨h10, hx, hy, fun k hk => join_own (by rw [hkl k hk, hsl]) (h1 k hk)⟩
      rcases (mem_join h2).1 (h1 s (par_kid s)) with h3 | h3
      · exact h3.2 (par_kid s)
      · have : s.l = (parS s).l := by rw [← h3]
        have e : (parS s).l = s.l + 1 := rfl
        omega
    · exact joins_quad hx hy h10 R _ hR' h
/-- no four children of one square of a level up to some level -/
def noQuad (C : List Sq) (i : Nat) : Prop := ∀ p : Sq, p.okB = true → 1 ≤ p.l → p.l ≤ (i : Int) → ¬ ∀ k ∈ kidsS p, k ∈ C
theorem joinS_spec {C : List Sq} (h : Anti C) : Canon (joinS C) ∧ ∀ x y, covC (joinS C) x y ↔ covC C x y := by
  have key : ∀ n : Nat, Anti ((List.range n).foldl (fun C i => (rowS C i).foldl joinStep C) C) ∧ noQuad ((List.range n).foldl (fun C i => (rowS C i).foldl joinStep C) C) n ∧ ∀ x y, covC ((List.range n).foldl (fun C i => (rowS C i).foldl joinStep C) C) x y ↔ covC C x y := by
    intro n
    induction n with
    | zero => exact ⟨h, fun p _ h1 h2 => absurd h1 (by have : ((0 : Nat) : Int) = 0 := rfl; omega), fun _ _ => Iff.rfl⟩
    | succ n ih =>
      obtain ⟨g1, g2, g3⟩ := ih
      rw [List.range_succ, List.foldl_append]
      simp only [List.foldl_cons, List.foldl_nil]
      generalize (List.range n).foldl (fun C i => (rowS C i).foldl joinStep C) C = D at *
      have hR : ∀ s ∈ rowS D n, s.l = (n : Int) := fun s hs => (mem_rowS.1 hs).2
      obtain ⟨k1, k2⟩ := g1.joins (rowS D n)
      refine ⟨k1, fun p hp h1 h2 hq => ?_, fun x y => (k2 x y).trans (g3 x y)⟩
      by_cases hl : p.l ≤ (n : Int)
      · refine g2 p hp h1 hl fun k hk => ?_
        have e := (mem_kids.1 hk).1
        exact (joins_other (by omega) (by omega) _ _ hR).1 (hq k hk)
      · have hpl : p.l = (n : Int) + 1 := by omega
        have hk : (⟨p.l - 1, 2 * p.x, 2 * p.y⟩ : Sq) ∈ kidsS p := by unfold kidsS; simp
        have hkl : (⟨p.l - 1, 2 * p.x, 2 * p.y⟩ : Sq).l = (n : Int) := by show p.l - 1 = _; omega
        have hm := joins_own hkl _ _ hR (hq _ hk)
        have e := par_of_kid hk
        refine joins_quad (i := (n : Int)) (s := ⟨p.l - 1, 2 * p.x, 2 * p.y⟩) (by show 2 * p.x % 2 = 0; omega) (by show 2 * p.y % 2 = 0; omega) (by have := ok_l hp; show p.l - 1 ≠ 10; omega) (rowS D n) D hR (mem_rowS.2 ⟨hm, hkl⟩) ?_
        rw [e]; exact hq
  obtain ⟨g1, g2, g3⟩ := key 11
  exact ⟨⟨g1.ok, g1.anti, fun p hp h1 => g2 p hp h1 (by have := ok_l hp; omega)⟩, g3⟩

theorem thin_anti {L : List Sq} (hL : ∀ s ∈ L, s.okB = true) : Anti (thinS L (ofList L)) := by
  refine ⟨fun s hs => hL s ((thin_spec hL s).1 hs).1, fun s hs t ht hw => ?_⟩
  obtain ⟨h1, h2⟩ := (thin_spec hL s).1 hs
  by_cases hl : s.l < t.l
  · have := (around_iff hL).2 ⟨t, ((thin_spec hL t).1 ht).1, hl, hw⟩
    rw [h2] at this; cases this
  · exact within_level hw (by have := (within_iff.1 hw).1; omega)
/-- THE NORMAL FORM: a region that covers the same -/
theorem normal_spec {L : List Sq} (hL : ∀ s ∈ L, s.okB = true) : Canon (normalS L) ∧ ∀ x y, covC (normalS L) x y ↔ covC L x y := by
  have e : normalS L = joinS (thinS L (ofList L)) := rfl
  obtain ⟨h1, h2⟩ := joinS_spec (thin_anti hL)
  rw [e]
  exact ⟨h1, fun x y => (h2 x y).trans (thin_cov hL x y)⟩

/-! no square twice -/
theorem addS_nd' {C : List Sq} (h : C.Nodup) (s : Sq) : (addS C s).Nodup := by
  unfold addS; split
  · exact h
  · rename_i hn
    rw [List.nodup_append]
    exact ⟨h, by simp, fun a ha b hb e => by simp at hb; subst hb; exact hn (e ▸ ha)⟩
theorem foldAdd_nd (L : List Sq) : ∀ {C : List Sq}, C.Nodup → (L.foldl addS C).Nodup := by
  induction L with
  | nil => exact fun h => h
  | cons s L ih => exact fun h => ih (addS_nd' h s)
theorem dropS_nd {C : List Sq} (h : C.Nodup) (s : Sq) : (dropS C s).Nodup := List.Pairwise.filter _ h
theorem foldDrop_nd (L : List Sq) : ∀ {C : List Sq}, C.Nodup → (L.foldl dropS C).Nodup := by
  induction L with
  | nil => exact fun h => h
  | cons s L ih => exact fun h => ih (dropS_nd h s)
theorem joins_nd (L : List Sq) : ∀ {C : List Sq}, C.Nodup → (L.foldl joinStep C).Nodup := by
  induction L with
  | nil => exact fun h => h
  | cons s L ih =>
    intro C h
    refine ih ?_
    unfold joinStep; split
    · exact addS_nd' (foldDrop_nd _ h) _
    · exact h
theorem thin_nd (L : List Sq) : ∀ {C : List Sq}, C.Nodup → (thinS L C).Nodup := by
  induction L with
  | nil => exact fun h => h
  | cons s L ih =>
    intro C h
    refine ih (C := if hasAroundS C s then dropS C s else C) ?_
    split
    · exact dropS_nd h s
    · exact h
theorem normal_nd (L : List Sq) : (normalS L).Nodup := by
  have e : normalS L = joinS (thinS L (ofList L)) := rfl
  rw [e]
  unfold joinS
  have h : (thinS L (ofList L)).Nodup := thin_nd L (foldAdd_nd L List.nodup_nil)
  generalize thinS L (ofList L) = C at h
  generalize List.range 11 = K
  induction K generalizing C with
  | nil => exact h
  | cons k K ih => exact ih _ (joins_nd _ h)

/-! the list of a set of squares: by levels, sorted -/
theorem insS_strict {s : Sq} : ∀ {L : List Sq}, sortedS L → s ∉ L → sortedS (insS s L)
  | [], _, _ => by simp [insS, sortedS]
  | t :: L, h, hn => by
    have hc := List.pairwise_cons.1 h
    unfold insS
    split
    · rename_i hts
      refine List.pairwise_cons.2 ⟨fun u hu => ?_, insS_strict hc.2 fun h' => hn (List.mem_cons_of_mem _ h')⟩
      rcases mem_insS.1 hu with rfl | hu
      · exact hts
      · exact hc.1 u hu
    · rename_i hts
      have hst : aheadB s t = true := by
        have hne : s ≠ t := fun e => hn (e ▸ List.mem_cons_self)
        rcases Classical.em (aheadB s t = true) with h' | h'
        · exact h'
        · exact absurd (cmp_eq (fun h1 => h' ((cmp_lt _ _).1 h1)) (fun h1 => hts ((cmp_lt _ _).1 h1))) hne
      refine List.pairwise_cons.2 ⟨fun u hu => ?_, h⟩
      rcases List.mem_cons.1 hu with rfl | hu
      · exact hst
      · exact ahead_trans hst (hc.1 u hu)
theorem sortS_strict : ∀ {L : List Sq}, L.Nodup → sortedS (sortS L)
  | [], _ => by simp [sortS, sortedS]
  | s :: L, h => by
    have hc := List.nodup_cons.1 h
    unfold sortS
    exact insS_strict (sortS_strict hc.2) fun h' => hc.1 (mem_sortS'.1 h')
theorem mem_region {C : List Sq} (h : ∀ s ∈ C, s.okB = true) {s : Sq} : s ∈ regionS C ↔ s ∈ C := by
  unfold regionS
  rw [List.mem_flatMap]
  constructor
  · rintro ⟨i, _, hi⟩; exact (mem_rowS.1 hi).1
  · intro hs
    have := ok_l (h s hs)
    exact ⟨s.l.toNat, List.mem_range.2 (by omega), mem_rowS.2 ⟨hs, by omega⟩⟩
theorem region_sorted {C : List Sq} (h : C.Nodup) : sortedS (regionS C) := by
  unfold regionS
  have key : ∀ n : Nat, sortedS ((List.range n).flatMap (rowS C)) ∧ ∀ s ∈ (List.range n).flatMap (rowS C), s.l < (n : Int) := by
    intro n
    induction n with
    | zero => exact ⟨by simp [sortedS], fun s hs => by simp at hs⟩
    | succ n ih =>
      obtain ⟨g1, g2⟩ := ih
      rw [List.range_succ, List.flatMap_append]
      simp only [List.flatMap_cons, List.flatMap_nil, List.append_nil]
      refine ⟨List.pairwise_append.2 ⟨g1, sortS_strict (List.Pairwise.filter _ h), fun a ha b hb => ?_⟩, fun s hs => ?_⟩
      · have h1 := g2 a ha
        have h2 := (mem_rowS.1 hb).2
        rw [ahead_iff]; omega
      · rcases List.mem_append.1 hs with hs | hs
        · have := g2 s hs; omega
        · have := (mem_rowS.1 hs).2; omega
  exact (key 11).1
theorem canon_region {C : List Sq} (h : Canon C) : Canon (regionS C) := canon_mem h fun _ => (mem_region h.ok).symm
theorem cov_region {C : List Sq} (h : ∀ s ∈ C, s.okB = true) (x y : Int) : covC (regionS C) x y ↔ covC C x y := cov_mem (fun _ => mem_region h) x y
/-- a region is the list of itself -/
theorem region_self {L : List Sq} (h : Canon L) (hs : sortedS L) : regionS L = L := by
  refine sorted_ext (region_sorted ?_) hs fun s => mem_region h.ok
  unfold sortedS at hs
  exact List.Pairwise.imp (fun {a b} hab e => by subst e; exact ahead_irr hab) hs
/-- the normal form of a region is itself; of a list, the one region that covers the same -/
theorem normal_unique {L R : List Sq} (hL : ∀ s ∈ L, s.okB = true) (hR : Canon R) (sR : sortedS R) (h : ∀ x y, covC R x y ↔ covC L x y) : regionS (normalS L) = R := by
  obtain ⟨h1, h2⟩ := normal_spec hL
  exact region_ext (canon_region h1) hR (region_sorted (normal_nd L)) sR fun x y => ((cov_region h1.ok x y).trans (h2 x y)).trans (h x y).symm
end Go.Plc
