/- The area of a region is the number of its cells. -/
import Derived.Test.YtabolonlkocopaaDoorMinS
import Derived.Test.YtabolonlkocopaaDoorHas
namespace Go.Proofs.YtabolonlkocopaaDoor
open Go.RowKit Go.Plc

def cnt (f : Nat → Nat → Bool) : Nat := ((List.range 1024).map fun x => (List.range 1024).countP (f x)).sum
theorem countP_two (p q : Nat → Bool) : ∀ L : List Nat, L.countP (fun y => p y || q y) + L.countP (fun y => p y && q y) = L.countP p + L.countP q
  | [] => rfl
  | a :: L => by
    have := countP_two p q L
    simp only [List.countP_cons]
    cases p a <;> cases q a <;> simp <;> omega
theorem countP_sub (p q : Nat → Bool) : ∀ L : List Nat, L.countP (fun y => p y && !q y) + L.countP (fun y => p y && q y) = L.countP p
  | [] => rfl
  | a :: L => by
    have := countP_sub p q L
    simp only [List.countP_cons]
    cases p a <;> cases q a <;> simp <;> omega
theorem sum_two (u v a b : Nat → Nat) (h : ∀ x, u x + v x = a x + b x) : ∀ L : List Nat, (L.map u).sum + (L.map v).sum = (L.map a).sum + (L.map b).sum
  | [] => rfl
  | x :: L => by have := sum_two u v a b h L; have := h x; simp only [List.map_cons, List.sum_cons]; omega
theorem cnt_two (f g : Nat → Nat → Bool) : cnt (fun x y => f x y || g x y) + cnt (fun x y => f x y && g x y) = cnt f + cnt g :=
  sum_two _ _ _ _ (fun x => countP_two (f x) (g x) _) _
theorem cnt_sub (f g : Nat → Nat → Bool) : cnt (fun x y => f x y && !g x y) + cnt (fun x y => f x y && g x y) = cnt f := by
  have := sum_two (fun x => (List.range 1024).countP fun y => f x y && !g x y) (fun x => (List.range 1024).countP fun y => f x y && g x y) (fun x => (List.range 1024).countP (f x)) (fun _ => 0) (fun x => by have := countP_sub (f x) (g x) (List.range 1024); omega) (List.range 1024)
  have h0 : ∀ L : List Nat, (L.map fun _ => 0).sum = 0 := fun L => by induction L with
    | nil => rfl
    | cons a L ih => simpa using ih
  rw [h0] at this
  simpa [cnt] using this
theorem count_div {n : Nat} (hn : 0 < n) (a : Nat) : ∀ N : Nat, (List.range N).countP (fun x => decide (x / n = a)) = min (N - n * a) n
  | 0 => by simp
  | N + 1 => by
    rw [List.range_succ, List.countP_append, count_div hn a N]
    have hs : n * (a + 1) = n * a + n := Nat.mul_succ n a
    have hd : N / n = a ↔ n * a ≤ N ∧ N < n * a + n := by
      rw [Nat.div_eq_iff hn]
      have : a * n = n * a := Nat.mul_comm a n
      omega
    simp only [List.countP_cons, List.countP_nil, Nat.zero_add]
    by_cases h : N / n = a
    · have := hd.1 h
      simp only [h, decide_true, if_true]
      omega
    · have : ¬ (n * a ≤ N ∧ N < n * a + n) := fun g => h (hd.2 g)
      simp only [h, decide_false]
      simp
      omega
theorem cnt_prod (p q : Nat → Bool) : cnt (fun x y => p x && q y) = (List.range 1024).countP p * (List.range 1024).countP q := by
  unfold cnt
  generalize List.range 1024 = R
  suffices ∀ L : List Nat, (L.map fun x => R.countP fun y => p x && q y).sum = L.countP p * R.countP q from this R
  intro L
  induction L with
  | nil => simp
  | cons a L ih =>
    rw [List.map_cons, List.sum_cons, ih, List.countP_cons]
    cases p a
    · simp
    · simp only [Bool.true_and, if_true, Nat.add_mul, Nat.one_mul]
      rw [Nat.add_comm]
def cv (L : List Sq) (x y : Nat) : Bool := L.any fun s => decide ((x : Int) / 2 ^ s.l.toNat = s.x) && decide ((y : Int) / 2 ^ s.l.toNat = s.y)
theorem cv_iff {L : List Sq} {x y : Nat} : cv L x y = true ↔ covC L x y := by
  unfold cv covC inS
  simp [List.any_eq_true]
theorem cnt_ext {f g : Nat → Nat → Bool} (h : ∀ x y, f x y = g x y) : cnt f = cnt g := by
  have : f = g := funext fun x => funext fun y => h x y
  rw [this]
theorem cnt_one {s : Sq} (h : s.okB = true) : (cnt (cv [s]) : Int) = (2 : Int) ^ (2 * s.l).toNat := by
  obtain ⟨h0, h1, h2, h3, h4, h5⟩ := (Sq.okB_iff s).1 h
  have e : cnt (cv [s]) = cnt fun x y => decide (x / 2 ^ s.l.toNat = s.x.toNat) && decide (y / 2 ^ s.l.toNat = s.y.toNat) := cnt_ext fun x y => by
    have hx : ∀ (x : Nat) (a : Int), 0 ≤ a → (((x : Int) / 2 ^ s.l.toNat = a) ↔ x / 2 ^ s.l.toNat = a.toNat) := fun x a ha => by
      rw [show ((2 : Int) ^ s.l.toNat) = ((2 ^ s.l.toNat : Nat) : Int) by simp, ← Int.natCast_ediv]
      omega
    simp only [cv, List.any_cons, List.any_nil, Bool.or_false, hx x s.x (by omega), hx y s.y (by omega)]
  rw [e, cnt_prod, count_div (Nat.pow_pos (by decide)), count_div (Nat.pow_pos (by decide))]
  have hl : s.l.toNat ≤ 10 := by omega
  have hside : ∀ a : Int, 0 ≤ a → a < sideOf s.l → min (1024 - 2 ^ s.l.toNat * a.toNat) (2 ^ s.l.toNat) = 2 ^ s.l.toNat := fun a ha hb => by
    have hc : ∃ k : Nat, s.l = (k : Int) ∧ k ≤ 10 := ⟨s.l.toNat, by omega, hl⟩
    obtain ⟨k, hk, hk10⟩ := hc
    rw [hk] at hb ⊢
    have : k = 0 ∨ k = 1 ∨ k = 2 ∨ k = 3 ∨ k = 4 ∨ k = 5 ∨ k = 6 ∨ k = 7 ∨ k = 8 ∨ k = 9 ∨ k = 10 := by omega
    rcases this with rfl | rfl | rfl | rfl | rfl | rfl | rfl | rfl | rfl | rfl | rfl <;> simp [sideOf] at hb ⊢ <;> omega
  rw [hside s.x (by omega) (by omega), hside s.y (by omega) (by omega)]
  rw [show (2 * s.l).toNat = s.l.toNat + s.l.toNat by omega, Int.pow_add]
  simp
theorem cnt_false : cnt (fun _ _ => false) = 0 := by
  unfold cnt
  generalize List.range 1024 = R
  suffices ∀ L : List Nat, (L.map fun _ => R.countP fun _ => false).sum = 0 from this R
  intro L
  induction L with
  | nil => rfl
  | cons a L ih => rw [List.map_cons, List.sum_cons, ih]; simp
theorem area_list : ∀ {L : List Sq}, (∀ s ∈ L, s.okB = true) → (∀ s ∈ L, ∀ t ∈ L, withinS s t = true → s = t) → L.Nodup → areaS L = (cnt (cv L) : Int)
  | [], _, _, _ => by rw [show cnt (cv []) = 0 from cnt_false]; rfl
  | s :: L, h, ha, hn => by
    have hm := fun t (ht : t ∈ L) => List.mem_cons_of_mem s ht
    have ih := area_list (L := L) (fun t ht => h t (hm t ht)) (fun t ht u hu => ha t (hm t ht) u (hm u hu)) (List.nodup_cons.1 hn).2
    have h1 := cnt_one (h s List.mem_cons_self)
    have h2 := cnt_two (cv [s]) (cv L)
    have hd : cnt (fun x y => cv [s] x y && cv L x y) = 0 := (cnt_ext fun x y => by
      cases hc : cv [s] x y && cv L x y
      · rfl
      · obtain ⟨g1, g2⟩ := Bool.and_eq_true_iff.1 hc
        obtain ⟨u, hu, hui⟩ := cv_iff.1 g1
        obtain ⟨t, ht, hti⟩ := cv_iff.1 g2
        have := List.mem_singleton.1 hu
        subst this
        have hne : u = t := by
          by_cases hl : u.l ≤ t.l
          · exact ha u List.mem_cons_self t (hm t ht) (within_of_common (ok_l (h u List.mem_cons_self)).1 hl hui hti)
          · exact (ha t (hm t ht) u List.mem_cons_self (within_of_common (ok_l (h t (hm t ht))).1 (by omega) hti hui)).symm
        exact absurd (hne ▸ ht) (List.nodup_cons.1 hn).1).trans cnt_false
    have hs : cnt (cv (s :: L)) = cnt (fun x y => cv [s] x y || cv L x y) := cnt_ext fun x y => by simp [cv]
    have e : areaS (s :: L) = (2 : Int) ^ (2 * s.l).toNat + areaS L := by simp [areaS]
    rw [e, ih, hs, ← h1]
    omega
theorem sorted_nodup {L : List Sq} (h : sortedS L) : L.Nodup := List.Pairwise.imp (fun {a b} hab e => by subst e; exact ahead_irr hab) h
theorem area_reg {L : List Sq} (h : regB L = true) : areaS L = (cnt (cv L) : Int) := by
  obtain ⟨_, h2, h3⟩ := regB_iff.1 h
  exact area_list h2.ok h2.anti (sorted_nodup h3)
theorem area_uni {a b u m : List Sq} (ha : regB a = true) (hb : regB b = true) (hu : regB u = true) (hm : regB m = true) (h1 : ∀ x y, covC u x y ↔ covC a x y ∨ covC b x y) (h2 : ∀ x y, covC m x y ↔ covC a x y ∧ covC b x y) : areaS u + areaS m = areaS a + areaS b := by
  rw [area_reg ha, area_reg hb, area_reg hu, area_reg hm]
  have h := cnt_two (cv a) (cv b)
  rw [cnt_ext (f := cv u) (g := fun x y => cv a x y || cv b x y) (fun x y => by rw [Bool.eq_iff_iff, Bool.or_eq_true, cv_iff, cv_iff, cv_iff]; exact h1 _ _),
    cnt_ext (f := cv m) (g := fun x y => cv a x y && cv b x y) (fun x y => by rw [Bool.eq_iff_iff, Bool.and_eq_true, cv_iff, cv_iff, cv_iff]; exact h2 _ _)]
  omega
theorem area_min {a b d m : List Sq} (ha : regB a = true) (hd : regB d = true) (hm : regB m = true) (h1 : ∀ x y, covC d x y ↔ covC a x y ∧ ¬ covC b x y) (h2 : ∀ x y, covC m x y ↔ covC a x y ∧ covC b x y) : areaS d + areaS m = areaS a := by
  rw [area_reg ha, area_reg hd, area_reg hm]
  have h := cnt_sub (cv a) (cv b)
  rw [cnt_ext (f := cv d) (g := fun x y => cv a x y && !cv b x y) (fun x y => by rw [Bool.eq_iff_iff, Bool.and_eq_true, Bool.not_eq_true', ← Bool.not_eq_true, cv_iff, cv_iff, cv_iff]; exact h1 _ _),
    cnt_ext (f := cv m) (g := fun x y => cv a x y && cv b x y) (fun x y => by rw [Bool.eq_iff_iff, Bool.and_eq_true, cv_iff, cv_iff, cv_iff]; exact h2 _ _)]
  omega
end Go.Proofs.YtabolonlkocopaaDoor
