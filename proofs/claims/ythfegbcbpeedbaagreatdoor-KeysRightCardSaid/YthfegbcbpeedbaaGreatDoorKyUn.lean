
/- The program's union. -/
import Derived.Test.YthfegbcbpeedbaaGreatDoorKyQ
import Derived.Deep.WholeRow
namespace Go.Proofs.YthfegbcbpeedbaaGreatDoor
open Go.RowKit Go.Nm Go.Ky

theorem InSl.ld {w : World} {B n c i : Nat} {A : Option Addr} {L : List Int} {x : Int} (h : InSl w B (.slice A n c) L) (hx : L[i]? = some x) : ∃ ad, A = some ad ∧ w.cell? (ad.add i) = some (.int .i64 x) := by
  obtain ⟨_, _, e, _, _, h⟩ := h
  cases e
  obtain ⟨ad, e, _, h2⟩ := h i x hx
  exact ⟨ad, e, h2⟩
/-- a row of the call's own: f tells its cells -/
structure IwG (t : TypeId) (W : World) (gw n : Nat) (f : Nat → Value) (X : World) : Prop where
  bel : Below W.heap.size W X
  cs : ∃ cs : Array Value, X.heap[gw]? = some (.cells cs t) ∧ cs.size = n ∧ ∀ k, k < n → cs[k]? = some (f k)
  base : W.heap.size ≤ gw
section
variable {t : TypeId} {W X Y : World} {gw n : Nat} {f : Nat → Value}
theorem IwG.step (h : IwG t W gw n f X) (hb : Below X.heap.size X Y) : IwG t W gw n f Y := by
  obtain ⟨cs, h1, h2⟩ := h.cs
  exact ⟨h.bel.trans (hb.mono h.bel.size), ⟨cs, (hb.block _ (Array.getElem?_eq_some_iff.1 h1).1).trans h1, h2⟩, h.base⟩
theorem IwG.start {W : World} {cs : Array Value} {z : Value} (h1 : cs.size = n) (h2 : ∀ k, k < n → cs[k]? = some z) : IwG t W W.heap.size n (fun _ => z) (W.alloc (.cells cs t)) :=
  ⟨below_new _, ⟨cs, World.alloc_heap_new W _, h1, h2⟩, Nat.le_refl _⟩
theorem IwG.cell (h : IwG t W gw n f X) {k : Nat} (hk : k < n) : X.cell? ⟨gw, k, none⟩ = some (f k) := by
  obtain ⟨cs, h1, h2, h3⟩ := h.cs
  simp only [World.cell?, h1]
  exact h3 k hk
theorem IwG.froz (h : IwG t W gw n f X) (k : Nat) : X.frozen? ⟨gw, k, none⟩ = false := by
  obtain ⟨cs, h1, _⟩ := h.cs
  exact frozen_cells h1 k
theorem IwG.lt (h : IwG t W gw n f X) : gw < X.heap.size := by
  obtain ⟨cs, h1, _⟩ := h.cs
  exact (Array.getElem?_eq_some_iff.1 h1).1
theorem IwG.set (h : IwG t W gw n f X) (k : Nat) (z : Value) : IwG t W gw n (updP f k z) (X.setCell ⟨gw, k, none⟩ z) := by
  obtain ⟨cs, h1, h2, h3⟩ := h.cs
  refine ⟨h.bel.setCell h.base _, ⟨cs.setIfInBounds k z, heap_setCell_same X gw k _ _ _ h1, by simp [h2], fun j hj => ?_⟩, h.base⟩
  unfold updP
  by_cases e : j = k
  · subst e
    rw [Array.getElem?_setIfInBounds_self_of_lt (by omega), if_pos rfl]
  · rw [Array.getElem?_setIfInBounds_ne (by omega), h3 j hj, if_neg e]
theorem IwG.low {W' : World} (h : IwG t W gw n f X) (hb : Below W'.heap.size W' W) : IwG t W' gw n f X := ⟨hb.trans (h.bel.mono hb.size), h.cs, Nat.le_trans hb.size h.base⟩
/-- another row of the call's own stays as it is -/
theorem IwG.other (h : IwG t W gw n f X) {g : Nat} (hg : g ≠ gw) (hb : W.heap.size ≤ g) (k : Nat) (z : Value) : IwG t W gw n f (X.setCell ⟨g, k, none⟩ z) := by
  obtain ⟨cs, h1, h2⟩ := h.cs
  exact ⟨h.bel.setCell hb _, ⟨cs, (heap_setCell_other X ⟨g, k, none⟩ gw z (fun e => hg e.symm)).trans h1, h2⟩, h.base⟩
end
theorem infoBl0 : (Tryz.prog.info? 4).map (fun i => (i.zero, i.size, i.bytes)) = some (some (.bool false), 1, 1) := by kernel_rfl
theorem infoBl : ∃ i, Tryz.prog.info? 4 = some i ∧ i.zero = some (.bool false) ∧ i.size = 1 ∧ i.bytes = 1 := by
  have h := infoBl0
  obtain ⟨i, h1, h2⟩ := Option.map_eq_some_iff.1 h
  simp only [Prod.mk.injEq] at h2
  exact ⟨i, h1, h2.1, h2.2.1, h2.2.2⟩
theorem infoU0 : (Tryz.prog.info? 109).map (fun i => (i.zero, i.size, i.bytes)) = some (some (.int .u64 0), 1, 8) := by kernel_rfl
theorem infoU : ∃ i, Tryz.prog.info? 109 = some i ∧ i.zero = some (.int .u64 0) ∧ i.size = 1 ∧ i.bytes = 8 := by
  have h := infoU0
  obtain ⟨i, h1, h2⟩ := Option.map_eq_some_iff.1 h
  simp only [Prod.mk.injEq] at h2
  exact ⟨i, h1, h2.1, h2.2.1, h2.2.2⟩
theorem wpList_make_bools {ops : Array Oper} {rest : List Oper} {o : Oper} {a : Act} {Q : Exit → Act → World → Prop} {w : World} (hg : o.guard = none) (l c : Operand) (hop : o.op = Op.makeSlice 106 l c) (n : Nat) (hl : a.eval l = .int .i64 (n : Int)) (hc : a.eval c = .int .i64 (n : Int)) (hn : n ≤ 1000000)
    (hK : ∀ cs : Array Value, cs.size = n → (∀ k, k < n → cs[k]? = some (.bool false)) → wpList Tryz.prog ops Q rest (a.put o.dst (.slice (some ⟨w.heap.size, 0, none⟩) n n)) (w.alloc (.cells cs 4))) : wpList Tryz.prog ops Q (o :: rest) a w := by
  refine wpList_plain hg fun K hK' => ?_
  obtain ⟨i0, hi0, hz0, hz1, hz2⟩ := infoBl
  have hrun := run_make (P := Tryz.prog) w 106 4 i0 (.bool false) Tryz.underlying106 hi0 hz0 .i64 .i64 (n : Int) (n : Int) (by omega) (Int.le_refl _) (by rw [hz2]; omega) (by omega)
  simp only [Int.toNat_natCast, hz1, Nat.mul_one] at hrun
  unfold Oper.wp
  simp [execOp, hop, hl, hc, hrun, Result.andThen]
  refine hK' _ _ (hK _ (size_madeCells _ _) fun k hk => ?_)
  simp [madeCells, hk, Value.cells, Nat.mod_one]
theorem wpList_make_words {ops : Array Oper} {rest : List Oper} {o : Oper} {a : Act} {Q : Exit → Act → World → Prop} {w : World} (hg : o.guard = none) (l c : Operand) (hop : o.op = Op.makeSlice 103 l c) (n : Nat) (hl : a.eval l = .int .i64 (n : Int)) (hc : a.eval c = .int .i64 (n : Int)) (hn : n ≤ 1000000)
    (hK : ∀ cs : Array Value, cs.size = n → (∀ k, k < n → cs[k]? = some (.int .u64 0)) → wpList Tryz.prog ops Q rest (a.put o.dst (.slice (some ⟨w.heap.size, 0, none⟩) n n)) (w.alloc (.cells cs 109))) : wpList Tryz.prog ops Q (o :: rest) a w := by
  refine wpList_plain hg fun K hK' => ?_
  obtain ⟨i0, hi0, hz0, hz1, hz2⟩ := infoU
  have hrun := run_make (P := Tryz.prog) w 103 109 i0 (.int .u64 0) Tryz.underlying103 hi0 hz0 .i64 .i64 (n : Int) (n : Int) (by omega) (Int.le_refl _) (by rw [hz2]; omega) (by omega)
  simp only [Int.toNat_natCast, hz1, Nat.mul_one] at hrun
  unfold Oper.wp
  simp [execOp, hop, hl, hc, hrun, Result.andThen]
  refine hK' _ _ (hK _ (size_madeCells _ _) fun k hk => ?_)
  simp [madeCells, hk, Value.cells, Nat.mod_one]
end Go.Proofs.YthfegbcbpeedbaaGreatDoor
namespace Go.Ky
open Go.Nm
structure LeastB (x t : Nat) : Prop where
  on : x.testBit t = true
  off : ∀ j, j < t → x.testBit j = false
theorem least_bit : ∀ x : Nat, 0 < x → ∃ t, LeastB x t := by
  intro x
  induction x using Nat.strongRecOn with
  | _ x ih =>
    intro h
    rcases Nat.mod_two_eq_zero_or_one x with h0 | h1
    · obtain ⟨t, ht⟩ := ih (x / 2) (by omega) (by omega)
      refine ⟨t + 1, by rw [Nat.testBit_succ]; exact ht.on, fun j hj => ?_⟩
      cases j with
      | zero => rw [Nat.testBit_zero, h0]; rfl
      | succ j => rw [Nat.testBit_succ]; exact ht.off j (by omega)
    · exact ⟨0, by rw [Nat.testBit_zero, h1]; rfl, fun j hj => by omega⟩
theorem LeastB.form {x t : Nat} (h : LeastB x t) : ∃ m, x = 2 ^ t * (2 * m + 1) := by
  have h0 : x % 2 ^ t = 0 := by
    apply Nat.eq_of_testBit_eq
    intro j
    rw [Nat.testBit_mod_two_pow, Nat.zero_testBit]
    by_cases hj : j < t
    · rw [h.off j hj]; simp
    · simp [hj]
  have h1 : x / 2 ^ t % 2 = 1 := by
    have := h.on
    rw [Nat.testBit_eq_decide_div_mod_eq] at this
    exact of_decide_eq_true this
  refine ⟨x / 2 ^ t / 2, ?_⟩
  have e : 2 * (x / 2 ^ t / 2) + 1 = x / 2 ^ t := by omega
  rw [e]
  have := Nat.div_add_mod x (2 ^ t)
  omega
theorem LeastB.pred {x t : Nat} (h : LeastB x t) (j : Nat) : (x - 1).testBit j = if j < t then true else if j = t then false else x.testBit j := by
  obtain ⟨m, hm⟩ := h.form
  have hp : 0 < 2 ^ t := Nat.two_pow_pos t
  have e : x - 1 = 2 ^ t * (2 * m) + (2 ^ t - 1) := by
    rw [hm, Nat.mul_add, Nat.mul_one]; omega
  rw [e, Nat.testBit_two_pow_mul_add _ (by omega)]
  by_cases hj : j < t
  · rw [if_pos hj, if_pos hj, Nat.testBit_two_pow_sub_one]; simp [hj]
  · rw [if_neg hj, if_neg hj]
    by_cases e2 : j = t
    · subst e2
      rw [if_pos rfl, Nat.sub_self, Nat.testBit_zero]; simp
    · rw [if_neg e2, hm]
      have e3 : 2 ^ t * (2 * m + 1) = 2 ^ t * (2 * m + 1) + 0 := rfl
      rw [e3, Nat.testBit_two_pow_mul_add _ hp, if_neg hj]
      obtain ⟨k, hk⟩ : ∃ k, j - t = k + 1 := ⟨j - t - 1, by omega⟩
      rw [hk, Nat.testBit_succ, Nat.testBit_succ, show 2 * m / 2 = (2 * m + 1) / 2 from by omega]
theorem LeastB.low {x t : Nat} (h : LeastB x t) (j : Nat) : (x &&& (x - 1)).testBit j = (x.testBit j && decide (j ≠ t)) := by
  rw [Nat.testBit_and, h.pred j]
  by_cases hj : j < t
  · rw [if_pos hj, h.off j hj]; rfl
  · rw [if_neg hj]
    by_cases e : j = t
    · subst e; simp
    · simp [e]
theorem LeastB.lt {x t n : Nat} (h : LeastB x t) (hx : x < 2 ^ n) : t < n := by
  by_cases ht : t < n
  · exact ht
  · exact absurd h.on (by rw [Nat.testBit_lt_two_pow (Nat.lt_of_lt_of_le hx (Nat.pow_le_pow_right (by omega) (by omega)))]; simp)
theorem LeastB.pos {x t : Nat} (h : LeastB x t) : 0 < x := by
  rcases Nat.eq_zero_or_pos x with e | e
  · subst e; have := h.on; simp at this
  · exact e
theorem LeastB.iso {x t : Nat} (h : LeastB x t) (hx : x < 18446744073709551616) : x &&& (18446744073709551616 - x) = 2 ^ t := by
  apply Nat.eq_of_testBit_eq
  intro j
  have hp := h.pos
  have hlt := h.lt (n := 64) hx
  have e : 18446744073709551616 - x = 2 ^ 64 - ((x - 1) + 1) := by omega
  rw [Nat.testBit_and, e, Nat.testBit_two_pow_sub_succ (by omega), h.pred j, Nat.testBit_two_pow]
  by_cases hj : j < t
  · rw [h.off j hj]; simp; omega
  · rw [if_neg hj]
    by_cases e : j = t
    · subst e; rw [h.on]; simp; omega
    · rw [if_neg e]
      have : decide (t = j) = false := decide_eq_false (fun h => e h.symm)
      rw [this]
      cases hb : x.testBit j <;> simp
theorem tab_pow : ∀ t : Fin 64, tab64.getD (2 ^ t.val * 285870213051353865 % 18446744073709551616 / 288230376151711744) 0 = t.val := by decide
theorem LeastB.tz {x t : Nat} (h : LeastB x t) (hx : x < 18446744073709551616) : tzN x = t := by
  unfold tzN
  rw [h.iso hx]
  exact tab_pow ⟨t, h.lt (n := 64) hx⟩
theorem and_pred {x : Nat} (h : 0 < x) : x &&& (x - 1) < x := Nat.lt_of_le_of_lt Nat.and_le_right (by omega)
/-- the numbers of the bits of a word -/
def bitsL (i : Nat) (x : Nat) : List Int :=
  if h : 0 < x then (((64 * i + tzN x : Nat)) : Int) :: bitsL i (x &&& (x - 1)) else []
termination_by x
decreasing_by exact and_pred h
theorem bits_zero (i : Nat) : bitsL i 0 = [] := by unfold bitsL; simp
theorem bits_next (i : Nat) {x : Nat} (h : 0 < x) : bitsL i x = (((64 * i + tzN x : Nat)) : Int) :: bitsL i (x &&& (x - 1)) := by
  rw [bitsL]; simp [h]
theorem bits_mem (i : Nat) : ∀ x : Nat, x < 18446744073709551616 → ∀ z : Int, z ∈ bitsL i x ↔ ∃ j : Nat, x.testBit j = true ∧ z = ((64 * i + j : Nat) : Int) := by
  intro x
  induction x using Nat.strongRecOn with
  | _ x ih =>
    intro hx z
    rcases Nat.eq_zero_or_pos x with e | e
    · subst e; rw [bits_zero]; simp
    · obtain ⟨t, ht⟩ := least_bit x e
      have hl := and_pred e
      rw [bits_next i e, List.mem_cons, ih _ hl (by omega), ht.tz hx]
      constructor
      · rintro (h | ⟨j, h1, h2⟩)
        · exact ⟨t, ht.on, h⟩
        · rw [ht.low] at h1
          exact ⟨j, by simp at h1; exact h1.1, h2⟩
      · rintro ⟨j, h1, h2⟩
        by_cases hj : j = t
        · subst hj; exact .inl h2
        · exact .inr ⟨j, by rw [ht.low, h1]; simp [hj], h2⟩
theorem bits_inc (i : Nat) : ∀ x : Nat, x < 18446744073709551616 → (bitsL i x).Pairwise (· < ·) := by
  intro x
  induction x using Nat.strongRecOn with
  | _ x ih =>
    intro hx
    rcases Nat.eq_zero_or_pos x with e | e
    · subst e; rw [bits_zero]; exact List.Pairwise.nil
    · obtain ⟨t, ht⟩ := least_bit x e
      have hl := and_pred e
      rw [bits_next i e]
      refine List.Pairwise.cons (fun z hz => ?_) (ih _ hl (by omega))
      rw [bits_mem i _ (by omega)] at hz
      obtain ⟨j, h1, rfl⟩ := hz
      rw [ht.tz hx]
      rw [ht.low] at h1
      simp at h1
      have : t ≤ j := by
        rcases Nat.lt_or_ge j t with h | h
        · rw [ht.off j h] at h1; simp at h1
        · exact h
      omega
/-- the numbers of the bits of the first words -/
def wordsL (f : Nat → Nat) : Nat → List Int
  | 0 => []
  | i + 1 => wordsL f i ++ bitsL i (f i)
theorem words_mem (f : Nat → Nat) (hf : ∀ i, f i < 18446744073709551616) (z : Int) : ∀ n, z ∈ wordsL f n ↔ ∃ i j : Nat, i < n ∧ (f i).testBit j = true ∧ z = ((64 * i + j : Nat) : Int)
  | 0 => by simp [wordsL]
  | n + 1 => by
    unfold wordsL
    rw [List.mem_append, words_mem f hf z n, bits_mem n _ (hf n)]
    constructor
    · rintro (⟨i, j, h1, h2, h3⟩ | ⟨j, h2, h3⟩)
      · exact ⟨i, j, by omega, h2, h3⟩
      · exact ⟨n, j, by omega, h2, h3⟩
    · rintro ⟨i, j, h1, h2, h3⟩
      by_cases e : i = n
      · subst e; exact .inr ⟨j, h2, h3⟩
      · exact .inl ⟨i, j, by omega, h2, h3⟩
theorem bit_lt {x j : Nat} (h : x.testBit j = true) (hx : x < 18446744073709551616) : j < 64 := by
  by_cases hj : j < 64
  · exact hj
  · exact absurd h (by rw [Nat.testBit_lt_two_pow (Nat.lt_of_lt_of_le (show x < 2 ^ 64 from hx) (Nat.pow_le_pow_right (by omega) (by omega)))]; simp)
theorem words_inc (f : Nat → Nat) (hf : ∀ i, f i < 18446744073709551616) : ∀ n, (wordsL f n).Pairwise (· < ·)
  | 0 => List.Pairwise.nil
  | n + 1 => by
    unfold wordsL
    rw [List.pairwise_append]
    refine ⟨words_inc f hf n, bits_inc n _ (hf n), fun a ha b hb => ?_⟩
    rw [words_mem f hf] at ha
    rw [bits_mem n _ (hf n)] at hb
    obtain ⟨i, j, h1, h2, rfl⟩ := ha
    obtain ⟨k, h3, rfl⟩ := hb
    have := bit_lt h2 (hf i)
    omega
end Go.Ky
namespace Go.Ky
open Go.Nm
open Go.Proofs.YthfegbcbpeedbaaGreatDoor (updP)
/-- the words that hold a set of numbers -/
def SetW (F : Nat → Nat) (S : Int → Prop) : Prop := (∀ k, F k < 18446744073709551616) ∧ ∀ a b : Nat, (F a).testBit b = true ↔ b < 64 ∧ S ((64 * a + b : Nat) : Int)
theorem SetW.put {F : Nat → Nat} {S : Int → Prop} (h : SetW F S) (n : Nat) : SetW (updP F (n / 64) (F (n / 64) ||| 2 ^ (n % 64))) (fun z => S z ∨ z = (n : Int)) := by
  have hp : 2 ^ (n % 64) < 18446744073709551616 := Nat.pow_lt_pow_right (a := 2) (n := 64) (by omega) (by omega)
  refine ⟨fun k => ?_, fun a b => ?_⟩
  · unfold updP
    split
    · exact Nat.or_lt_two_pow (n := 64) (h.1 _) hp
    · exact h.1 k
  · unfold updP
    split
    · rename_i e
      subst e
      rw [Nat.testBit_or, Bool.or_eq_true, h.2, Nat.testBit_two_pow, decide_eq_true_eq]
      constructor
      · rintro (⟨h1, h2⟩ | h1)
        · exact ⟨h1, .inl h2⟩
        · exact ⟨by omega, .inr (by omega)⟩
      · rintro ⟨h1, h2 | h2⟩
        · exact .inl ⟨h1, h2⟩
        · exact .inr (by omega)
    · rename_i e
      rw [h.2]
      constructor
      · rintro ⟨h1, h2⟩; exact ⟨h1, .inl h2⟩
      · rintro ⟨h1, h2 | h2⟩
        · exact ⟨h1, h2⟩
        · omega
theorem SetW.as {F : Nat → Nat} {S T : Int → Prop} (h : SetW F S) (e : ∀ z, S z ↔ T z) : SetW F T := ⟨h.1, fun a b => by rw [h.2, e]⟩
theorem SetW.start : SetW (fun _ => 0) (fun _ => False) := ⟨fun _ => Nat.zero_lt_of_lt (show 0 < 18446744073709551616 by omega), fun a b => by simp⟩
theorem inc_len : ∀ (L : List Int) (a : Int) (m : Nat), Inc L → (∀ z ∈ L, a ≤ z ∧ z < a + m) → L.length ≤ m
  | [], _, _, _, _ => Nat.zero_le _
  | x :: L, a, m, hi, h => by
    have hx := h x (by simp)
    have ih := inc_len L (x + 1) (a + m - x - 1).toNat (List.pairwise_cons.1 hi).2 fun z hz => by
      have h1 := (List.pairwise_cons.1 hi).1 z hz
      have h2 := h z (by simp [hz])
      omega
    rw [List.length_cons]
    omega
theorem words_len {F : Nat → Nat} (hF : ∀ k, F k < 18446744073709551616) (n : Nat) : (wordsL F n).length ≤ 64 * n := inc_len _ 0 _ (words_inc F hF n) fun z hz => by
  obtain ⟨i, j, h1, h2, rfl⟩ := (words_mem F hF z n).1 hz
  have := bit_lt h2 (hF i)
  omega
theorem words_all {F : Nat → Nat} {S : Int → Prop} {R : List Int} (h : SetW F S) (hR : Inc R) (hm : ∀ z, z ∈ R ↔ S z) (hs : ∀ z, S z → 0 ≤ z ∧ z < 65536) : wordsL F 1024 = R :=
  inc_ext (words_inc F h.1 1024) hR fun z => by
    rw [words_mem F h.1, hm]
    constructor
    · rintro ⟨i, j, h1, h2, rfl⟩
      exact ((h.2 i j).1 h2).2
    · intro hz
      have := hs z hz
      refine ⟨z.toNat / 64, z.toNat % 64, by omega, (h.2 _ _).2 ⟨by omega, ?_⟩, by omega⟩
      have e : ((64 * (z.toNat / 64) + z.toNat % 64 : Nat) : Int) = z := by omega
      rw [e]; exact hz
theorem take_ex {α : Type} {L : List α} {i : Nat} {x : α} (h : L[i]? = some x) (P : α → Prop) : (∃ y ∈ L.take (i + 1), P y) ↔ (∃ y ∈ L.take i, P y) ∨ P x := by
  rw [show L.take (i + 1) = L.take i ++ [x] from by rw [List.take_add_one, h]; rfl]
  constructor
  · rintro ⟨y, hy, hp⟩
    rcases List.mem_append.1 hy with h | h
    · exact .inl ⟨y, h, hp⟩
    · rw [List.mem_singleton] at h; subst h; exact .inr hp
  · rintro (⟨y, hy, hp⟩ | hp)
    · exact ⟨y, List.mem_append_left _ hy, hp⟩
    · exact ⟨x, by simp, hp⟩
end Go.Ky
namespace Go.Proofs.YthfegbcbpeedbaaGreatDoor
open Go.RowKit Go.Nm Go.Ky

theorem or_u64 {x y : Nat} (hx : x < 18446744073709551616) (hy : y < 18446744073709551616) : bits BinOp.or IntKind.u64 (x : Int) (y : Int) = ((x ||| y : Nat) : Int) := by
  have h : (BitVec.ofInt 64 (x : Int) ||| BitVec.ofInt 64 (y : Int)).toNat = x ||| y := by rw [BitVec.toNat_or, ofInt_nat hx, ofInt_nat hy]
  show IntKind.u64.wrap ((BitVec.ofInt 64 (x : Int) ||| BitVec.ofInt 64 (y : Int)).toNat : Int) = _
  rw [h]
  exact wrap_u64 (Nat.or_lt_two_pow (n := 64) hx hy)
theorem infoW0 : (Tryz.prog.info? 110).map (fun i => (i.zero, i.size)) = some (some (.agg (Array.replicate 1024 (.int .u64 0))), 1024) := by kernel_rfl
theorem infoU1 : (Tryz.prog.info? 109).map (fun i => (i.zero, i.size)) = some (some (.int .u64 0), 1) := by kernel_rfl
section
variable {ops : Array Oper} {rest : List Oper} {o : Oper} {a : Act} {Q : Exit → Act → World → Prop} {w : World}
theorem wpList_alloc_words (hg : o.guard = none) (hop : o.op = Op.alloc 110)
    (hK : ∀ cs : Array Value, cs.size = 1024 → (∀ k, k < 1024 → cs[k]? = some (.int .u64 0)) → wpList Tryz.prog ops Q rest (a.put o.dst (.pointer (some ⟨w.heap.size, 0, none⟩))) (w.alloc (.cells cs 110))) : wpList Tryz.prog ops Q (o :: rest) a w := by
  refine wpList_plain hg fun K hK' => ?_
  have hz := (zero_of_info infoW0).1 w
  unfold Oper.wp
  simp only [execOp, hop, Instr.alloc, Sem.run_bind, hz, Result.andThen]
  have h2 := hK' _ _ (hK (Array.replicate 1024 (.int .u64 0)) (by simp) fun k hk => by simp [hk])
  simp [newVar, newRow, Value.cells, Result.andThen]
  exact h2
theorem wpList_load_words {g : Nat} {cs : Array Value} (hg : o.guard = none) (p : Operand) (hop : o.op = Op.load 110 p) (hp : a.eval p = .pointer (some ⟨g, 0, none⟩)) (hb : w.heap[g]? = some (.cells cs 110)) (hs : cs.size = 1024)
    (hK : wpList Tryz.prog ops Q rest (a.put o.dst (.agg cs)) w) : wpList Tryz.prog ops Q (o :: rest) a w := by
  refine wpList_plain hg fun K hK' => ?_
  have hl := run_loadVar_row (P := Tryz.prog) w g _ 110 cs _ _ hb Tryz.underlying110 rfl (by rw [hs]; exact (zero_of_info infoW0).2)
  unfold Oper.wp
  simp only [execOp, hop, hp, Instr.loadAt, Instr.sureAddr, Sem.run_bind, Sem.run_pure, Result.andThen, hl]
  exact hK' _ _ hK
end
set_option maxRecDepth 100000 in
set_option maxHeartbeats 4000000 in
theorem Tz64w_any (x : Nat) (w : World) (hT : TabH w) (h0 : 0 < x) (hx : x < 18446744073709551616) :
    Calls Tryz.prog 70 #[.int .u64 (x : Int)] w fun e w' => e = .returned (.int .i64 ((tzN x : Nat) : Int)) ∧ w = w' := by
  obtain ⟨n1, hn1⟩ : ∃ n1, 18446744073709551616 - x = n1 := ⟨_, rfl⟩
  have h1 : IntKind.u64.wrap (-(x : Int)) = (n1 : Int) := by
    unfold IntKind.wrap IntKind.signed IntKind.bits
    simp only [Bool.false_and, Bool.false_eq_true, if_false]
    omega
  obtain ⟨n2, hn2⟩ : ∃ n2, x &&& n1 = n2 := ⟨_, rfl⟩
  have h2 : bits BinOp.and IntKind.u64 (x : Int) (n1 : Int) = (n2 : Int) := by rw [and_u64 (by omega) (by omega), hn2]
  obtain ⟨n3, hn3⟩ : ∃ n3, n2 * 285870213051353865 % 18446744073709551616 = n3 := ⟨_, rfl⟩
  have h3 : IntKind.u64.wrap ((n2 : Int) * 285870213051353865) = (n3 : Int) := by
    unfold IntKind.wrap IntKind.signed IntKind.bits
    simp only [Bool.false_and, Bool.false_eq_true, if_false]
    omega
  obtain ⟨n4, hn4⟩ : ∃ n4, n3 / 288230376151711744 = n4 := ⟨_, rfl⟩
  have h4 : (n3 : Int) / 2 ^ 58 = (n4 : Int) := by omega
  have h4b : (n3 : Int) / 288230376151711744 = (n4 : Int) := by omega
  have hlt : n4 < 64 := by omega
  have hc := hT n4 hlt
  have hz := tab_lt n4
  obtain ⟨t, ht⟩ : ∃ t, tab64.getD n4 0 = t := ⟨_, rfl⟩
  rw [ht] at hc hz
  have HR := Lib.hid (show tzN x = t from by unfold tzN; rw [hn1, hn2, hn3, hn4, ht])
  have hx0 : ((x : Int) == 0) = false := by simp; omega
  obtain ⟨r, hr⟩ : ∃ r, tzN x = r := ⟨_, rfl⟩
  rw [hr] at HR ⊢
  clear hT hn1 hn2 hn3 hn4 ht hr
  go_enter Tryz.func70, Tryz.ntmps70
  go_wp2_with fail
  go_ret
  exact ⟨by rw [HR.out]; rfl, rfl⟩
theorem index_words {w : World} {cs : Array Value} {k : Nat} {v : Value} (hk : k < 1024) (hc : cs[k]? = some v) : (Instr.index 110 (.agg cs) (.int .i64 (k : Int))).run Tryz.prog w = .ok v w := by
  have hkI : (k : Int) < 1024 := by omega
  have hk0 : (0 : Int) ≤ (k : Int) := by omega
  have hsz := (zero_of_info infoU1).2
  unfold Instr.index
  go_simp
theorem IwG.putU {t : TypeId} {W X : World} {gw n : Nat} {f : Nat → Nat} (h : IwG t W gw n (fun k => .int .u64 (f k : Nat)) X) (k z : Nat) : IwG t W gw n (fun j => .int .u64 (updP f k z j : Nat)) (X.setCell ⟨gw, k, none⟩ (.int .u64 (z : Int))) := by
  have h2 := IwG.set h k (.int .u64 (z : Int))
  have e : updP (fun k => Value.int .u64 (f k : Nat)) k (.int .u64 (z : Int)) = fun j => Value.int .u64 (updP f k z j : Nat) := by
    funext j
    unfold updP
    split <;> rfl
  rw [e] at h2
  exact h2
set_option maxRecDepth 100000 in
set_option maxHeartbeats 8000000 in
theorem union_any (u : Value) (LL : List (List Int)) (R : List Int) (w : World) (hu : VsSl w w.heap.size u LL) (hn : LL.length ≤ 1000000) (hl : ∀ L ∈ LL, L.length ≤ 1000000) (hz : ∀ L ∈ LL, ∀ z ∈ L, 1 ≤ z ∧ z ≤ 65535) (hR : Inc R) (hm : ∀ z, z ∈ R ↔ ∃ L ∈ LL, z ∈ L) (hT : TabH w) :
    Calls Tryz.prog 35 #[u] w fun e w' => (∃ r, e = .returned r ∧ Fr w.heap.size w' r R) ∧ Below w.heap.size w w' := by
  have HU := Lib.hid hu
  obtain ⟨A, c, rfl⟩ := hu.form
  obtain ⟨n, h⟩ : ∃ n, LL.length = n := ⟨_, rfl⟩
  have HN := Lib.hid h
  rw [h] at HU hn ⊢
  have HL := Lib.hid (And.intro hl hz)
  have HM := Lib.hid (And.intro hR hm)
  have HT := Lib.hid hT
  obtain ⟨gw, hgw⟩ : ∃ gw, w.heap.size = gw := ⟨_, rfl⟩
  have HGw := Lib.hid hgw
  clear hu h hl hz hR hm hT
  go_enter Tryz.func35, Tryz.ntmps35
  go_wp2_with (refine wpList_alloc_words rfl rfl ?_; intro cs hcs1 hcs2; have HI0 := Lib.hid (IwG.start (t := 110) (W := w) hcs1 hcs2); clear hcs1 hcs2)
  obtain ⟨W1, hW1⟩ : ∃ W1, w.alloc (.cells cs 110) = W1 := ⟨_, rfl⟩
  rw [hW1] at HI0 ⊢
  rw [hgw] at HI0
  (try rw [hgw])
  clear hgw hW1
  go_loopw [13] (fun iv wr => ∃ (i : Nat) (F : Nat → Nat), iv = .int .i64 (i : Int) ∧ i ≤ n ∧ IwG 110 w gw 1024 (fun k => .int .u64 (F k : Nat)) wr ∧ SetW F (fun z => ∃ L ∈ LL.take i, z ∈ L)) (fun iv _ => n - (intOf iv).toNat)
  case atStart => exact ⟨0, fun _ => 0, rfl, by omega, HI0.out, SetW.start.as (by simp)⟩
  case round =>
    obtain ⟨i, F, rfl, hin, hI, hS⟩ := hrel
    have HI := Lib.hid hI
    have HS := Lib.hid hS
    clear hI hS
    by_cases hlt : i < n
    · obtain ⟨ad, ul, L, rfl, _, hLi, hcw, hLw⟩ := HU.out.at_ hlt
      obtain ⟨Al, cl, rfl, _⟩ := hLw.form
      obtain ⟨q, hq⟩ : ∃ q, L.length = q := ⟨_, rfl⟩
      have HQ := Lib.hid hq
      have HLi := Lib.hid hLi
      have HLw := Lib.hid hLw
      have HLm := Lib.hid (List.mem_of_getElem? hLi)
      have hqn : q ≤ 1000000 := by rw [← hq]; exact HL.out.1 L HLm.out
      rw [hq] at HLw hcw
      have hcx := (HI.out.bel.cell (World.block_lt_of_cell? _ _ hcw)).trans hcw
      clear hq hLi hLw hcw
      go_wp2_with fail
      go_loopw [19] (fun jv wq => ∃ (j : Nat) (G : Nat → Nat), jv = .int .i64 (j : Int) ∧ j ≤ q ∧ IwG 110 w gw 1024 (fun k => .int .u64 (G k : Nat)) wq ∧ SetW G (fun z => (∃ M ∈ LL.take i, z ∈ M) ∨ z ∈ L.take j)) (fun jv _ => q - (intOf jv).toNat)
      case atStart => exact ⟨0, F, rfl, by omega, HI.out, HS.out.as (by simp)⟩
      case round =>
        obtain ⟨j, G, rfl, hjq, hJ, hG⟩ := hrel
        have HJ := Lib.hid hJ
        have HG := Lib.hid hG
        clear hJ hG
        by_cases hlt2 : j < q
        · obtain ⟨x, ad2, hx, rfl, _, hcz⟩ := (show InA wr wr.heap.size Al L from by obtain ⟨_, _, e, _, _, h⟩ := HLw.out.step HJ.out.bel; cases e; exact h).at_ HQ.out hlt2
          have hxr := HL.out.2 L HLm.out x (List.mem_of_getElem? hx)
          obtain ⟨z, rfl⟩ : ∃ z : Nat, x = (z : Int) := ⟨x.toNat, by omega⟩
          have hmx := Lib.hid hx
          have HId := Lib.hid (HJ.out.step (Below.refl _ _).drew)
          obtain ⟨d, hd⟩ : ∃ d, z / 64 = d := ⟨_, rfl⟩
          obtain ⟨r, hr⟩ : ∃ r, z % 64 = r := ⟨_, rfl⟩
          have hd1 : d < 1024 := by omega
          have hr1 : r < 64 := by omega
          have ht1 : (z : Int).tdiv 64 = (d : Int) := by rw [Int.tdiv_eq_ediv_of_nonneg (by omega)]; omega
          have ht2 : (z : Int).tmod 64 = (r : Int) := by rw [Int.tmod_eq_emod_of_nonneg (by omega)]; omega
          have hwd : IntKind.i64.wrap (d : Int) = (d : Int) := by rw [IntKind.wrap_i64]; omega
          have hwr : IntKind.i64.wrap (r : Int) = (r : Int) := by rw [IntKind.wrap_i64]; omega
          have hdI : (d : Int) < 1024 := by omega
          have hrI : (r : Int) < 64 := by omega
          have hd0 : (0 : Int) ≤ (d : Int) := by omega
          have hr0 : (0 : Int) ≤ (r : Int) := by omega
          obtain ⟨y, hy⟩ : ∃ y, G d = y := ⟨_, rfl⟩
          have hco := HId.out.cell hd1
          have hfz := HId.out.froz d
          have HY := Lib.hid (show y < 18446744073709551616 from by rw [← hy]; exact HG.out.1 d)
          simp only [hy] at hco
          obtain ⟨p, hp⟩ : ∃ p, 2 ^ r = p := ⟨_, rfl⟩
          have hp64 : p < 18446744073709551616 := by rw [← hp]; exact Nat.pow_lt_pow_right (a := 2) (n := 64) (by omega) hr1
          have hpI : (2 : Int) ^ r = (p : Int) := by rw [← hp]; simp
          have hwp : IntKind.u64.wrap (p : Int) = (p : Int) := wrap_u64 hp64
          obtain ⟨s, hs⟩ : ∃ s, y ||| p = s := ⟨_, rfl⟩
          have hor : bits BinOp.or IntKind.u64 (y : Int) (p : Int) = (s : Int) := by rw [← hs]; exact or_u64 HY.out hp64
          have HE := Lib.hid (And.intro hd (And.intro hr (And.intro hy (And.intro hp hs))))
          clear hx hd hr hy hp hs
          go_wp2_with fail
          refine wp_region_tail 9 (by kernel_rfl) (by kernel_rfl) ?_
          simp only [List.take_succ_cons, List.take_zero, List.drop_succ_cons, List.drop_zero]
          iterate 9 ((with_reducible refine wpStill_step ?_); intro K hK; go_simp; (try (refine ite_neg_of (by simp [undef] <;> assumption) ?_)); (with_reducible refine hK _ ?_); clear hK K)
          (with_reducible refine wpStill_nil ?_)
          have HPt := Lib.hid (show SetW (updP G d s) (fun t => (∃ M ∈ LL.take i, t ∈ M) ∨ t ∈ L.take (j + 1)) from by
            obtain ⟨e1, e2, e3, e4, e5⟩ := HE.out
            have h := HG.out.put z
            rw [e1, e2, e3, e4, e5] at h
            exact h.as fun t => by
              rw [show L.take (j + 1) = L.take j ++ [(z : Int)] from by rw [List.take_add_one, hmx.out]; rfl, List.mem_append, List.mem_singleton, or_assoc])
          go_wp2_with fail
          go_roundw
          case rel => exact ⟨j + 1, updP G d s, by go_num, by omega, HId.out.putU d s, HPt.out⟩
          case measure => simp [intOf]; omega
        · have HS2 := Lib.hid (show SetW G (fun z => ∃ M ∈ LL.take (i + 1), z ∈ M) from HG.out.as fun z => by
            rw [take_ex HLi.out, List.take_of_length_le (l := L) (by have := HQ.out; omega)])
          go_wp2_with fail
          go_roundw
          case rel => exact ⟨i + 1, G, by go_num, by omega, HJ.out, HS2.out⟩
          case measure => simp [intOf]; omega
    · obtain rfl : n = i := by omega
      have HW := Lib.hid (words_all (S := fun z => ∃ M ∈ LL, z ∈ M) (HS.out.as fun z => by rw [List.take_of_length_le (by have := HN.out; omega)]) HM.out.1 HM.out.2 (fun z ⟨M, hM, hz⟩ => by have := HL.out.2 M hM z hz; omega))
      have HB := Lib.hid HI.out.bel
      have HTw := Lib.hid (HT.out.step HI.out.bel)
      obtain ⟨cs2, hc1, hc2, hc3⟩ := HI.out.cs
      have HC := Lib.hid (And.intro hc1 (And.intro hc2 hc3))
      clear hc1 hc2 hc3
      obtain ⟨V, rfl⟩ : ∃ z, z = wr := ⟨_, rfl⟩
      have hsz := HC.out.2.1
      go_wp2_with (refine wpList_load_words rfl _ rfl rfl HC.out.1 HC.out.2.1 ?_)
      go_loopw [8, 35] (fun ov iv wr => ∃ (k : Nat) (Ap : Option Addr) (np cp : Nat), iv = .int .i64 (k : Int) ∧ ov = .slice Ap np cp ∧ k ≤ 1024 ∧ OwN V (.slice Ap np cp) (wordsL F k) wr) (fun _ iv _ => 1024 - (intOf iv).toNat)
      case atStart => exact ⟨0, none, 0, 0, rfl, rfl, by omega, OwN.start V⟩
      case round =>
        obtain ⟨k, Ap, np, cp, rfl, rfl, hk, hO⟩ := hrel
        have HO := Lib.hid hO
        clear hO
        by_cases hlt3 : k < 1024
        · have hci := HC.out.2.2 k hlt3
          obtain ⟨x0, hx0⟩ : ∃ x, F k = x := ⟨_, rfl⟩
          have HX0 := Lib.hid (And.intro hx0 (show x0 < 18446744073709551616 from by rw [← hx0]; exact HS.out.1 k))
          simp only [hx0] at hci
          have hkI : (k : Int) < 1024 := by omega
          have hk0 : (0 : Int) ≤ (k : Int) := by omega
          clear hx0
          have hidx := index_words (w := wr) hlt3 hci
          have HC3 := Lib.hid hci
          clear hci
          go_wp2_with fail
          go_loopw [8, 10] (fun ov xv wq => ∃ (x : Nat) (pre : List Int) (Aq : Option Addr) (nq cq : Nat), xv = .int .u64 (x : Int) ∧ ov = .slice Aq nq cq ∧ OwN V (.slice Aq nq cq) pre wq ∧ pre ++ bitsL k x = wordsL F (k + 1) ∧ x < 18446744073709551616) (fun _ xv _ => (intOf xv).toNat)
          case atStart => exact ⟨x0, wordsL F k, _, _, _, rfl, rfl, HO.out, by show _ = wordsL F k ++ bitsL k (F k); rw [HX0.out.1], HX0.out.2⟩
          case round =>
            obtain ⟨x, pre, Aq, nq, cq, rfl, rfl, hO2, hpre, hx64⟩ := hrel
            have HO2 := Lib.hid hO2
            have HPr := Lib.hid hpre
            clear hO2 hpre
            by_cases hx : x = 0
            · subst hx
              go_wp2_with fail
              go_roundw
              case rel => exact ⟨k + 1, _, _, _, by go_num, rfl, by omega, by rw [← HPr.out, bits_zero, List.append_nil]; exact HO2.out⟩
              case measure => simp [intOf]; omega
            · have hxI : ¬ (x : Int) = 0 := by omega
              have hxb : ((x : Int) == 0) = false := by simp; omega
              have hxc : ((x : Int) != 0) = true := by simp; omega
              obtain ⟨y, hy⟩ : ∃ y, x - 1 = y := ⟨_, rfl⟩
              have hwy : IntKind.u64.wrap ((x : Int) - 1) = (y : Int) := by
                rw [show (x : Int) - 1 = (y : Int) from by omega]
                exact wrap_u64 (by omega)
              obtain ⟨v, hv⟩ : ∃ v, x &&& y = v := ⟨_, rfl⟩
              have hand : bits BinOp.and IntKind.u64 (x : Int) (y : Int) = (v : Int) := by rw [← hv]; exact and_u64 hx64 (by omega)
              have hvx : v < x := by rw [← hv, ← hy]; exact and_pred (by omega)
              obtain ⟨t, ht⟩ : ∃ t, tzN x = t := ⟨_, rfl⟩
              have ht64 : t < 64 := by
                obtain ⟨b, hb⟩ := least_bit x (by omega)
                have h1 := hb.tz hx64
                have h2 := hb.lt (n := 64) hx64
                omega
              obtain ⟨M, hM⟩ : ∃ M, 64 * k + t = M := ⟨_, rfl⟩
              obtain ⟨a6, ha6⟩ : ∃ a, 64 * k = a := ⟨_, rfl⟩
              have hwm : IntKind.i64.wrap (64 * (k : Int)) = (a6 : Int) := by rw [IntKind.wrap_i64]; omega
              have hwa : IntKind.i64.wrap ((a6 : Int) + (t : Int)) = (M : Int) := by rw [IntKind.wrap_i64]; omega
              have HBt := Lib.hid (show pre ++ [(M : Int)] ++ bitsL k v = wordsL F (k + 1) from by
                rw [← HPr.out, bits_next k (show 0 < x by omega), ht, hM, hy, hv, List.append_assoc]; rfl)
              have HPl := Lib.hid (show pre.length ≤ 65536 from by
                have h1 := words_len HS.out.1 (k + 1)
                rw [← HPr.out, List.length_append] at h1
                omega)
              have HTz := Lib.hid (Tz64w_any x wr (HTw.out.step HO2.out.bel) (by omega) hx64)
              rw [ht] at HTz
              have HVx := Lib.hid (And.intro hvx hx64)
              have HX64 := Lib.hid hx64
              clear hy hv ht hM hvx ha6 hx ht64 hx64
              go_wp2_with fail
              (with_reducible refine HTz.out.mono ?_)
              rintro e w2 ⟨rfl, rfl⟩
              have HOz := Lib.hid HO2.out
              go_wp2_with (at_builtin; refine wpList_appN rfl _ _ rfl (HOz.out.step (below_new _)) rfl rfl (one_sl _ _) (by have := HPl.out; simp; omega) ?_; intro v6 w6 hO6 hg6; obtain ⟨A6, c6, rfl, _⟩ := hO6.sl.form; have HO6 := Lib.hid hO6; clear hO6 hg6)
              go_roundw
              case rel => exact ⟨v, pre ++ [(M : Int)], _, _, _, rfl, rfl, by first | exact HO6.out | (have h := HO6.out; rw [List.length_append, List.length_singleton] at h; exact h), HBt.out, by have := HVx.out; omega⟩
              case measure => have := HVx.out.1; simp [intOf]; omega
        · obtain rfl : k = 1024 := by omega
          have HOf := Lib.hid HO.out.fr
          go_wp2_with fail
          go_ret
          exact ⟨⟨_, rfl, by rw [← HW.out]; exact HOf.out.low HB.out.size⟩, HB.out.trans (HO.out.bel.mono HB.out.size)⟩
end Go.Proofs.YthfegbcbpeedbaaGreatDoor
