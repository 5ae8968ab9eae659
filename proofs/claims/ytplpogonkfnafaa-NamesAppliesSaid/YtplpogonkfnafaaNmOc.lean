/- Rows of bools. -/
import Derived.Test.YtplpogonkfnafaaNmOa
import Derived.Test.YtplpogonkfnafaaNmTv
namespace Go.Proofs.Ytplpogonkfnafaa
open Go.RowKit Go.Nm

theorem infoB : ∃ i, Try.prog.info? 4 = some i ∧ i.zero = some (.bool false) ∧ i.size = 1 ∧ i.bytes = 1 := by
  have h : (Try.prog.info? 4).map (fun i => (i.zero, i.size, i.bytes)) = some (some (.bool false), 1, 1) := by kernel_rfl
  cases h2 : Try.prog.info? 4 with
  | none => rw [h2] at h; cases h
  | some i =>
    rw [h2] at h
    simp only [Option.map_some, Option.some.injEq, Prod.mk.injEq] at h
    exact ⟨i, rfl, h.1, h.2.1, h.2.2⟩
theorem wpList_make_bools {ops : Array Oper} {rest : List Oper} {o : Oper} {a : Act} {Q : Exit → Act → World → Prop} {w : World} (hg : o.guard = none) (l c : Operand) (hop : o.op = Op.makeSlice 63 l c) (n : Nat) (hl : a.eval l = .int .i64 (n : Int)) (hc : a.eval c = .int .i64 (n : Int)) (hn : n ≤ 100000)
    (hK : ∀ cs : Array Value, cs.size = n → (∀ k, k < n → cs[k]? = some (.bool false)) → wpList Try.prog ops Q rest (a.put o.dst (.slice (some ⟨w.heap.size, 0, none⟩) n n)) (w.alloc (.cells cs 4))) : wpList Try.prog ops Q (o :: rest) a w := by
  refine wpList_plain hg fun K hK' => ?_
  obtain ⟨i0, hi0, hz0, hz1, hz2⟩ := infoB
  have hrun := run_make (P := Try.prog) w 63 4 i0 (.bool false) Try.underlying63 hi0 hz0 .i64 .i64 (n : Int) (n : Int) (by omega) (Int.le_refl _) (by rw [hz2]; omega) (by omega)
  simp only [Int.toNat_natCast, hz1, Nat.mul_one] at hrun
  unfold Oper.wp
  simp [execOp, hop, hl, hc, hrun, Result.andThen]
  refine hK' _ _ (hK _ (size_madeCells _ _) fun k hk => ?_)
  simp [madeCells, hk, Value.cells, Nat.mod_one]
/-- a row of bools of the call's own -/
structure WaI (W : World) (gw : Nat) (S : Nat → Bool) (X : World) : Prop where
  bel : Below W.heap.size W X
  cs : ∃ cs : Array Value, X.heap[gw]? = some (.cells cs 4) ∧ cs.size = 65536 ∧ ∀ k, k < 65536 → cs[k]? = some (.bool (S k))
  base : W.heap.size ≤ gw
section
variable {W X Y : World} {gw : Nat} {S : Nat → Bool}
theorem WaI.step (h : WaI W gw S X) (hb : Below X.heap.size X Y) : WaI W gw S Y := by
  obtain ⟨cs, h1, h2⟩ := h.cs
  exact ⟨h.bel.trans (hb.mono h.bel.size), ⟨cs, (hb.block _ (Array.getElem?_eq_some_iff.1 h1).1).trans h1, h2⟩, h.base⟩
theorem WaI.start {W : World} {cs : Array Value} (h1 : cs.size = 65536) (h2 : ∀ k, k < 65536 → cs[k]? = some (.bool false)) : WaI W W.heap.size (fun _ => false) (W.alloc (.cells cs 4)) :=
  ⟨below_new _, ⟨cs, World.alloc_heap_new W _, h1, h2⟩, Nat.le_refl _⟩
theorem WaI.cell (h : WaI W gw S X) {k : Nat} (hk : k < 65536) : X.cell? ((⟨gw, 0, none⟩ : Addr).add k) = some (.bool (S k)) := by
  obtain ⟨cs, h1, h2, h3⟩ := h.cs
  rw [add_zero_k]
  simp only [World.cell?, h1]
  exact h3 k hk
theorem WaI.froz (h : WaI W gw S X) (k : Nat) : X.frozen? ((⟨gw, 0, none⟩ : Addr).add k) = false := by
  obtain ⟨cs, h1, h2, h3⟩ := h.cs
  rw [add_zero_k]
  exact frozen_cells h1 k
theorem WaI.set (h : WaI W gw S X) (k : Nat) (hk : k < 65536) : WaI W gw (fun j => S j || decide (j = k)) (X.setCell ((⟨gw, 0, none⟩ : Addr).add k) (.bool true)) := by
  obtain ⟨cs, h1, h2, h3⟩ := h.cs
  rw [add_zero_k]
  refine ⟨h.bel.setCell h.base _, ⟨cs.setIfInBounds k (.bool true), heap_setCell_same X gw k _ _ _ h1, by simp [h2], fun j hj => ?_⟩, h.base⟩
  by_cases e : j = k
  · subst e
    rw [Array.getElem?_setIfInBounds_self_of_lt (by omega)]
    simp
  · rw [Array.getElem?_setIfInBounds_ne (by omega), h3 j hj]
    simp [e]
end
theorem range_next (S : Nat → Bool) (i : Nat) : ((List.range (i + 1)).filter S).length = ((List.range i).filter S).length + (if S i then 1 else 0) := by
  rw [List.range_succ, List.filter_append, List.length_append]
  cases h : S i <;> simp [h]
theorem want_end {y : Ch} {m n : List Int} (hD : ApD y m n) {S : Nat → Bool} (hS : ∀ k : Nat, S k = true ↔ (((k : Int) ∈ m ∧ (k : Int) ∉ y.fr) ∨ ((k : Int) ∈ y.to ∧ ∃ q ∈ m, q ∈ y.fr))) : ((List.range 65536).filter S).length = n.length ∧ ∀ k : Nat, (k : Int) ∈ n → S k = true := by
  have h : ∀ k : Nat, S k = decide ((k : Int) ∈ n) := fun k => by
    rw [Bool.eq_iff_iff, hS k, decide_eq_true_iff, hD.mem]
  refine ⟨?_, fun k hk => by rw [h k]; simpa using hk⟩
  have e : (List.range 65536).filter S = (List.range 65536).filter (fun k : Nat => decide ((k : Int) ∈ n)) := List.filter_congr fun k _ => h k
  rw [e]
  exact count_inc hD.inc hD.wn
/-- how many of the first ones are true -/
def cntB (S : Nat → Bool) (i : Nat) : Nat := ((List.range i).filter S).length
theorem cntB_zero (S : Nat → Bool) : cntB S 0 = 0 := rfl
theorem cntB_next (S : Nat → Bool) (i : Nat) : cntB S (i + 1) = cntB S i + (if S i then 1 else 0) := range_next S i
theorem cntB_le (S : Nat → Bool) : ∀ i, cntB S i ≤ i
  | 0 => Nat.le_refl _
  | i + 1 => by rw [cntB_next]; have := cntB_le S i; split <;> omega
/-- what is wanted behind the first i names -/
def WtP (m fr to : List Int) (i : Nat) (S : Nat → Bool) : Prop := ∀ k : Nat, S k = true ↔ (((k : Int) ∈ m.take i ∧ (k : Int) ∉ fr) ∨ ((k : Int) ∈ to ∧ ∃ q ∈ m.take i, q ∈ fr))
def StP (S : Nat → Bool) (to : List Int) (k : Nat) (S2 : Nat → Bool) : Prop := ∀ j : Nat, S2 j = (S j || decide ((j : Int) ∈ to.take k))
theorem WtP.zero (m fr to : List Int) : WtP m fr to 0 (fun _ => false) := fun k => by simp
theorem take_snoc {L : List Int} {i : Nat} {x : Int} (h : L[i]? = some x) : L.take (i + 1) = L.take i ++ [x] := by rw [List.take_add_one, h]; rfl
theorem WtP.keep {m fr to : List Int} {i x : Nat} {S : Nat → Bool} (h : WtP m fr to i S) (hx : m[i]? = some (x : Int)) (hf : (x : Int) ∉ fr) : WtP m fr to (i + 1) (fun j => S j || decide (j = x)) := fun k => by
  rw [take_snoc hx, Bool.or_eq_true, h k, decide_eq_true_iff]
  simp only [List.mem_append, List.mem_singleton]
  constructor
  · rintro ((⟨h1, h2⟩ | ⟨h1, q, h2, h3⟩) | rfl)
    · exact .inl ⟨.inl h1, h2⟩
    · exact .inr ⟨h1, q, .inl h2, h3⟩
    · exact .inl ⟨.inr rfl, hf⟩
  · rintro (⟨h1 | h1, h2⟩ | ⟨h1, q, h2 | rfl, h3⟩)
    · exact .inl (.inl ⟨h1, h2⟩)
    · exact .inr (by omega)
    · exact .inl (.inr ⟨h1, q, h2, h3⟩)
    · exact absurd h3 hf
theorem WtP.swap {m fr to : List Int} {i x : Nat} {S S2 : Nat → Bool} (h : WtP m fr to i S) (hx : m[i]? = some (x : Int)) (hf : (x : Int) ∈ fr) (h2 : StP S to to.length S2) : WtP m fr to (i + 1) S2 := fun k => by
  rw [take_snoc hx, h2 k, List.take_length, Bool.or_eq_true, h k, decide_eq_true_iff]
  simp only [List.mem_append, List.mem_singleton]
  constructor
  · rintro ((⟨h1, h2⟩ | ⟨h1, q, h2, h3⟩) | h1)
    · exact .inl ⟨.inl h1, h2⟩
    · exact .inr ⟨h1, q, .inl h2, h3⟩
    · exact .inr ⟨h1, _, .inr rfl, hf⟩
  · rintro (⟨h1 | h1, h2⟩ | ⟨h1, q, h2 | rfl, h3⟩)
    · exact .inl (.inl ⟨h1, h2⟩)
    · rw [h1] at h2; exact absurd hf h2
    · exact .inl (.inr ⟨h1, q, h2, h3⟩)
    · exact .inr h1
theorem StP.zero (S : Nat → Bool) (to : List Int) : StP S to 0 S := fun j => by simp
theorem StP.next {S S2 : Nat → Bool} {to : List Int} {k x : Nat} (h : StP S to k S2) (hx : to[k]? = some (x : Int)) : StP S to (k + 1) (fun j => S2 j || decide (j = x)) := fun j => by
  rw [take_snoc hx]
  simp only [h j, List.mem_append, List.mem_singleton, Bool.or_assoc]
  congr 1
  rw [Bool.eq_iff_iff]
  simp only [Bool.or_eq_true, decide_eq_true_iff]
  constructor
  · rintro (h | rfl)
    · exact .inl h
    · exact .inr rfl
  · rintro (h | h)
    · exact .inl h
    · exact .inr (by omega)
theorem WtP.fin {y : Ch} {m n : List Int} {S : Nat → Bool} (hD : ApD y m n) {lm : Nat} (hl : m.length = lm) (h : WtP m y.fr y.to lm S) : cntB S 65536 = n.length ∧ ∀ k : Nat, (k : Int) ∈ n → S k = true :=
  want_end hD fun k => by have := h k; rw [← hl, List.take_length] at this; exact this
end Go.Proofs.Ytplpogonkfnafaa
