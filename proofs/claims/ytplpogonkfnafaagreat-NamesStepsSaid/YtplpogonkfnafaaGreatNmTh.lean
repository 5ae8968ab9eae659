
/- Through. -/
import Derived.Test.YtplpogonkfnafaaGreatNmBf
import Derived.Test.YtplpogonkfnafaaGreatNmBg
namespace Go.Proofs.YtplpogonkfnafaaGreat
open Go.RowKit Go.Nm Go.Shelf
attribute [local go_sem] Oper.semAt_some

/-- the fates that have a name at a version, by their numbers -/
def thr (n : Nat) (x : Int) (fs : List (List Int)) : List Int := ((List.range fs.length).filter fun i => decide ((fs[i]?.bind fun f => f[n]?) = some x)).map fun i : Nat => (i : Int)
theorem thr_snoc (n : Nat) (x : Int) (fs : List (List Int)) (f : List Int) : thr n x (fs ++ [f]) = thr n x fs ++ (if f[n]? = some x then [(fs.length : Int)] else []) := by
  unfold thr
  rw [List.length_append, List.length_singleton, List.range_succ, List.filter_append, List.map_append]
  congr 1
  · congr 1
    refine List.filter_congr fun i hi => ?_
    rw [List.getElem?_append_left (List.mem_range.1 hi)]
  · rw [List.filter_cons, List.filter_nil]
    simp only [List.getElem?_append_right (Nat.le_refl _), Nat.sub_self, List.getElem?_cons_zero, Option.bind_some]
    by_cases h : f[n]? = some x <;> simp [h]
theorem thr_len (n : Nat) (x : Int) (fs : List (List Int)) : (thr n x fs).length ≤ fs.length := by
  unfold thr
  rw [List.length_map]
  exact Nat.le_trans (List.length_filter_le _ _) (by simp)
/-- what the loop of Through keeps -/
structure ThI (V0 : World) (n : Nat) (x : Int) (hv : Array Value) (g : Nat) (pre : List (List Int × Value)) (ow : Option Nat) (X : World) : Prop where
  bel0 : Below V0.heap.size V0 X
  row : ∃ v, Boxed X V0.heap.size 22 v ∧ X.ownsRow (V0.heap.size + 3) 3 1 v (thr n x (pre.map (·.1))).length (intsV (thr n x (pre.map (·.1)))) ∧ ow = v.ownBlock
  cnt : Boxed X (V0.heap.size + 1) 3 (.int .i64 (pre.length : Int))
  hist : X.heap[V0.heap.size + 2]? = some (.cells hv 55)
  ng : ∀ k, ow = some k → k ≠ g
theorem ThI.cellsAt {V0 : World} {n : Nat} {x : Int} {hv : Array Value} {g : Nat} {pre : List (List Int × Value)} {ow : Option Nat} {X : World} (h : ThI V0 n x hv g pre ow X) : ∀ k, ow = some k → ∃ cs t fr, X.heap[k]? = some (.cells cs t fr) := by
  intro k hk
  obtain ⟨v, h1, h2, h3⟩ := h.row
  rcases h2.2 with ⟨rfl, _⟩ | ⟨g', cap, cur, rfl, _, hg', _⟩
  · rw [h3] at hk; simp [Value.ownBlock] at hk
  · rw [h3] at hk; simp [Value.ownBlock] at hk
    subst hk; exact ⟨_, _, _, hg'⟩
theorem own_low {X : World} {B B' n z : Nat} {t : TypeId} {v : Value} {xs : List Value} (h : X.ownsRow B t z v n xs) (hb : B' ≤ B) : X.ownsRow B' t z v n xs :=
  ⟨h.1, h.2.imp id fun ⟨g, cap, cur, e, h1, h2⟩ => ⟨g, cap, cur, e, by omega, h2⟩⟩
theorem heap_al3 (X : World) (o : Obj) : (X.alloc o).heap = X.heap.push o := rfl
theorem ThI.own {V0 : World} {n : Nat} {x : Int} {hv : Array Value} (g : Nat) (pre : List (List Int × Value)) (ow : Option Nat) (X X' : World) (row : Option Nat) (h : ThI V0 n x hv g pre ow X) (hg : X.grownBy X' row) (hr : ∀ r, row = some r → V0.heap.size + 3 ≤ r ∧ (r = g ∨ ∃ o : Obj, X.heap[r]? = some o ∧ o.isCells = false)) : ThI V0 n x hv g pre ow X' := by
  have hc := h.cellsAt
  obtain ⟨v, h1, h2, h3⟩ := h.row
  refine ⟨h.bel0.grown hg h.bel0.size (fun k e => by have := (hr k e).1; omega), ⟨v, h1.kept hg (fun e => by have := (hr _ e.symm).1; omega), h2.kept hg ?_, h3⟩, h.cnt.kept hg (fun e => by have := (hr _ e.symm).1; omega),
    (hg.block _ (Array.getElem?_eq_some_iff.1 h.hist).1 (fun e => by have := (hr _ e.symm).1; omega)).trans h.hist, h.ng⟩
  cases ho : v.ownBlock with
  | none => exact .inl rfl
  | some k =>
    refine .inr (fun e => ?_)
    rcases (hr k e.symm).2 with h' | ⟨o, ho2, hcl⟩
    · exact h.ng k (h3.trans ho) h'
    · obtain ⟨cs, t, fr, h4⟩ := hc k (h3.trans ho)
      rw [h4] at ho2; cases ho2; cases hcl
def throughOut (b : Bk) (n x : Int) : List Int × Int := if openAtE b [] n x = 0 then (if rich b then ([], 2) else (thr n.toNat x (fatesF b (b.chs.length + 1) []), 0)) else ([], openAtE b [] n x)
end Go.Proofs.YtplpogonkfnafaaGreat
