/- What is asked of a matrix. -/
import Derived.Test.YthfegbcbpeedbaaDoorKyOz
namespace Go.Proofs.YthfegbcbpeedbaaDoor
open Go.RowKit Go.Nm Go.Ky

def AskV (w : World) (u : Value) (l1 l2 l3 : List Int) (a b c : Int) : Prop := ∃ v1 v2 v3, u = .agg #[v1, v2, v3, .int .i64 a, .int .i64 b, .int .i64 c] ∧ InSl w w.heap.size v1 l1 ∧ InSl w w.heap.size v2 l2 ∧ InSl w w.heap.size v3 l3
theorem AskV.step {w w' : World} {u : Value} {l1 l2 l3 : List Int} {a b c : Int} (h : AskV w u l1 l2 l3 a b c) (hb : Below w.heap.size w w') : AskV w' u l1 l2 l3 a b c := by
  obtain ⟨v1, v2, v3, e, h1, h2, h3⟩ := h
  exact ⟨v1, v2, v3, e, h1.step hb, h2.step hb, h3.step hb⟩
theorem ask_box {w : World} {u : Value} {l1 l2 l3 : List Int} {a b c : Int} (hu : AskV w u l1 l2 l3 a b c) : ∃ (B1 : Option Addr) (d1 : Nat) (B2 : Option Addr) (d2 : Nat) (B3 : Option Addr) (d3 : Nat) (W0 : World), u = .agg #[.slice B1 l1.length d1, .slice B2 l2.length d2, .slice B3 l3.length d3, .int .i64 a, .int .i64 b, .int .i64 c] ∧
    w.alloc (.cells #[.slice B1 l1.length d1, .slice B2 l2.length d2, .slice B3 l3.length d3, .int .i64 a, .int .i64 b, .int .i64 c] 27) = W0 ∧ Below w.heap.size w W0 ∧
    InSl W0 W0.heap.size (.slice B1 l1.length d1) l1 ∧ InSl W0 W0.heap.size (.slice B2 l2.length d2) l2 ∧ InSl W0 W0.heap.size (.slice B3 l3.length d3) l3 ∧ W0.heap[w.heap.size]? = some (.cells #[.slice B1 l1.length d1, .slice B2 l2.length d2, .slice B3 l3.length d3, .int .i64 a, .int .i64 b, .int .i64 c] 27) := by
  obtain ⟨v1, v2, v3, rfl, h1, h2, h3⟩ := hu
  obtain ⟨B1, d1, rfl, _⟩ := h1.form
  obtain ⟨B2, d2, rfl, _⟩ := h2.form
  obtain ⟨B3, d3, rfl, _⟩ := h3.form
  have hb := below_new (w := w) (.cells #[.slice B1 l1.length d1, .slice B2 l2.length d2, .slice B3 l3.length d3, .int .i64 a, .int .i64 b, .int .i64 c] 27)
  exact ⟨B1, d1, B2, d2, B3, d3, _, rfl, rfl, hb, h1.step hb, h2.step hb, h3.step hb, World.alloc_heap_new w _⟩
theorem cells_six {w : World} {g : Nat} {v0 v1 v2 v3 v4 v5 : Value} {t : TypeId} (h : w.heap[g]? = some (.cells #[v0, v1, v2, v3, v4, v5] t)) : w.cell? ⟨g, 0, none⟩ = some v0 ∧ w.cell? ⟨g, 1, none⟩ = some v1 ∧ w.cell? ⟨g, 2, none⟩ = some v2 ∧ w.cell? ⟨g, 3, none⟩ = some v3 ∧ w.cell? ⟨g, 4, none⟩ = some v4 ∧ w.cell? ⟨g, 5, none⟩ = some v5 := by
  simp [World.cell?, h]
theorem few_sm {m : Mx} (h : fewF m = true) : MSm m := by
  unfold fewF at h
  rw [Bool.and_eq_true, Bool.not_eq_true', decide_eq_false_iff_not] at h
  exact ⟨by omega, by omega, fun r hr => by have := of_decide_eq_true ((List.all_eq_true.1 h.2) r hr); omega⟩
end Go.Proofs.YthfegbcbpeedbaaDoor
