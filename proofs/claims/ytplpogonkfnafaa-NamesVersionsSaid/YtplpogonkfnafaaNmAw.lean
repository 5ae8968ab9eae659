/- The sample book. -/
import Derived.Test.YtplpogonkfnafaaNmFe
import Derived.Test.YtplpogonkfnafaaNmLa
import Derived.Test.YtplpogonkfnafaaNmV
import Derived.Test.YtplpogonkfnafaaNmE
import Derived.Test.YtplpogonkfnafaaNmT
import Derived.Test.YtplpogonkfnafaaNmJ
namespace Go.Proofs.Ytplpogonkfnafaa
open Go.RowKit Go.Nm

def smp : Bk := ⟨[1, 2, 3], [⟨5, [2], [4, 5]⟩, ⟨8, [3, 4], [3]⟩]⟩
theorem heap_al (X : World) (o : Obj) : (X.alloc o).heap = X.heap.push o := rfl
/-- a literal of numbers in a block -/
theorem lit_sl {w : World} {g n : Nat} {L : List Int} {cs : Array Value} {t : TypeId} (h : w.heap[g]? = some (.cells cs t)) (hc : cs = (intsV L).toArray) (hn : n = L.length) (hm : n ≤ 1000) : InSl w w.heap.size (.slice (some ⟨g, 0, none⟩) n n) L :=
  ⟨_, n, by rw [hn], by omega, by unfold maxLen; omega, fun i x hx => ⟨_, rfl, (Array.getElem?_eq_some_iff.1 h).1, by
    rw [off_add]
    subst hc
    simp [World.cell?, h, intsV, hx]⟩⟩
set_option maxRecDepth 100000 in
set_option maxHeartbeats 4000000 in
theorem sample_any (w : World) : Calls Try.prog 54 #[] w fun e w' => (∃ A1 A2, e = .returned (.agg #[.slice A1 3 3, .slice A2 2 2]) ∧ BkV w' (.agg #[.slice A1 3 3, .slice A2 2 2]) smp (.slice A2 2 2)) ∧ Below w.heap.size w w' := by
  go_enter Try.func54, Try.ntmps54
  go_wp2_with fail
  generalize hc0 : Obj.cells #[Value.slice (some { block := w.heap.size + 1, off := 0 }) 3 3, Value.slice (some { block := w.heap.size + 1 + 1 + 1 + 1 + 1 + 1, off := 0 }) 2 2] 25 = c0
  generalize hc1 : Obj.cells #[Value.int IntKind.i64 1, Value.int IntKind.i64 2, Value.int IntKind.i64 3] 3 = c1
  generalize hc2 : Obj.cells #[Value.int IntKind.i64 2] 3 = c2
  generalize hc3 : Obj.cells #[Value.int IntKind.i64 4, Value.int IntKind.i64 5] 3 = c3
  generalize hc4 : Obj.cells #[Value.int IntKind.i64 3, Value.int IntKind.i64 4] 3 = c4
  generalize hc5 : Obj.cells #[Value.int IntKind.i64 3] 3 = c5
  generalize hc6 : Obj.cells #[Value.int IntKind.i64 5, Value.slice (some { block := w.heap.size + 1 + 1, off := 0 }) 1 1, Value.slice (some { block := w.heap.size + 1 + 1 + 1, off := 0 }) 2 2, Value.int IntKind.i64 8, Value.slice (some { block := w.heap.size + 1 + 1 + 1 + 1, off := 0 }) 2 2, Value.slice (some { block := w.heap.size + 1 + 1 + 1 + 1 + 1, off := 0 }) 1 1] 52 = c6
  have hW : ∃ W, ((((((w.alloc c0).alloc c1).alloc c2).alloc c3).alloc c4).alloc c5).alloc c6 = W := ⟨_, rfl⟩
  obtain ⟨W, hW⟩ := hW
  have hb : Below w.heap.size w W := by rw [← hW]; exact ((((((((Below.refl _ _).alloc (by simp) _).alloc (by simp; try omega) _).alloc (by simp; try omega) _).alloc (by simp; try omega) _).alloc (by simp; try omega) _).alloc (by simp; try omega) _).alloc (by simp; try omega) _)
  have h0 : W.heap[w.heap.size]? = some c0 := by rw [← hW]; simp only [heap_al, Array.getElem?_push, Array.size_push]; (repeat rw [if_neg (by omega)]); exact if_pos trivial
  have h1 : W.heap[w.heap.size + 1]? = some c1 := by rw [← hW]; simp only [heap_al, Array.getElem?_push, Array.size_push]; (repeat rw [if_neg (by omega)]); exact if_pos trivial
  have h2 : W.heap[w.heap.size + 1 + 1]? = some c2 := by rw [← hW]; simp only [heap_al, Array.getElem?_push, Array.size_push]; (repeat rw [if_neg (by omega)]); exact if_pos trivial
  have h3 : W.heap[w.heap.size + 1 + 1 + 1]? = some c3 := by rw [← hW]; simp only [heap_al, Array.getElem?_push, Array.size_push]; (repeat rw [if_neg (by omega)]); exact if_pos trivial
  have h4 : W.heap[w.heap.size + 1 + 1 + 1 + 1]? = some c4 := by rw [← hW]; simp only [heap_al, Array.getElem?_push, Array.size_push]; (repeat rw [if_neg (by omega)]); exact if_pos trivial
  have h5 : W.heap[w.heap.size + 1 + 1 + 1 + 1 + 1]? = some c5 := by rw [← hW]; simp only [heap_al, Array.getElem?_push, Array.size_push]; (repeat rw [if_neg (by omega)]); exact if_pos trivial
  have h6 : W.heap[w.heap.size + 1 + 1 + 1 + 1 + 1 + 1]? = some c6 := by rw [← hW]; simp only [heap_al, Array.getElem?_push, Array.size_push]; (repeat rw [if_neg (by omega)]); exact if_pos trivial
  rw [hW]
  subst hc0 hc1 hc2 hc3 hc4 hc5 hc6
  clear hW
  obtain ⟨r0, r1⟩ := cells_two h0
  have f0 := frozen_cells h0
  refine bodyPost_ret (v := .agg #[.slice (some { block := w.heap.size + 1, off := 0 }) 3 3, .slice (some { block := w.heap.size + 1 + 1 + 1 + 1 + 1 + 1, off := 0 }) 2 2]) (by simp [results, Try.results54, go_sem, r0, r1]) rfl ⟨⟨_, _, rfl, _, rfl, lit_sl h1 rfl rfl (by omega), _, 2, rfl, ?_⟩, hb⟩
  intro i x hx
  have hlt := (Array.getElem?_eq_some_iff.1 h6).1
  match i, hx with
  | 0, hx =>
    injection hx with hx
    subst hx
    exact ⟨_, _, _, rfl, hlt, by simp [World.cell?, h6, Addr.add], by simp [World.cell?, h6, Addr.add], by simp [World.cell?, h6, Addr.add], lit_sl h2 rfl rfl (by decide), lit_sl h3 rfl rfl (by decide)⟩
  | 1, hx =>
    injection hx with hx
    subst hx
    exact ⟨_, _, _, rfl, hlt, by simp [World.cell?, h6, Addr.add], by simp [World.cell?, h6, Addr.add], by simp [World.cell?, h6, Addr.add], lit_sl h4 rfl rfl (by decide), lit_sl h5 rfl rfl (by decide)⟩
end Go.Proofs.Ytplpogonkfnafaa
