/- The matrix of the examples. -/
import Derived.Test.YthfegbcbpeedbaaDoorKyLt
namespace Go.Ky
def sampleM : Mx := ⟨[2, 3], [⟨10, [1, 3]⟩, ⟨20, [2, 1]⟩, ⟨30, [1, 6]⟩]⟩
end Go.Ky
namespace Go.Proofs.YthfegbcbpeedbaaDoor
open Go.RowKit Go.Nm Go.Ky

theorem two_sl {X : World} {g : Nat} {a b : Int} (h : X.heap[g]? = some (.cells #[.int .i64 a, .int .i64 b] 3)) : InSl X X.heap.size (.slice (some ⟨g, 0, none⟩) 2 2) [a, b] := by
  obtain ⟨c0, c1⟩ := cells_two h
  refine ⟨some ⟨g, 0, none⟩, 2, rfl, by simp, by unfold maxLen; omega, fun i x hx => ⟨_, rfl, (Array.getElem?_eq_some_iff.1 h).1, ?_⟩⟩
  have hi := (List.getElem?_eq_some_iff.1 hx).1
  rw [add_zero_k]
  rcases (show i = 0 ∨ i = 1 by simp at hi; omega) with rfl | rfl
  · simp at hx; subst hx; exact c0
  · simp at hx; subst hx; exact c1
theorem three_rows {X : World} {g : Nat} {a b c : Rw} {va vb vc : Value} (h : X.heap[g]? = some (.cells #[.int .i64 a.nm, va, .int .i64 b.nm, vb, .int .i64 c.nm, vc] 35)) (ha : InSl X X.heap.size va a.may) (hb : InSl X X.heap.size vb b.may) (hc : InSl X X.heap.size vc c.may) : IlSl X X.heap.size (.slice (some ⟨g, 0, none⟩) 3 3) [a, b, c] := by
  refine ⟨some ⟨g, 0, none⟩, 3, rfl, fun i x hx => ?_⟩
  have hl : g < X.heap.size := (Array.getElem?_eq_some_iff.1 h).1
  have hi := (List.getElem?_eq_some_iff.1 hx).1
  rcases (show i = 0 ∨ i = 1 ∨ i = 2 by simp at hi; omega) with rfl | rfl | rfl
  · simp at hx; subst hx; exact ⟨_, va, rfl, hl, by rw [add_zero_k]; simp [World.cell?, h], by rw [add_zero_k]; simp [World.cell?, h], ha⟩
  · simp at hx; subst hx; exact ⟨_, vb, rfl, hl, by rw [add_zero_k]; simp [World.cell?, h], by rw [add_zero_k]; simp [World.cell?, h], hb⟩
  · simp at hx; subst hx; exact ⟨_, vc, rfl, hl, by rw [add_zero_k]; simp [World.cell?, h], by rw [add_zero_k]; simp [World.cell?, h], hc⟩
set_option maxRecDepth 100000 in
set_option maxHeartbeats 8000000 in
theorem matrix_any (w : World) :
    Calls Tryd.prog 57 #[] w fun e w' => (∃ v, e = .returned v ∧ MxV w' v sampleM) ∧ Below w.heap.size w w' := by
  obtain ⟨W1, hW1⟩ : ∃ W, w.alloc (.cells #[.slice (some ⟨w.heap.size + 1, 0, none⟩) 2 2, .slice (some ⟨w.heap.size + 1 + 1 + 1 + 1 + 1, 0, none⟩) 3 3] 25) = W := ⟨_, rfl⟩
  have hb1 := below_new (w := w) (.cells #[.slice (some ⟨w.heap.size + 1, 0, none⟩) 2 2, .slice (some ⟨w.heap.size + 1 + 1 + 1 + 1 + 1, 0, none⟩) 3 3] 25)
  have hn1 := World.alloc_heap_new w (.cells #[.slice (some ⟨w.heap.size + 1, 0, none⟩) 2 2, .slice (some ⟨w.heap.size + 1 + 1 + 1 + 1 + 1, 0, none⟩) 3 3] 25)
  rw [hW1] at hb1 hn1
  have hz1 : W1.heap.size = w.heap.size + 1 := by rw [← hW1]; simp
  obtain ⟨W2, hW2⟩ : ∃ W, W1.alloc (.cells #[.int .i64 2, .int .i64 3] 3) = W := ⟨_, rfl⟩
  have hb2 := below_new (w := W1) (.cells #[.int .i64 2, .int .i64 3] 3)
  have hn2 := World.alloc_heap_new W1 (.cells #[.int .i64 2, .int .i64 3] 3)
  rw [hW2] at hb2 hn2
  rw [hz1] at hn2
  have hz2 : W2.heap.size = w.heap.size + 1 + 1 := by rw [← hW2]; simp [hz1]
  have hn1 := (hb2.block _ (by omega)).trans hn1
  obtain ⟨W3, hW3⟩ : ∃ W, W2.alloc (.cells #[.int .i64 1, .int .i64 3] 3) = W := ⟨_, rfl⟩
  have hb3 := below_new (w := W2) (.cells #[.int .i64 1, .int .i64 3] 3)
  have hn3 := World.alloc_heap_new W2 (.cells #[.int .i64 1, .int .i64 3] 3)
  rw [hW3] at hb3 hn3
  rw [hz2] at hn3
  have hz3 : W3.heap.size = w.heap.size + 1 + 1 + 1 := by rw [← hW3]; simp [hz2]
  have hn1 := (hb3.block _ (by omega)).trans hn1
  have hn2 := (hb3.block _ (by omega)).trans hn2
  obtain ⟨W4, hW4⟩ : ∃ W, W3.alloc (.cells #[.int .i64 2, .int .i64 1] 3) = W := ⟨_, rfl⟩
  have hb4 := below_new (w := W3) (.cells #[.int .i64 2, .int .i64 1] 3)
  have hn4 := World.alloc_heap_new W3 (.cells #[.int .i64 2, .int .i64 1] 3)
  rw [hW4] at hb4 hn4
  rw [hz3] at hn4
  have hz4 : W4.heap.size = w.heap.size + 1 + 1 + 1 + 1 := by rw [← hW4]; simp [hz3]
  have hn1 := (hb4.block _ (by omega)).trans hn1
  have hn2 := (hb4.block _ (by omega)).trans hn2
  have hn3 := (hb4.block _ (by omega)).trans hn3
  obtain ⟨W5, hW5⟩ : ∃ W, W4.alloc (.cells #[.int .i64 1, .int .i64 6] 3) = W := ⟨_, rfl⟩
  have hb5 := below_new (w := W4) (.cells #[.int .i64 1, .int .i64 6] 3)
  have hn5 := World.alloc_heap_new W4 (.cells #[.int .i64 1, .int .i64 6] 3)
  rw [hW5] at hb5 hn5
  rw [hz4] at hn5
  have hz5 : W5.heap.size = w.heap.size + 1 + 1 + 1 + 1 + 1 := by rw [← hW5]; simp [hz4]
  have hn1 := (hb5.block _ (by omega)).trans hn1
  have hn2 := (hb5.block _ (by omega)).trans hn2
  have hn3 := (hb5.block _ (by omega)).trans hn3
  have hn4 := (hb5.block _ (by omega)).trans hn4
  obtain ⟨W6, hW6⟩ : ∃ W, W5.alloc (.cells #[.int .i64 10, .slice (some ⟨w.heap.size + 1 + 1, 0, none⟩) 2 2, .int .i64 20, .slice (some ⟨w.heap.size + 1 + 1 + 1, 0, none⟩) 2 2, .int .i64 30, .slice (some ⟨w.heap.size + 1 + 1 + 1 + 1, 0, none⟩) 2 2] 35) = W := ⟨_, rfl⟩
  have hb6 := below_new (w := W5) (.cells #[.int .i64 10, .slice (some ⟨w.heap.size + 1 + 1, 0, none⟩) 2 2, .int .i64 20, .slice (some ⟨w.heap.size + 1 + 1 + 1, 0, none⟩) 2 2, .int .i64 30, .slice (some ⟨w.heap.size + 1 + 1 + 1 + 1, 0, none⟩) 2 2] 35)
  have hn6 := World.alloc_heap_new W5 (.cells #[.int .i64 10, .slice (some ⟨w.heap.size + 1 + 1, 0, none⟩) 2 2, .int .i64 20, .slice (some ⟨w.heap.size + 1 + 1 + 1, 0, none⟩) 2 2, .int .i64 30, .slice (some ⟨w.heap.size + 1 + 1 + 1 + 1, 0, none⟩) 2 2] 35)
  rw [hW6] at hb6 hn6
  rw [hz5] at hn6
  have hz6 : W6.heap.size = w.heap.size + 1 + 1 + 1 + 1 + 1 + 1 := by rw [← hW6]; simp [hz5]
  have hn1 := (hb6.block _ (by omega)).trans hn1
  have hn2 := (hb6.block _ (by omega)).trans hn2
  have hn3 := (hb6.block _ (by omega)).trans hn3
  have hn4 := (hb6.block _ (by omega)).trans hn4
  have hn5 := (hb6.block _ (by omega)).trans hn5
  have hB := hb1
  have hB := hB.trans (hb2.mono hB.size)
  have hB := hB.trans (hb3.mono hB.size)
  have hB := hB.trans (hb4.mono hB.size)
  have hB := hB.trans (hb5.mono hB.size)
  have hB := hB.trans (hb6.mono hB.size)
  have HW := Lib.hid (And.intro hW1 (And.intro hW2 (And.intro hW3 (And.intro hW4 (And.intro hW5 hW6)))))
  have HB := Lib.hid hB
  have HN := Lib.hid (And.intro hn2 (And.intro hn3 (And.intro hn4 (And.intro hn5 hn6))))
  obtain ⟨c0, c1⟩ := cells_two hn1
  clear hW1 hW2 hW3 hW4 hW5 hW6 hb1 hb2 hb3 hb4 hb5 hb6 hn1 hn2 hn3 hn4 hn5 hn6 hz1 hz2 hz3 hz4 hz5 hz6 hB
  go_enter Tryd.func57, Tryd.ntmps57
  go_wp2_with fail
  rw [HW.out.1, HW.out.2.1, HW.out.2.2.1, HW.out.2.2.2.1, HW.out.2.2.2.2.1, HW.out.2.2.2.2.2]
  (try go_wp2_with fail)
  exact bodyPost_ret (v := .agg #[.slice (some ⟨w.heap.size + 1, 0, none⟩) 2 2, .slice (some ⟨w.heap.size + 1 + 1 + 1 + 1 + 1, 0, none⟩) 3 3]) (by simp [results, Tryd.results57, go_sem, c0, c1]) rfl ⟨⟨_, rfl, ⟨_, _, rfl, two_sl HN.out.1, three_rows (a := ⟨10, [1, 3]⟩) (b := ⟨20, [2, 1]⟩) (c := ⟨30, [1, 6]⟩) HN.out.2.2.2.2 (two_sl HN.out.2.1) (two_sl HN.out.2.2.1) (two_sl HN.out.2.2.2.1)⟩⟩, HB.out⟩
end Go.Proofs.YthfegbcbpeedbaaDoor
