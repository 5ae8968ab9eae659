
/- What is asked of a matrix. -/
import Derived.Test.YthfegbcbpeedbaaGreatDoorKyOy
namespace Go.Ky
open Go.Nm
set_option maxRecDepth 100000
theorem aw1 : seenE sampleM [[1, 7]] = 0 := by kernel_rfl
theorem aw2 : remO sampleM [1, 7] = [10, 30] := by kernel_rfl
theorem aw3 : sameE sampleM 10 30 = 0 := by kernel_rfl
theorem aw4 : sameL sampleM 10 30 = [0, 1] := by kernel_rfl
theorem aw5 : bestE sampleM [3, 7] = 0 := by kernel_rfl
theorem aw6 : bestC sampleM [3, 7] = 0 := by kernel_rfl
theorem aw7 : traceE sampleM sampleK [0, 1] = 0 := by kernel_rfl
theorem aw8 : traceL sampleM sampleK [0, 1] = [0, 1, -3] := by kernel_rfl
theorem aw9 : decide (wrongE sampleM sampleK = 3) = true := by kernel_rfl
theorem awA : rightE sampleM sampleK = 0 := by kernel_rfl
theorem awB : buildE sampleM = 0 := by kernel_rfl
theorem awC : buildK sampleM = wantK := by kernel_rfl
theorem awD : wrongE sampleM badK = 0 := by kernel_rfl
theorem awE : wrongN sampleM badK = 30 := by kernel_rfl
theorem awF : wrongL sampleM badK = [0, 1] := by kernel_rfl
end Go.Ky
namespace Go.Proofs.YthfegbcbpeedbaaGreatDoor
open Go.RowKit Go.Nm Go.Ky

theorem sampleM_sm : MSm sampleM := ⟨by decide, by decide, by decide⟩
theorem sampleK_sm : KSm sampleK := ⟨by decide, by decide, by decide, by decide⟩
theorem badK_sm : KSm badK := ⟨by decide, by decide, by decide, by decide⟩
theorem wantK_sm : KSm wantK := ⟨by decide, by decide, by decide, by decide⟩
structure AwI (V : World) (kv : Value) (dn : Nat → Bool) (val : Nat → Value) (X : World) : Prop where
  s1 : dn 1 = true → val 1 = kv
  s4 : dn 4 = true → val 4 = .int .i64 30
  s6 : dn 6 = true → val 6 = .int .i64 0
  s7 : dn 7 = true → val 7 = .int .i64 30
  s9 : dn 9 = true → val 9 = .int .i64 0
  bel : Below V.heap.size V X
  e0 : dn 0 = true → dn 2 = false → MxV X (val 0) sampleM
  e2 : dn 2 = true → ∃ x, val 2 = .tuple #[.int .i64 30, x, .int .i64 0] ∧ InSl X X.heap.size x [0, 1]
  e3 : dn 3 = true → dn 2 = true ∧ val 3 = val 2
  e5 : dn 5 = true → dn 3 = true ∧ val 3 = .tuple #[.int .i64 30, val 5, .int .i64 0]
  e8 : dn 8 = true → dn 5 = true ∧ val 8 = val 5
section
variable {V : World} {kv : Value} {dn : Nat → Bool} {val : Nat → Value} {X Y : World}
theorem AwI.op1 (h : AwI V kv dn val X) : AwI V kv (andB dn 1) (updV val 1 (kv)) X :=
  ⟨(fun _ => rfl), h.s4, h.s6, h.s7, h.s9, h.bel, h.e0, h.e2, h.e3, h.e5, h.e8⟩
theorem AwI.op4 (h : AwI V kv dn val X) : AwI V kv (andB dn 4) (updV val 4 (.int .i64 30)) X :=
  ⟨h.s1, (fun _ => rfl), h.s6, h.s7, h.s9, h.bel, h.e0, h.e2, h.e3, h.e5, h.e8⟩
theorem AwI.op6 (h : AwI V kv dn val X) : AwI V kv (andB dn 6) (updV val 6 (.int .i64 0)) X :=
  ⟨h.s1, h.s4, (fun _ => rfl), h.s7, h.s9, h.bel, h.e0, h.e2, h.e3, h.e5, h.e8⟩
theorem AwI.op7 (h : AwI V kv dn val X) : AwI V kv (andB dn 7) (updV val 7 (.int .i64 30)) X :=
  ⟨h.s1, h.s4, h.s6, (fun _ => rfl), h.s9, h.bel, h.e0, h.e2, h.e3, h.e5, h.e8⟩
theorem AwI.op9 (h : AwI V kv dn val X) : AwI V kv (andB dn 9) (updV val 9 (.int .i64 0)) X :=
  ⟨h.s1, h.s4, h.s6, h.s7, (fun _ => rfl), h.bel, h.e0, h.e2, h.e3, h.e5, h.e8⟩
theorem AwI.op0 (h : AwI V kv dn val X) (n2 : dn 2 = false) {v : Value} (hm : MxV Y v sampleM) (hb : Below X.heap.size X Y) : AwI V kv (andB dn 0) (updV val 0 (v)) (Y) :=
  ⟨h.s1, h.s4, h.s6, h.s7, h.s9, h.bel.trans (hb.mono h.bel.size), (fun _ _ => hm), (fun d => f_t n2 d), h.e3, h.e5, h.e8⟩
theorem AwI.op2 (h : AwI V kv dn val X) (n3 : dn 3 = false) {x : Value} (hx : InSl Y Y.heap.size x [0, 1]) (hb : Below X.heap.size X Y) : AwI V kv (andB dn 2) (updV val 2 (.tuple #[.int .i64 30, x, .int .i64 0])) (Y) :=
  ⟨h.s1, h.s4, h.s6, h.s7, h.s9, h.bel.trans (hb.mono h.bel.size), (fun _ n => nomatch n), (fun _ => ⟨_, rfl, hx⟩), (fun d => f_t n3 d), h.e5, h.e8⟩
theorem AwI.op3 (h : AwI V kv dn val X) (y2 : dn 2 = true) (n5 : dn 5 = false) : AwI V kv (andB dn 3) (updV val 3 (val 2)) (X) :=
  ⟨h.s1, h.s4, h.s6, h.s7, h.s9, h.bel, h.e0, h.e2, (fun _ => ⟨y2, rfl⟩), (fun d => f_t n5 d), h.e8⟩
theorem AwI.op5 (h : AwI V kv dn val X) (y3 : dn 3 = true) (n8 : dn 8 = false) {x : Value} (hv : val 3 = .tuple #[.int .i64 30, x, .int .i64 0]) : AwI V kv (andB dn 5) (updV val 5 (x)) (X) :=
  ⟨h.s1, h.s4, h.s6, h.s7, h.s9, h.bel, h.e0, h.e2, h.e3, (fun _ => ⟨y3, hv⟩), (fun d => f_t n8 d)⟩
theorem AwI.op8 (h : AwI V kv dn val X) (y5 : dn 5 = true) : AwI V kv (andB dn 8) (updV val 8 (val 5)) (X) :=
  ⟨h.s1, h.s4, h.s6, h.s7, h.s9, h.bel, h.e0, h.e2, h.e3, h.e5, (fun _ => ⟨y5, rfl⟩)⟩
end
section
variable {o : Oper} {a : Act} {w : World} {K : Act → World → Prop} {Q : Exit → Act → World → Prop}
set_option maxRecDepth 100000 in
theorem opCallMx (R : Ending → World → Prop) (ho : o.op = .call { callee := .value (.func 18), args := #[], argTypes := #[] })
    (hc : Calls Tryz.prog 18 #[] w R) (h : ∀ e w', R e w' → ∃ v, e = .returned v ∧ K (a.put o.dst v) w') : o.wp Tryz.prog a w K Q := by
  unfold Oper.wp execOp
  simp only [ho]
  go_simp
  refine hc.mono ?_
  intro e w' hR
  obtain ⟨v, rfl, hK⟩ := h e w' hR
  exact hK
set_option maxRecDepth 100000 in
theorem opCallWr (q r : Nat) (v1 v2 : Value) (R : Ending → World → Prop) (ho : o.op = .call { callee := .value (.func 9), args := #[.tmp q, .tmp r], argTypes := #[25, 29] }) (h1 : a.tmps.getD q undef = v1) (h2 : a.tmps.getD r undef = v2)
    (hc : Calls Tryz.prog 9 #[v1, v2] w R) (h : ∀ e w', R e w' → ∃ v, e = .returned v ∧ K (a.put o.dst v) w') : o.wp Tryz.prog a w K Q := by
  unfold Oper.wp execOp
  have e1 : a.eval (.tmp q) = v1 := h1
  have e2 : a.eval (.tmp r) = v2 := h2
  simp only [ho]
  go_simp
  refine hc.mono ?_
  intro e w' hR
  obtain ⟨v, rfl, hK⟩ := h e w' hR
  exact hK
theorem opExT0 (q : Nat) (v0 v1 v2 : Value) (ho : o.op = .extract (.tmp q) 0) (hq : a.tmps.getD q undef = .tuple #[v0, v1, v2]) (h : K (a.put o.dst v0) w) : o.wp Tryz.prog a w K Q := by
  unfold Oper.wp execOp
  have he : a.eval (.tmp q) = .tuple #[v0, v1, v2] := hq
  simp only [ho, he]
  go_simp
  exact h
theorem opExT1 (q : Nat) (v0 v1 v2 : Value) (ho : o.op = .extract (.tmp q) 1) (hq : a.tmps.getD q undef = .tuple #[v0, v1, v2]) (h : K (a.put o.dst v1) w) : o.wp Tryz.prog a w K Q := by
  unfold Oper.wp execOp
  have he : a.eval (.tmp q) = .tuple #[v0, v1, v2] := hq
  simp only [ho, he]
  go_simp
  exact h
theorem opExT2 (q : Nat) (v0 v1 v2 : Value) (ho : o.op = .extract (.tmp q) 2) (hq : a.tmps.getD q undef = .tuple #[v0, v1, v2]) (h : K (a.put o.dst v2) w) : o.wp Tryz.prog a w K Q := by
  unfold Oper.wp execOp
  have he : a.eval (.tmp q) = .tuple #[v0, v1, v2] := hq
  simp only [ho, he]
  go_simp
  exact h
end
theorem want_chain (w : World) : ∃ Y, (((((((((w.alloc (.cells #[.int .i64 1, .int .i64 (-4)] 3)).alloc (.cells #[.int .i64 (-1), .int .i64 (-2), .int .i64 (-3)] 3)).alloc (.cells #[.int .i64 0, .slice (some ⟨w.heap.size, 0, none⟩) 2 2, .int .i64 1, .slice (some ⟨w.heap.size + 1, 0, none⟩) 3 3] 55)).alloc (.cells #[.int .i64 10] 3)).alloc (.cells #[.int .i64 10, .int .i64 30] 3)).alloc (.cells #[.int .i64 30] 3)).alloc (.cells #[.int .i64 20] 3)).alloc (.cells #[.slice (some ⟨w.heap.size + 1 + 1 + 1, 0, none⟩) 1 1, .slice (some ⟨w.heap.size + 1 + 1 + 1 + 1, 0, none⟩) 2 2, .slice (some ⟨w.heap.size + 1 + 1 + 1 + 1 + 1, 0, none⟩) 1 1, .slice (some ⟨w.heap.size + 1 + 1 + 1 + 1 + 1 + 1, 0, none⟩) 1 1] 22)).alloc (.cells #[.slice (some ⟨w.heap.size + 1 + 1, 0, none⟩) 2 2, .slice (some ⟨w.heap.size + 1 + 1 + 1 + 1 + 1 + 1 + 1, 0, none⟩) 4 4] 29)).alloc (.cells #[.int .i64 10, .int .i64 30] 3) = Y ∧ Below w.heap.size w Y ∧ KyV Y (.agg #[.slice (some ⟨w.heap.size + 1 + 1, 0, none⟩) 2 2, .slice (some ⟨w.heap.size + 1 + 1 + 1 + 1 + 1 + 1 + 1, 0, none⟩) 4 4]) wantK ∧ Y.heap[w.heap.size + 1 + 1 + 1 + 1 + 1 + 1 + 1 + 1]? = some (.cells #[.slice (some ⟨w.heap.size + 1 + 1, 0, none⟩) 2 2, .slice (some ⟨w.heap.size + 1 + 1 + 1 + 1 + 1 + 1 + 1, 0, none⟩) 4 4] 29) ∧ Y.heap[w.heap.size + 1 + 1 + 1 + 1 + 1 + 1 + 1 + 1 + 1]? = some (.cells #[.int .i64 10, .int .i64 30] 3) := by
  obtain ⟨W1, hW1⟩ : ∃ W, w.alloc (.cells #[.int .i64 1, .int .i64 (-4)] 3) = W := ⟨_, rfl⟩
  have hb1 := below_new (w := w) (.cells #[.int .i64 1, .int .i64 (-4)] 3)
  have hn1 := World.alloc_heap_new w (.cells #[.int .i64 1, .int .i64 (-4)] 3)
  rw [hW1] at hb1 hn1
  have hz1 : W1.heap.size = w.heap.size + 1 := by rw [← hW1]; simp
  obtain ⟨W2, hW2⟩ : ∃ W, W1.alloc (.cells #[.int .i64 (-1), .int .i64 (-2), .int .i64 (-3)] 3) = W := ⟨_, rfl⟩
  have hb2 := below_new (w := W1) (.cells #[.int .i64 (-1), .int .i64 (-2), .int .i64 (-3)] 3)
  have hn2 := World.alloc_heap_new W1 (.cells #[.int .i64 (-1), .int .i64 (-2), .int .i64 (-3)] 3)
  rw [hW2] at hb2 hn2
  rw [hz1] at hn2
  have hz2 : W2.heap.size = w.heap.size + 1 + 1 := by rw [← hW2]; simp [hz1]
  have hn1 := (hb2.block _ (by omega)).trans hn1
  obtain ⟨W3, hW3⟩ : ∃ W, W2.alloc (.cells #[.int .i64 0, .slice (some ⟨w.heap.size, 0, none⟩) 2 2, .int .i64 1, .slice (some ⟨w.heap.size + 1, 0, none⟩) 3 3] 55) = W := ⟨_, rfl⟩
  have hb3 := below_new (w := W2) (.cells #[.int .i64 0, .slice (some ⟨w.heap.size, 0, none⟩) 2 2, .int .i64 1, .slice (some ⟨w.heap.size + 1, 0, none⟩) 3 3] 55)
  have hn3 := World.alloc_heap_new W2 (.cells #[.int .i64 0, .slice (some ⟨w.heap.size, 0, none⟩) 2 2, .int .i64 1, .slice (some ⟨w.heap.size + 1, 0, none⟩) 3 3] 55)
  rw [hW3] at hb3 hn3
  rw [hz2] at hn3
  have hz3 : W3.heap.size = w.heap.size + 1 + 1 + 1 := by rw [← hW3]; simp [hz2]
  have hn1 := (hb3.block _ (by omega)).trans hn1
  have hn2 := (hb3.block _ (by omega)).trans hn2
  obtain ⟨W4, hW4⟩ : ∃ W, W3.alloc (.cells #[.int .i64 10] 3) = W := ⟨_, rfl⟩
  have hb4 := below_new (w := W3) (.cells #[.int .i64 10] 3)
  have hn4 := World.alloc_heap_new W3 (.cells #[.int .i64 10] 3)
  rw [hW4] at hb4 hn4
  rw [hz3] at hn4
  have hz4 : W4.heap.size = w.heap.size + 1 + 1 + 1 + 1 := by rw [← hW4]; simp [hz3]
  have hn1 := (hb4.block _ (by omega)).trans hn1
  have hn2 := (hb4.block _ (by omega)).trans hn2
  have hn3 := (hb4.block _ (by omega)).trans hn3
  obtain ⟨W5, hW5⟩ : ∃ W, W4.alloc (.cells #[.int .i64 10, .int .i64 30] 3) = W := ⟨_, rfl⟩
  have hb5 := below_new (w := W4) (.cells #[.int .i64 10, .int .i64 30] 3)
  have hn5 := World.alloc_heap_new W4 (.cells #[.int .i64 10, .int .i64 30] 3)
  rw [hW5] at hb5 hn5
  rw [hz4] at hn5
  have hz5 : W5.heap.size = w.heap.size + 1 + 1 + 1 + 1 + 1 := by rw [← hW5]; simp [hz4]
  have hn1 := (hb5.block _ (by omega)).trans hn1
  have hn2 := (hb5.block _ (by omega)).trans hn2
  have hn3 := (hb5.block _ (by omega)).trans hn3
  have hn4 := (hb5.block _ (by omega)).trans hn4
  obtain ⟨W6, hW6⟩ : ∃ W, W5.alloc (.cells #[.int .i64 30] 3) = W := ⟨_, rfl⟩
  have hb6 := below_new (w := W5) (.cells #[.int .i64 30] 3)
  have hn6 := World.alloc_heap_new W5 (.cells #[.int .i64 30] 3)
  rw [hW6] at hb6 hn6
  rw [hz5] at hn6
  have hz6 : W6.heap.size = w.heap.size + 1 + 1 + 1 + 1 + 1 + 1 := by rw [← hW6]; simp [hz5]
  have hn1 := (hb6.block _ (by omega)).trans hn1
  have hn2 := (hb6.block _ (by omega)).trans hn2
  have hn3 := (hb6.block _ (by omega)).trans hn3
  have hn4 := (hb6.block _ (by omega)).trans hn4
  have hn5 := (hb6.block _ (by omega)).trans hn5
  obtain ⟨W7, hW7⟩ : ∃ W, W6.alloc (.cells #[.int .i64 20] 3) = W := ⟨_, rfl⟩
  have hb7 := below_new (w := W6) (.cells #[.int .i64 20] 3)
  have hn7 := World.alloc_heap_new W6 (.cells #[.int .i64 20] 3)
  rw [hW7] at hb7 hn7
  rw [hz6] at hn7
  have hz7 : W7.heap.size = w.heap.size + 1 + 1 + 1 + 1 + 1 + 1 + 1 := by rw [← hW7]; simp [hz6]
  have hn1 := (hb7.block _ (by omega)).trans hn1
  have hn2 := (hb7.block _ (by omega)).trans hn2
  have hn3 := (hb7.block _ (by omega)).trans hn3
  have hn4 := (hb7.block _ (by omega)).trans hn4
  have hn5 := (hb7.block _ (by omega)).trans hn5
  have hn6 := (hb7.block _ (by omega)).trans hn6
  obtain ⟨W8, hW8⟩ : ∃ W, W7.alloc (.cells #[.slice (some ⟨w.heap.size + 1 + 1 + 1, 0, none⟩) 1 1, .slice (some ⟨w.heap.size + 1 + 1 + 1 + 1, 0, none⟩) 2 2, .slice (some ⟨w.heap.size + 1 + 1 + 1 + 1 + 1, 0, none⟩) 1 1, .slice (some ⟨w.heap.size + 1 + 1 + 1 + 1 + 1 + 1, 0, none⟩) 1 1] 22) = W := ⟨_, rfl⟩
  have hb8 := below_new (w := W7) (.cells #[.slice (some ⟨w.heap.size + 1 + 1 + 1, 0, none⟩) 1 1, .slice (some ⟨w.heap.size + 1 + 1 + 1 + 1, 0, none⟩) 2 2, .slice (some ⟨w.heap.size + 1 + 1 + 1 + 1 + 1, 0, none⟩) 1 1, .slice (some ⟨w.heap.size + 1 + 1 + 1 + 1 + 1 + 1, 0, none⟩) 1 1] 22)
  have hn8 := World.alloc_heap_new W7 (.cells #[.slice (some ⟨w.heap.size + 1 + 1 + 1, 0, none⟩) 1 1, .slice (some ⟨w.heap.size + 1 + 1 + 1 + 1, 0, none⟩) 2 2, .slice (some ⟨w.heap.size + 1 + 1 + 1 + 1 + 1, 0, none⟩) 1 1, .slice (some ⟨w.heap.size + 1 + 1 + 1 + 1 + 1 + 1, 0, none⟩) 1 1] 22)
  rw [hW8] at hb8 hn8
  rw [hz7] at hn8
  have hz8 : W8.heap.size = w.heap.size + 1 + 1 + 1 + 1 + 1 + 1 + 1 + 1 := by rw [← hW8]; simp [hz7]
  have hn1 := (hb8.block _ (by omega)).trans hn1
  have hn2 := (hb8.block _ (by omega)).trans hn2
  have hn3 := (hb8.block _ (by omega)).trans hn3
  have hn4 := (hb8.block _ (by omega)).trans hn4
  have hn5 := (hb8.block _ (by omega)).trans hn5
  have hn6 := (hb8.block _ (by omega)).trans hn6
  have hn7 := (hb8.block _ (by omega)).trans hn7
  obtain ⟨W9, hW9⟩ : ∃ W, W8.alloc (.cells #[.slice (some ⟨w.heap.size + 1 + 1, 0, none⟩) 2 2, .slice (some ⟨w.heap.size + 1 + 1 + 1 + 1 + 1 + 1 + 1, 0, none⟩) 4 4] 29) = W := ⟨_, rfl⟩
  have hb9 := below_new (w := W8) (.cells #[.slice (some ⟨w.heap.size + 1 + 1, 0, none⟩) 2 2, .slice (some ⟨w.heap.size + 1 + 1 + 1 + 1 + 1 + 1 + 1, 0, none⟩) 4 4] 29)
  have hn9 := World.alloc_heap_new W8 (.cells #[.slice (some ⟨w.heap.size + 1 + 1, 0, none⟩) 2 2, .slice (some ⟨w.heap.size + 1 + 1 + 1 + 1 + 1 + 1 + 1, 0, none⟩) 4 4] 29)
  rw [hW9] at hb9 hn9
  rw [hz8] at hn9
  have hz9 : W9.heap.size = w.heap.size + 1 + 1 + 1 + 1 + 1 + 1 + 1 + 1 + 1 := by rw [← hW9]; simp [hz8]
  have hn1 := (hb9.block _ (by omega)).trans hn1
  have hn2 := (hb9.block _ (by omega)).trans hn2
  have hn3 := (hb9.block _ (by omega)).trans hn3
  have hn4 := (hb9.block _ (by omega)).trans hn4
  have hn5 := (hb9.block _ (by omega)).trans hn5
  have hn6 := (hb9.block _ (by omega)).trans hn6
  have hn7 := (hb9.block _ (by omega)).trans hn7
  have hn8 := (hb9.block _ (by omega)).trans hn8
  obtain ⟨W10, hW10⟩ : ∃ W, W9.alloc (.cells #[.int .i64 10, .int .i64 30] 3) = W := ⟨_, rfl⟩
  have hb10 := below_new (w := W9) (.cells #[.int .i64 10, .int .i64 30] 3)
  have hn10 := World.alloc_heap_new W9 (.cells #[.int .i64 10, .int .i64 30] 3)
  rw [hW10] at hb10 hn10
  rw [hz9] at hn10
  have hz10 : W10.heap.size = w.heap.size + 1 + 1 + 1 + 1 + 1 + 1 + 1 + 1 + 1 + 1 := by rw [← hW10]; simp [hz9]
  have hn1 := (hb10.block _ (by omega)).trans hn1
  have hn2 := (hb10.block _ (by omega)).trans hn2
  have hn3 := (hb10.block _ (by omega)).trans hn3
  have hn4 := (hb10.block _ (by omega)).trans hn4
  have hn5 := (hb10.block _ (by omega)).trans hn5
  have hn6 := (hb10.block _ (by omega)).trans hn6
  have hn7 := (hb10.block _ (by omega)).trans hn7
  have hn8 := (hb10.block _ (by omega)).trans hn8
  have hn9 := (hb10.block _ (by omega)).trans hn9
  have hB := hb1
  have hB := hB.trans (hb2.mono hB.size)
  have hB := hB.trans (hb3.mono hB.size)
  have hB := hB.trans (hb4.mono hB.size)
  have hB := hB.trans (hb5.mono hB.size)
  have hB := hB.trans (hb6.mono hB.size)
  have hB := hB.trans (hb7.mono hB.size)
  have hB := hB.trans (hb8.mono hB.size)
  have hB := hB.trans (hb9.mono hB.size)
  have hB := hB.trans (hb10.mono hB.size)
  refine ⟨W10, by rw [hW1, hW2, hW3, hW4, hW5, hW6, hW7, hW8, hW9, hW10], hB, ⟨_, _, rfl, two_nodes (a := ⟨0, [1, -4]⟩) (b := ⟨1, [-1, -2, -3]⟩) hn3 (by omega) (ints_sl hn1 rfl (by omega) rfl (by omega)) (ints_sl hn2 rfl (by omega) rfl (by omega)), four_lists hn8 (ints_sl hn4 rfl (by omega) rfl (by omega)) (ints_sl hn5 rfl (by omega) rfl (by omega)) (ints_sl hn6 rfl (by omega) rfl (by omega)) (ints_sl hn7 rfl (by omega) rfl (by omega))⟩, hn9, hn10⟩
set_option maxRecDepth 100000 in
set_option maxHeartbeats 8000000 in
theorem awake_any (w : World) (hT : TabH w) : Calls Tryz.prog 4 #[] w fun e w' => e = .returned (.bool true) ∧ Below w.heap.size w w' := by
  have HB := Lib.hid (Below.refl w.heap.size w)
  have HT := Lib.hid hT
  clear hT
  go_enter Tryz.func4, Tryz.ntmps4
  go_wp2_with fail
  (with_reducible refine (matrix_any w).mono ?_)
  rintro e w1 ⟨⟨vm, rfl, hm⟩, hb⟩
  replace HB := Lib.hid (HB.out.trans (hb.mono HB.out.size))
  replace HT := Lib.hid (HT.out.step hb)
  have hb := below_new (w := w1) (.cells #[.int .i64 1, .int .i64 7] 3)
  have hn := World.alloc_heap_new w1 (.cells #[.int .i64 1, .int .i64 7] 3)
  obtain ⟨w2, hX⟩ : ∃ Z, w1.alloc (.cells #[.int .i64 1, .int .i64 7] 3) = Z := ⟨_, rfl⟩
  rw [hX] at hb hn
  have HX := Lib.hid hX
  replace HB := Lib.hid (HB.out.trans (hb.mono HB.out.size))
  replace HT := Lib.hid (HT.out.step hb)
  have hc := Remain_any vm (.slice (some ⟨w1.heap.size, 0, none⟩) 2 2) sampleM [1, 7] w2 (hm.step hb) sampleM_sm (ints_sl hn rfl (by omega) rfl (Array.getElem?_eq_some_iff.1 hn).1) (by simp)
  rw [aw1, aw2] at hc
  have HC := Lib.hid hc
  clear hc hm hb hn hX
  go_wp2_with fail
  rw [HX.out]
  (with_reducible refine HC.out.mono ?_)
  rintro e w3 ⟨⟨v1, rfl, h1, _⟩, hb⟩
  replace HB := Lib.hid (HB.out.trans (hb.mono HB.out.size))
  replace HT := Lib.hid (HT.out.step hb)
  have H1 := Lib.hid h1
  clear h1 hb HC HX
  go_wp2_with fail
  (with_reducible refine (matrix_any w3).mono ?_)
  rintro e w4 ⟨⟨vm, rfl, hm⟩, hb⟩
  replace HB := Lib.hid (HB.out.trans (hb.mono HB.out.size))
  replace HT := Lib.hid (HT.out.step hb)
  replace H1 := Lib.hid (H1.out.step hb)
  have hc := Same_any vm sampleM 10 30 w4 hm sampleM_sm HT.out
  rw [aw3, aw4] at hc
  have HC := Lib.hid hc
  clear hc hm hb
  go_wp2_with fail
  (with_reducible refine HC.out.mono ?_)
  rintro e w5 ⟨⟨v3, rfl, h3, _⟩, hb⟩
  replace HB := Lib.hid (HB.out.trans (hb.mono HB.out.size))
  replace HT := Lib.hid (HT.out.step hb)
  replace H1 := Lib.hid (H1.out.step hb)
  have H3 := Lib.hid h3
  clear h3 hb HC
  go_wp2_with fail
  (with_reducible refine (matrix_any w5).mono ?_)
  rintro e w6 ⟨⟨vm, rfl, hm⟩, hb⟩
  replace HB := Lib.hid (HB.out.trans (hb.mono HB.out.size))
  replace HT := Lib.hid (HT.out.step hb)
  replace H1 := Lib.hid (H1.out.step hb)
  replace H3 := Lib.hid (H3.out.step hb)
  have hb := below_new (w := w6) (.cells #[.int .i64 3, .int .i64 7] 3)
  have hn := World.alloc_heap_new w6 (.cells #[.int .i64 3, .int .i64 7] 3)
  obtain ⟨w7, hX⟩ : ∃ Z, w6.alloc (.cells #[.int .i64 3, .int .i64 7] 3) = Z := ⟨_, rfl⟩
  rw [hX] at hb hn
  have HX := Lib.hid hX
  replace HB := Lib.hid (HB.out.trans (hb.mono HB.out.size))
  replace HT := Lib.hid (HT.out.step hb)
  replace H1 := Lib.hid (H1.out.step hb)
  replace H3 := Lib.hid (H3.out.step hb)
  have hc := Best_any vm (.slice (some ⟨w6.heap.size, 0, none⟩) 2 2) sampleM [3, 7] w7 (hm.step hb) sampleM_sm (ints_sl hn rfl (by omega) rfl (Array.getElem?_eq_some_iff.1 hn).1) (by simp)
  rw [aw5, aw6] at hc
  have HC := Lib.hid hc
  clear hc hm hb hn hX
  go_wp2_with fail
  rw [HX.out]
  (with_reducible refine HC.out.mono ?_)
  rintro e w8 ⟨rfl, hb⟩
  replace HB := Lib.hid (HB.out.trans (hb.mono HB.out.size))
  replace HT := Lib.hid (HT.out.step hb)
  replace H1 := Lib.hid (H1.out.step hb)
  replace H3 := Lib.hid (H3.out.step hb)
  clear hb HC HX
  go_wp2_with fail
  (with_reducible refine (matrix_any w8).mono ?_)
  rintro e w9 ⟨⟨vm, rfl, hm⟩, hb⟩
  replace HB := Lib.hid (HB.out.trans (hb.mono HB.out.size))
  replace HT := Lib.hid (HT.out.step hb)
  replace H1 := Lib.hid (H1.out.step hb)
  replace H3 := Lib.hid (H3.out.step hb)
  have HM := Lib.hid hm
  clear hm hb
  go_wp2_with fail
  (with_reducible refine (key_any w9).mono ?_)
  rintro e wa ⟨⟨vk, rfl, hk⟩, hb⟩
  replace HB := Lib.hid (HB.out.trans (hb.mono HB.out.size))
  replace HT := Lib.hid (HT.out.step hb)
  replace H1 := Lib.hid (H1.out.step hb)
  replace H3 := Lib.hid (H3.out.step hb)
  replace HM := Lib.hid (HM.out.step hb)
  have HK := Lib.hid hk.kyV
  clear hk hb
  have hb := below_new (w := wa) (.cells #[.int .i64 0, .int .i64 1] 3)
  have hn := World.alloc_heap_new wa (.cells #[.int .i64 0, .int .i64 1] 3)
  obtain ⟨wb, hX⟩ : ∃ Z, wa.alloc (.cells #[.int .i64 0, .int .i64 1] 3) = Z := ⟨_, rfl⟩
  rw [hX] at hb hn
  have HX := Lib.hid hX
  replace HB := Lib.hid (HB.out.trans (hb.mono HB.out.size))
  replace HT := Lib.hid (HT.out.step hb)
  replace H1 := Lib.hid (H1.out.step hb)
  replace H3 := Lib.hid (H3.out.step hb)
  replace HM := Lib.hid (HM.out.step hb)
  replace HK := Lib.hid (HK.out.step hb)
  have hc := Trace_any vm vk (.slice (some ⟨wa.heap.size, 0, none⟩) 2 2) sampleM sampleK [0, 1] wb HM.out sampleM_sm HK.out sampleK_sm (ints_sl hn rfl (by omega) rfl (Array.getElem?_eq_some_iff.1 hn).1) (by simp)
  rw [aw7, aw8] at hc
  have HC := Lib.hid hc
  clear hc hb hn hX HM HK
  go_wp2_with fail
  rw [HX.out]
  (with_reducible refine HC.out.mono ?_)
  rintro e wc ⟨⟨v7, rfl, h7⟩, hb⟩
  replace HB := Lib.hid (HB.out.trans (hb.mono HB.out.size))
  replace HT := Lib.hid (HT.out.step hb)
  replace H1 := Lib.hid (H1.out.step hb)
  replace H3 := Lib.hid (H3.out.step hb)
  have H7 := Lib.hid h7.1
  clear h7 hb HC HX
  go_wp2_with fail
  (with_reducible refine (matrix_any wc).mono ?_)
  rintro e wd ⟨⟨vm, rfl, hm⟩, hb⟩
  replace HB := Lib.hid (HB.out.trans (hb.mono HB.out.size))
  replace HT := Lib.hid (HT.out.step hb)
  replace H1 := Lib.hid (H1.out.step hb)
  replace H3 := Lib.hid (H3.out.step hb)
  replace H7 := Lib.hid (H7.out.step hb)
  have HM := Lib.hid hm
  clear hm hb
  go_wp2_with fail
  (with_reducible refine (key_any wd).mono ?_)
  rintro e we ⟨⟨vk, rfl, hk⟩, hb⟩
  replace HB := Lib.hid (HB.out.trans (hb.mono HB.out.size))
  replace HT := Lib.hid (HT.out.step hb)
  replace H1 := Lib.hid (H1.out.step hb)
  replace H3 := Lib.hid (H3.out.step hb)
  replace H7 := Lib.hid (H7.out.step hb)
  replace HM := Lib.hid (HM.out.step hb)
  have HK := Lib.hid hk.kyV
  clear hk hb
  have hc := Right_any vm vk sampleM sampleK we HM.out sampleM_sm HK.out sampleK_sm
  rw [aw9, awA] at hc
  have HC := Lib.hid hc
  clear hc HM HK
  go_wp2_with fail
  (with_reducible refine HC.out.mono ?_)
  rintro e wf ⟨rfl, hb⟩
  replace HB := Lib.hid (HB.out.trans (hb.mono HB.out.size))
  replace HT := Lib.hid (HT.out.step hb)
  replace H1 := Lib.hid (H1.out.step hb)
  replace H3 := Lib.hid (H3.out.step hb)
  replace H7 := Lib.hid (H7.out.step hb)
  clear hb HC
  go_wp2_with fail
  (with_reducible refine (matrix_any wf).mono ?_)
  rintro e wg ⟨⟨vm, rfl, hm⟩, hb⟩
  replace HB := Lib.hid (HB.out.trans (hb.mono HB.out.size))
  replace HT := Lib.hid (HT.out.step hb)
  replace H1 := Lib.hid (H1.out.step hb)
  replace H3 := Lib.hid (H3.out.step hb)
  replace H7 := Lib.hid (H7.out.step hb)
  have hc := Build_any vm sampleM wg hm sampleM_sm
  rw [awB, awC] at hc
  have HC := Lib.hid hc
  clear hc hm hb
  go_wp2_with fail
  (with_reducible refine HC.out.mono ?_)
  rintro e wh ⟨⟨vb, rfl, hvb⟩, hb⟩
  replace HB := Lib.hid (HB.out.trans (hb.mono HB.out.size))
  replace HT := Lib.hid (HT.out.step hb)
  replace H1 := Lib.hid (H1.out.step hb)
  replace H3 := Lib.hid (H3.out.step hb)
  replace H7 := Lib.hid (H7.out.step hb)
  clear hb HC
  have HKb := Lib.hid hvb
  obtain ⟨vb1, vb2, rfl, hi1, hi2⟩ := hvb
  obtain ⟨Ab1, cb1, rfl⟩ := hi1.form
  obtain ⟨Ab2, cb2, rfl⟩ := hi2.form
  clear hi1 hi2
  simp only [show wantK.nd.length = 2 from rfl, show wantK.lv.length = 4 from rfl] at HKb ⊢
  have hb := below_new (w := wh) (.cells #[.slice Ab1 2 cb1, .slice Ab2 4 cb2] 29)
  have hn := World.alloc_heap_new wh (.cells #[.slice Ab1 2 cb1, .slice Ab2 4 cb2] 29)
  obtain ⟨wi, hX⟩ : ∃ Z, wh.alloc (.cells #[.slice Ab1 2 cb1, .slice Ab2 4 cb2] 29) = Z := ⟨_, rfl⟩
  rw [hX] at hb hn
  have HX := Lib.hid hX
  replace HB := Lib.hid (HB.out.trans (hb.mono HB.out.size))
  replace HT := Lib.hid (HT.out.step hb)
  replace H1 := Lib.hid (H1.out.step hb)
  replace H3 := Lib.hid (H3.out.step hb)
  replace H7 := Lib.hid (H7.out.step hb)
  replace HKb := Lib.hid (HKb.out.step hb)
  have HN1 := Lib.hid hn
  clear hn hb hX
  go_wp2_with fail
  rw [HX.out]
  (with_reducible refine (key_any wi).mono ?_)
  rintro e wj ⟨⟨vk, rfl, hk⟩, hb⟩
  clear HX
  obtain ⟨vn, gl, va, vbb, vc, vd, rfl, hgl, hnd, hgc, ha, hbb, hcc, hdd⟩ := hk
  obtain ⟨An, cn, rfl⟩ := hnd.form
  simp only [show sampleK.nd.length = 2 from rfl] at hnd ⊢
  have hgj : gl < wj.heap.size := (Array.getElem?_eq_some_iff.1 hgc).1
  have hgl2 : ((wj.alloc (.cells #[.slice An 2 cn, .slice (some ⟨gl, 0, none⟩) 4 4] 29)).alloc (.cells #[.int .i64 10] 3)).heap[gl]? = some (.cells #[va, vbb, vc, vd] 22) := ((below_new (w := wj.alloc (.cells #[.slice An 2 cn, .slice (some ⟨gl, 0, none⟩) 4 4] 29)) (.cells #[.int .i64 10] 3)).block _ (by simp; omega)).trans (((below_new (w := wj) (.cells #[.slice An 2 cn, .slice (some ⟨gl, 0, none⟩) 4 4] 29)).block _ hgj).trans hgc)
  have k0 : ((wj.alloc (.cells #[.slice An 2 cn, .slice (some ⟨gl, 0, none⟩) 4 4] 29)).alloc (.cells #[.int .i64 10] 3)).cell? ⟨gl, 2, none⟩ = some vc := by simp only [World.cell?, hgl2]; rfl
  have f0 := frozen_cells hgl2 2
  obtain ⟨ws, hXs⟩ : ∃ Z, wj.setCell ⟨gl, 2, none⟩ (.slice (some ⟨wj.heap.size + 1, 0, none⟩) 1 1) = Z := ⟨_, rfl⟩
  have hgs : ws.heap[gl]? = some (.cells #[va, vbb, (.slice (some ⟨wj.heap.size + 1, 0, none⟩) 1 1), vd] 22) := by rw [← hXs]; exact heap_setCell_same wj gl 2 _ _ _ hgc
  have hbs : Below gl wj ws := by rw [← hXs]; exact Below.setCell (Below.refl gl wj) (p := ⟨gl, 2, none⟩) (Nat.le_refl gl) _
  have hzs : ws.heap.size = wj.heap.size := by rw [← hXs]; simp
  have hbk := below_new (w := ws) (.cells #[.slice An 2 cn, .slice (some ⟨gl, 0, none⟩) 4 4] 29)
  have hnk := World.alloc_heap_new ws (.cells #[.slice An 2 cn, .slice (some ⟨gl, 0, none⟩) 4 4] 29)
  obtain ⟨wk, hXk⟩ : ∃ Z, ws.alloc (.cells #[.slice An 2 cn, .slice (some ⟨gl, 0, none⟩) 4 4] 29) = Z := ⟨_, rfl⟩
  have hzk : wk.heap.size = wj.heap.size + 1 := by rw [← hXk]; simp [hzs]
  rw [hXk] at hbk hnk
  rw [hzs] at hnk
  have hbl := below_new (w := wk) (.cells #[.int .i64 10] 3)
  have hnl := World.alloc_heap_new wk (.cells #[.int .i64 10] 3)
  obtain ⟨wm, hXm⟩ : ∃ Z, wk.alloc (.cells #[.int .i64 10] 3) = Z := ⟨_, rfl⟩
  have hzm : wm.heap.size = wj.heap.size + 1 + 1 := by rw [← hXm]; simp [hzk]
  rw [hXm] at hbl hnl
  rw [hzk] at hnl
  have hBm : Below ws.heap.size ws wm := hbk.trans (hbl.mono hbk.size)
  have hgm := (hBm.block _ (by omega)).trans hgs
  have hBg : Below gl wj wm := hbs.trans (hBm.mono (by omega))
  have hbm : Below wi.heap.size wi wm := hb.trans (hBg.mono hgl)
  have hnk2 := (hbl.block _ (by omega)).trans hnk
  have hle : gl ≤ wm.heap.size := by omega
  have HKc := Lib.hid (show KyV wm (.agg #[.slice An 2 cn, .slice (some ⟨gl, 0, none⟩) 4 4]) badK from ⟨_, _, rfl, (hnd.below hBg).mono hle, four_lists hgm ((ha.below hBg).mono hle) ((hbb.below hBg).mono hle) (ints_sl hnl rfl (by omega) rfl (by omega)) ((hdd.below hBg).mono hle)⟩)
  have HN2 := Lib.hid hnk2
  replace HB := Lib.hid (HB.out.trans (hbm.mono HB.out.size))
  replace HT := Lib.hid (HT.out.step hbm)
  replace H1 := Lib.hid (H1.out.step hbm)
  replace H3 := Lib.hid (H3.out.step hbm)
  replace H7 := Lib.hid (H7.out.step hbm)
  replace HKb := Lib.hid (HKb.out.step hbm)
  replace HN1 := Lib.hid ((hbm.block _ (Array.getElem?_eq_some_iff.1 HN1.out).1).trans HN1.out)
  have HX := Lib.hid (And.intro hXs (And.intro hXk hXm))
  clear hb hnd hgc ha hbb hcc hdd hgl2 hgs hXs hbs hzs hbk hnk hXk hzk hbl hnl hXm hzm hBm hgm hBg hbm hnk2 hle
  go_wp2_with fail
  rw [HX.out.1, HX.out.2.1, HX.out.2.2]
  clear k0 f0 HX hgl hgj
  refine wp_opaque ?_
  intro t0 ht0
  have hsz0 : t0.size = 136 := by rw [ht0]; rfl
  have q13 : t0.getD 13 undef = .pointer (some ⟨wj.heap.size, 0, none⟩) := by rw [ht0]; rfl
  have HT0 := Lib.hid ht0
  clear ht0
  have HBd := Lib.hid (fun X (hI : Below wm.drew.heap.size wm.drew X) => (Below.refl wm.heap.size wm).drew.trans hI)
  have HY := Lib.hid (fun X (h : Below wm.heap.size wm X) => And.intro (HKc.out.step h) ((h.block _ (Array.getElem?_eq_some_iff.1 HN2.out).1).trans HN2.out))
  refine wp_region_vals [some 59, some 60, some 61, some 58, some 62, some 63, some 64, some 14, some 15, some 16] (AwI wm.drew (.agg #[.slice An 2 cn, .slice (some ⟨gl, 0, none⟩) 4 4])) (by kernel_rfl) (by kernel_rfl) rfl rfl (by simp [hsz0]) (by kernel_rfl) ?_ ?_ ?_
  · intro val
    exact ⟨(fun h => nomatch h), (fun h => nomatch h), (fun h => nomatch h), (fun h => nomatch h), (fun h => nomatch h), Below.refl _ _, (fun h => nomatch h), (fun h => nomatch h), (fun h => nomatch h), (fun h => nomatch h), (fun h => nomatch h)⟩
  · intro dn q o hi hd hp hc val X a ha hn hI K hK
    have hq : q < 10 := by
      have := (Array.getElem?_eq_some_iff.1 hi).1
      simpa using this
    have k2 : dn 2 = true → dn 0 = true ∧ dn 1 = true := fun h => ⟨hc 2 _ rfl h ⟨0, .data⟩ (by simp) rfl, hc 2 _ rfl h ⟨1, .data⟩ (by simp) rfl⟩
    have k3 : dn 3 = true → dn 2 = true := fun h => hc 3 _ rfl h ⟨2, .data⟩ (by simp) rfl
    have k5 : dn 5 = true → dn 3 = true := fun h => hc 5 _ rfl h ⟨3, .data⟩ (by simp) rfl
    have k8 : dn 8 = true → dn 5 = true := fun h => hc 8 _ rfl h ⟨5, .data⟩ (by simp) rfl
    have bf : ∀ {q : Bool}, (q = true → False) → q = false := fun {q} h => by cases q; rfl; exact (h rfl).elim
    have hB := HBd.out X hI.bel
    have t3 : dn 3 = true → ∃ x, val 3 = .tuple #[.int .i64 30, x, .int .i64 0] := fun h => by
      obtain ⟨h2, e⟩ := hI.e3 h
      obtain ⟨x, e2, _⟩ := hI.e2 h2
      exact ⟨x, e.trans e2⟩
    rcases (show q = 0 ∨ q = 1 ∨ q = 2 ∨ q = 3 ∨ q = 4 ∨ q = 5 ∨ q = 6 ∨ q = 7 ∨ q = 8 ∨ q = 9 by omega) with rfl | rfl | rfl | rfl | rfl | rfl | rfl | rfl | rfl | rfl
    · obtain rfl := Option.some.inj hi
      have n2 : dn 2 = false := bf fun h => f_t hd (k2 h).1
      refine opCallMx _ rfl (matrix_any X) ?_
      rintro e Y ⟨⟨v, rfl, hm⟩, hb⟩
      exact ⟨v, rfl, hK _ _ (hI.op0 n2 hm hb)⟩
    · obtain rfl := Option.some.inj hi
      exact opLdKey 13 _ _ _ rfl ((ha 13).trans q13) (HY.out X hB).2 (hK _ _ hI.op1)
    · obtain rfl := Option.some.inj hi
      have y0 := hp ⟨0, .data⟩ (by simp) rfl
      have y1 := hp ⟨1, .data⟩ (by simp) rfl
      have n3 : dn 3 = false := bf fun h => f_t hd (k3 h)
      have hcl := Wrong_any _ _ sampleM badK X (hI.e0 y0 hd) sampleM_sm (HY.out X hB).1 badK_sm
      rw [awD, awE, awF] at hcl
      refine opCallWr 59 60 _ _ _ rfl (ha 59) ((ha 60).trans (hI.s1 y1)) hcl ?_
      rintro e Y ⟨⟨x, rfl, hF⟩, hb⟩
      exact ⟨_, rfl, hK _ _ (hI.op2 n3 hF.1 hb)⟩
    · obtain rfl := Option.some.inj hi
      have y2 := hp ⟨2, .data⟩ (by simp) rfl
      exact opMove 61 _ rfl (ha 61) (hK _ _ (hI.op3 y2 (bf fun h => f_t hd (k5 h))))
    · obtain rfl := Option.some.inj hi
      obtain ⟨x, e⟩ := t3 (hp ⟨3, .data⟩ (by simp) rfl)
      exact opExT0 58 _ _ _ rfl ((ha 58).trans e) (hK _ _ hI.op4)
    · obtain rfl := Option.some.inj hi
      have y3 := hp ⟨3, .data⟩ (by simp) rfl
      obtain ⟨x, e⟩ := t3 y3
      exact opExT1 58 _ _ _ rfl ((ha 58).trans e) (hK _ _ (hI.op5 y3 (bf fun h => f_t hd (k8 h)) e))
    · obtain rfl := Option.some.inj hi
      obtain ⟨x, e⟩ := t3 (hp ⟨3, .data⟩ (by simp) rfl)
      exact opExT2 58 _ _ _ rfl ((ha 58).trans e) (hK _ _ hI.op6)
    · obtain rfl := Option.some.inj hi
      have y4 := hp ⟨4, .data⟩ (by simp) rfl
      exact opAssign 62 _ rfl ((ha 62).trans (hI.s4 y4)) (hK _ _ hI.op7)
    · obtain rfl := Option.some.inj hi
      have y5 := hp ⟨5, .data⟩ (by simp) rfl
      exact opAssign 63 _ rfl (ha 63) (hK _ _ (hI.op8 y5))
    · obtain rfl := Option.some.inj hi
      have y6 := hp ⟨6, .data⟩ (by simp) rfl
      exact opAssign 64 _ rfl ((ha 64).trans (hI.s6 y6)) (hK _ _ hI.op9)
  · intro dn val X hdn hI
    have h7 := hI.s7 (hdn 7 (by simp))
    have h9 := hI.s9 (hdn 9 (by simp))
    have h8 := (hI.e8 (hdn 8 (by simp))).2
    have hin : InSl X X.heap.size (val 5) [0, 1] := by
      obtain ⟨x, e2, hx⟩ := hI.e2 (hdn 2 (by simp))
      have e := (hI.e5 (hdn 5 (by simp))).2
      rw [(hI.e3 (hdn 3 (by simp))).2, e2] at e
      injection e with e
      have : x = val 5 := by simpa using e
      rwa [← this]
    have hb := HBd.out X hI.bel
    replace HB := Lib.hid (HB.out.trans (hb.mono HB.out.size))
    replace HT := Lib.hid (HT.out.step hb)
    replace H1 := Lib.hid (H1.out.step hb)
    replace H3 := Lib.hid (H3.out.step hb)
    replace H7 := Lib.hid (H7.out.step hb)
    replace HKb := Lib.hid (HKb.out.step hb)
    replace HN1 := Lib.hid ((hb.block _ (Array.getElem?_eq_some_iff.1 HN1.out).1).trans HN1.out)
    have HF := Lib.hid hin
    simp only [wrS, HT0.out]
    simp only [List.setIfInBounds_toArray, List.set_cons_succ, List.set_cons_zero]
    rw [h7, h8, h9]
    simp only [Exit.then]
    generalize val 5 = vf at *
    clear hdn hI h7 h8 h9 hb hin HT0 hsz0 q13 HBd HY HKc HN2
    obtain ⟨Y0, hX, hb, hkw, hnw, hn⟩ := want_chain X
    replace HB := Lib.hid (HB.out.trans (hb.mono HB.out.size))
    replace HT := Lib.hid (HT.out.step hb)
    replace H1 := Lib.hid (H1.out.step hb)
    replace H3 := Lib.hid (H3.out.step hb)
    replace H7 := Lib.hid (H7.out.step hb)
    replace HKb := Lib.hid (HKb.out.step hb)
    replace HN1 := Lib.hid ((hb.block _ (Array.getElem?_eq_some_iff.1 HN1.out).1).trans HN1.out)
    replace HF := Lib.hid (HF.out.step hb)
    have HKw := Lib.hid hkw
    have HN3 := Lib.hid hnw
    have HX := Lib.hid hX
    clear hkw hnw
    have hc := SameInts_any v1 (.slice (some ⟨X.heap.size + 1 + 1 + 1 + 1 + 1 + 1 + 1 + 1 + 1, 0, none⟩) 2 2) [10, 30] [10, 30] Y0 H1.out (ints_sl hn rfl (by omega) rfl (Array.getElem?_eq_some_iff.1 hn).1) (by simp) (by simp)
    rw [show decide (([10, 30] : List Int) = [10, 30]) = true from rfl] at hc
    have HC := Lib.hid hc
    clear hc hb hn hX
    go_wp2_with fail
    rw [HX.out]
    (with_reducible refine HC.out.mono ?_)
    rintro e Y1 ⟨rfl, hb⟩
    replace HB := Lib.hid (HB.out.trans (hb.mono HB.out.size))
    replace HT := Lib.hid (HT.out.step hb)
    replace H1 := Lib.hid (H1.out.step hb)
    replace H3 := Lib.hid (H3.out.step hb)
    replace H7 := Lib.hid (H7.out.step hb)
    replace HKb := Lib.hid (HKb.out.step hb)
    replace HN1 := Lib.hid ((hb.block _ (Array.getElem?_eq_some_iff.1 HN1.out).1).trans HN1.out)
    replace HF := Lib.hid (HF.out.step hb)
    replace HKw := Lib.hid (HKw.out.step hb)
    replace HN3 := Lib.hid ((hb.block _ (Array.getElem?_eq_some_iff.1 HN3.out).1).trans HN3.out)
    clear hb HC HX
    have hb := below_new (w := Y1) (.cells #[.int .i64 0, .int .i64 1] 3)
    have hn := World.alloc_heap_new Y1 (.cells #[.int .i64 0, .int .i64 1] 3)
    obtain ⟨Y2, hX⟩ : ∃ Z, Y1.alloc (.cells #[.int .i64 0, .int .i64 1] 3) = Z := ⟨_, rfl⟩
    rw [hX] at hb hn
    have HX := Lib.hid hX
    replace HB := Lib.hid (HB.out.trans (hb.mono HB.out.size))
    replace HT := Lib.hid (HT.out.step hb)
    replace H1 := Lib.hid (H1.out.step hb)
    replace H3 := Lib.hid (H3.out.step hb)
    replace H7 := Lib.hid (H7.out.step hb)
    replace HKb := Lib.hid (HKb.out.step hb)
    replace HN1 := Lib.hid ((hb.block _ (Array.getElem?_eq_some_iff.1 HN1.out).1).trans HN1.out)
    replace HF := Lib.hid (HF.out.step hb)
    replace HKw := Lib.hid (HKw.out.step hb)
    replace HN3 := Lib.hid ((hb.block _ (Array.getElem?_eq_some_iff.1 HN3.out).1).trans HN3.out)
    have hc := SameInts_any v3 (.slice (some ⟨Y1.heap.size, 0, none⟩) 2 2) [0, 1] [0, 1] Y2 H3.out (ints_sl hn rfl (by omega) rfl (Array.getElem?_eq_some_iff.1 hn).1) (by simp) (by simp)
    rw [show decide (([0, 1] : List Int) = [0, 1]) = true from rfl] at hc
    have HC := Lib.hid hc
    clear hc hb hn hX
    go_wp2_with fail
    rw [HX.out]
    (with_reducible refine HC.out.mono ?_)
    rintro e Y3 ⟨rfl, hb⟩
    replace HB := Lib.hid (HB.out.trans (hb.mono HB.out.size))
    replace HT := Lib.hid (HT.out.step hb)
    replace H1 := Lib.hid (H1.out.step hb)
    replace H3 := Lib.hid (H3.out.step hb)
    replace H7 := Lib.hid (H7.out.step hb)
    replace HKb := Lib.hid (HKb.out.step hb)
    replace HN1 := Lib.hid ((hb.block _ (Array.getElem?_eq_some_iff.1 HN1.out).1).trans HN1.out)
    replace HF := Lib.hid (HF.out.step hb)
    replace HKw := Lib.hid (HKw.out.step hb)
    replace HN3 := Lib.hid ((hb.block _ (Array.getElem?_eq_some_iff.1 HN3.out).1).trans HN3.out)
    clear hb HC HX
    have hb := below_new (w := Y3) (.cells #[.int .i64 0, .int .i64 1, .int .i64 (-3)] 3)
    have hn := World.alloc_heap_new Y3 (.cells #[.int .i64 0, .int .i64 1, .int .i64 (-3)] 3)
    obtain ⟨Y4, hX⟩ : ∃ Z, Y3.alloc (.cells #[.int .i64 0, .int .i64 1, .int .i64 (-3)] 3) = Z := ⟨_, rfl⟩
    rw [hX] at hb hn
    have HX := Lib.hid hX
    replace HB := Lib.hid (HB.out.trans (hb.mono HB.out.size))
    replace HT := Lib.hid (HT.out.step hb)
    replace H1 := Lib.hid (H1.out.step hb)
    replace H3 := Lib.hid (H3.out.step hb)
    replace H7 := Lib.hid (H7.out.step hb)
    replace HKb := Lib.hid (HKb.out.step hb)
    replace HN1 := Lib.hid ((hb.block _ (Array.getElem?_eq_some_iff.1 HN1.out).1).trans HN1.out)
    replace HF := Lib.hid (HF.out.step hb)
    replace HKw := Lib.hid (HKw.out.step hb)
    replace HN3 := Lib.hid ((hb.block _ (Array.getElem?_eq_some_iff.1 HN3.out).1).trans HN3.out)
    have hc := SameInts_any v7 (.slice (some ⟨Y3.heap.size, 0, none⟩) 3 3) [0, 1, -3] [0, 1, -3] Y4 H7.out (ints_sl hn rfl (by omega) rfl (Array.getElem?_eq_some_iff.1 hn).1) (by simp) (by simp)
    rw [show decide (([0, 1, -3] : List Int) = [0, 1, -3]) = true from rfl] at hc
    have HC := Lib.hid hc
    clear hc hb hn hX
    go_wp2_with fail
    rw [HX.out]
    (with_reducible refine HC.out.mono ?_)
    rintro e Y5 ⟨rfl, hb⟩
    replace HB := Lib.hid (HB.out.trans (hb.mono HB.out.size))
    replace HT := Lib.hid (HT.out.step hb)
    replace H1 := Lib.hid (H1.out.step hb)
    replace H3 := Lib.hid (H3.out.step hb)
    replace H7 := Lib.hid (H7.out.step hb)
    replace HKb := Lib.hid (HKb.out.step hb)
    replace HN1 := Lib.hid ((hb.block _ (Array.getElem?_eq_some_iff.1 HN1.out).1).trans HN1.out)
    replace HF := Lib.hid (HF.out.step hb)
    replace HKw := Lib.hid (HKw.out.step hb)
    replace HN3 := Lib.hid ((hb.block _ (Array.getElem?_eq_some_iff.1 HN3.out).1).trans HN3.out)
    clear hb HC HX
    have HC := Lib.hid (SameKeyT_any _ _ wantK Y5 HKb.out HKw.out wantK_sm)
    obtain ⟨k0, k1⟩ := cells_two HN1.out
    obtain ⟨l0, l1⟩ := cells_two HN3.out
    go_wp2_with fail
    (with_reducible refine HC.out.mono ?_)
    rintro e Y6 ⟨rfl, hb⟩
    replace HB := Lib.hid (HB.out.trans (hb.mono HB.out.size))
    replace HT := Lib.hid (HT.out.step hb)
    replace H1 := Lib.hid (H1.out.step hb)
    replace H3 := Lib.hid (H3.out.step hb)
    replace H7 := Lib.hid (H7.out.step hb)
    replace HKb := Lib.hid (HKb.out.step hb)
    replace HN1 := Lib.hid ((hb.block _ (Array.getElem?_eq_some_iff.1 HN1.out).1).trans HN1.out)
    replace HF := Lib.hid (HF.out.step hb)
    replace HKw := Lib.hid (HKw.out.step hb)
    replace HN3 := Lib.hid ((hb.block _ (Array.getElem?_eq_some_iff.1 HN3.out).1).trans HN3.out)
    clear hb HC k0 k1 l0 l1
    have hb := below_new (w := Y6) (.cells #[.int .i64 0, .int .i64 1] 3)
    have hn := World.alloc_heap_new Y6 (.cells #[.int .i64 0, .int .i64 1] 3)
    obtain ⟨Y7, hX⟩ : ∃ Z, Y6.alloc (.cells #[.int .i64 0, .int .i64 1] 3) = Z := ⟨_, rfl⟩
    rw [hX] at hb hn
    have HX := Lib.hid hX
    replace HB := Lib.hid (HB.out.trans (hb.mono HB.out.size))
    replace HT := Lib.hid (HT.out.step hb)
    replace H1 := Lib.hid (H1.out.step hb)
    replace H3 := Lib.hid (H3.out.step hb)
    replace H7 := Lib.hid (H7.out.step hb)
    replace HKb := Lib.hid (HKb.out.step hb)
    replace HN1 := Lib.hid ((hb.block _ (Array.getElem?_eq_some_iff.1 HN1.out).1).trans HN1.out)
    replace HF := Lib.hid (HF.out.step hb)
    replace HKw := Lib.hid (HKw.out.step hb)
    replace HN3 := Lib.hid ((hb.block _ (Array.getElem?_eq_some_iff.1 HN3.out).1).trans HN3.out)
    have hc := SameInts_any vf (.slice (some ⟨Y6.heap.size, 0, none⟩) 2 2) [0, 1] [0, 1] Y7 HF.out (ints_sl hn rfl (by omega) rfl (Array.getElem?_eq_some_iff.1 hn).1) (by simp) (by simp)
    rw [show decide (([0, 1] : List Int) = [0, 1]) = true from rfl] at hc
    have HC := Lib.hid hc
    clear hc hb hn hX
    go_wp2_with fail
    rw [HX.out]
    (with_reducible refine HC.out.mono ?_)
    rintro e Y8 ⟨rfl, hb⟩
    replace HB := Lib.hid (HB.out.trans (hb.mono HB.out.size))
    replace HT := Lib.hid (HT.out.step hb)
    replace H1 := Lib.hid (H1.out.step hb)
    replace H3 := Lib.hid (H3.out.step hb)
    replace H7 := Lib.hid (H7.out.step hb)
    replace HKb := Lib.hid (HKb.out.step hb)
    replace HN1 := Lib.hid ((hb.block _ (Array.getElem?_eq_some_iff.1 HN1.out).1).trans HN1.out)
    replace HF := Lib.hid (HF.out.step hb)
    replace HKw := Lib.hid (HKw.out.step hb)
    replace HN3 := Lib.hid ((hb.block _ (Array.getElem?_eq_some_iff.1 HN3.out).1).trans HN3.out)
    clear hb HC HX
    (try go_wp2_with fail)
    go_ret
    exact ⟨rfl, HB.out⟩
end Go.Proofs.YthfegbcbpeedbaaGreatDoor
namespace Go.Proofs.YthfegbcbpeedbaaGreatDoor
open Go.RowKit Go.Nm Go.Ky

def AskV (w : World) (u : Value) (l1 l2 l3 : List Int) (a b c : Int) : Prop := ∃ v1 v2 v3, u = .agg #[v1, v2, v3, .int .i64 a, .int .i64 b, .int .i64 c] ∧ InSl w w.heap.size v1 l1 ∧ InSl w w.heap.size v2 l2 ∧ InSl w w.heap.size v3 l3
theorem AskV.step {w w' : World} {u : Value} {l1 l2 l3 : List Int} {a b c : Int} (h : AskV w u l1 l2 l3 a b c) (hb : Below w.heap.size w w') : AskV w' u l1 l2 l3 a b c := by
  obtain ⟨v1, v2, v3, e, h1, h2, h3⟩ := h
  exact ⟨v1, v2, v3, e, h1.step hb, h2.step hb, h3.step hb⟩
theorem cells_six {w : World} {g : Nat} {v0 v1 v2 v3 v4 v5 : Value} {t : TypeId} (h : w.heap[g]? = some (.cells #[v0, v1, v2, v3, v4, v5] t)) : w.cell? ⟨g, 0, none⟩ = some v0 ∧ w.cell? ⟨g, 1, none⟩ = some v1 ∧ w.cell? ⟨g, 2, none⟩ = some v2 ∧ w.cell? ⟨g, 3, none⟩ = some v3 ∧ w.cell? ⟨g, 4, none⟩ = some v4 ∧ w.cell? ⟨g, 5, none⟩ = some v5 := by
  simp [World.cell?, h]
theorem few_sm {m : Mx} (h : fewF m = true) : MSm m := by
  unfold fewF at h
  rw [Bool.and_eq_true, Bool.not_eq_true', decide_eq_false_iff_not] at h
  exact ⟨by omega, by omega, fun r hr => by have := of_decide_eq_true ((List.all_eq_true.1 h.2) r hr); omega⟩
end Go.Proofs.YthfegbcbpeedbaaGreatDoor
