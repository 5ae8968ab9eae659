/- Copies of lines and sheets: the program. -/
import Derived.Test.YtijidcigfdblaaaGreatDoorShI
namespace Go.Proofs.YtijidcigfdblaaaGreatDoor
open Go.RowKit Go.Nm Go.Sh Go.Plc

/-- four cells written at once -/
def put4 (w : World) (g : Nat) (a b c d : Value) : World := (((w.setCell ⟨g, 0, none⟩ a).setCell ⟨g, 1, none⟩ b).setCell ⟨g, 2, none⟩ c).setCell ⟨g, 3, none⟩ d
theorem put4_heap {w : World} {g : Nat} {u0 u1 u2 u3 : Value} {t : TypeId} (h : w.heap[g]? = some (.cells #[u0, u1, u2, u3] t)) (a b c d : Value) : (put4 w g a b c d).heap[g]? = some (.cells #[a, b, c, d] t) := by
  unfold put4
  rw [put_cell (put_cell (put_cell (put_cell h)))]; rfl
theorem put4_other {w : World} {g k : Nat} (h : k ≠ g) (a b c d : Value) : (put4 w g a b c d).heap[k]? = w.heap[k]? := by
  unfold put4
  rw [put_other h, put_other h, put_other h, put_other h]
theorem put4_size (w : World) (g : Nat) (a b c d : Value) : (put4 w g a b c d).heap.size = w.heap.size := by
  have h : ∀ (w : World) (k : Nat) (v : Value), (w.setCell ⟨g, k, none⟩ v).heap.size = w.heap.size := fun w k v => by simp [World.setCell]
  unfold put4
  rw [h, h, h, h]
theorem put4_below {w0 w : World} {g : Nat} {n : Nat} (h : Below n w0 w) (hg : n ≤ g) (a b c d : Value) : Below n w0 (put4 w g a b c d) := by
  unfold put4
  exact (((h.setCell hg _).setCell hg _).setCell hg _).setCell hg _
theorem cells_four {w : World} {g : Nat} {a b c d : Value} {t : TypeId} (h : w.heap[g]? = some (.cells #[a, b, c, d] t)) : w.cell? ⟨g, 0, none⟩ = some a ∧ w.cell? ⟨g, 1, none⟩ = some b ∧ w.cell? ⟨g, 2, none⟩ = some c ∧ w.cell? ⟨g, 3, none⟩ = some d := by
  refine ⟨?_, ?_, ?_, ?_⟩ <;> simp [World.cell?, h]
theorem InSl.put4 {w : World} {v : Value} {L : List Int} {g : Nat} (h : InSl w w.heap.size v L) (hg : ∀ k, v.ownBlock = some k → k ≠ g) (a b c d : Value) : InSl (put4 w g a b c d) (put4 w g a b c d).heap.size v L := by
  rw [put4_size]
  exact h.keepOwn fun p hp => World.cell?_of_block (put4_other (hg _ hp) a b c d)
section
variable {o : Oper} {a : Act} {w : World} {K : Act → World → Prop} {Q : Exit → Act → World → Prop}
set_option maxRecDepth 100000 in
theorem opFieldLn (k f : Nat) (q g : Nat) (hk : (k, f) = (0, 0) ∨ (k, f) = (1, 1) ∨ (k, f) = (2, 3)) (ho : o.op = .fieldAddr 83 (.tmp q) k) (hq : a.tmps.getD q undef = .pointer (some ⟨g, 0, none⟩)) (h : K (a.put o.dst (.pointer (some ⟨g, f, none⟩))) w) : o.wp Tryz.prog a w K Q := by
  unfold Oper.wp execOp
  have he : a.eval (.tmp q) = .pointer (some ⟨g, 0, none⟩) := hq
  simp only [ho, he]
  rcases hk with e | e | e <;> (injection e with e1 e2; subst e1; subst e2; go_simp; exact h)
theorem opLdSpan (q : Nat) (ad : Addr) (x y : Value) (ho : o.op = .load 25 (.tmp q)) (hq : a.tmps.getD q undef = .pointer (some ⟨ad.block, ad.off, none⟩)) (c0 : w.cell? ⟨ad.block, ad.off, none⟩ = some x) (c1 : w.cell? ⟨ad.block, ad.off + 1, none⟩ = some y) (h : K (a.put o.dst (.agg #[x, y])) w) : o.wp Tryz.prog a w K Q := by
  unfold Oper.wp execOp
  have he : a.eval (.tmp q) = .pointer (some ⟨ad.block, ad.off, none⟩) := hq
  simp only [ho, he]
  go_simp
  exact h
theorem opBuildLn (q r s : Nat) (x y z u : Value) (ho : o.op = .build 83 #[(0, .tmp q), (1, .tmp r), (2, .tmp s)]) (hq : a.tmps.getD q undef = x) (hr : a.tmps.getD r undef = .agg #[y, z]) (hs : a.tmps.getD s undef = u) (hx : ∃ n, x = .int .i64 n) (hu : ∃ A n c, u = .slice A n c) (h : K (a.put o.dst (.agg #[x, y, z, u])) w) : o.wp Tryz.prog a w K Q := by
  unfold Oper.wp execOp
  obtain ⟨n, rfl⟩ := hx
  obtain ⟨A, m, c, rfl⟩ := hu
  have he : a.tmps[q]?.getD undef = .int .i64 n := by rw [← hq, Array.getD_eq_getD_getElem?]
  have hf : a.tmps[r]?.getD undef = .agg #[y, z] := by rw [← hr, Array.getD_eq_getD_getElem?]
  have hg : a.tmps[s]?.getD undef = .slice A m c := by rw [← hs, Array.getD_eq_getD_getElem?]
  simp only [ho]
  go_simp
  exact h
theorem opStoreLn (q r g : Nat) (x y z : Int) (u u0 u1 u2 u3 : Value) (ho : o.op = .store 83 (.tmp q) (.tmp r)) (hq : a.tmps.getD q undef = .pointer (some ⟨g, 0, none⟩)) (hr : a.tmps.getD r undef = .agg #[.int .i64 x, .int .i64 y, .int .i64 z, u]) (hu : ∃ A n c, u = .slice A n c) (hg : w.heap[g]? = some (.cells #[u0, u1, u2, u3] 83)) (h : K (a.put o.dst undef) (put4 w g (.int .i64 x) (.int .i64 y) (.int .i64 z) u)) : o.wp Tryz.prog a w K Q := by
  unfold Oper.wp execOp
  obtain ⟨A, n, c, rfl⟩ := hu
  have he : a.eval (.tmp q) = .pointer (some ⟨g, 0, none⟩) := hq
  have hf : a.eval (.tmp r) = .agg #[.int .i64 x, .int .i64 y, .int .i64 z, .slice A n c] := hr
  obtain ⟨c0, c1, c2, c3⟩ := cells_four hg
  have f0 := frozen_cells hg 0
  have f1 := frozen_cells hg 1
  have f2 := frozen_cells hg 2
  have f3 := frozen_cells hg 3
  unfold put4 at h
  simp only [ho, he, hf]
  go_simp
  (try exact h)
end
section
variable {o : Oper} {a : Act} {w : World} {K : Act → World → Prop} {Q : Exit → Act → World → Prop}
theorem opCall1 (f : FuncId) (ty : Array TypeId) (q : Nat) (v1 : Value) (R : Ending → World → Prop) (ho : o.op = .call { callee := .value (.func f), args := #[.tmp q], argTypes := ty }) (h1 : a.tmps.getD q undef = v1)
    (hin : (callFunc f #[v1]).run Tryz.prog w = .ok (.enter f #[v1]) w) (hc : Calls Tryz.prog f #[v1] w R) (h : ∀ e w', R e w' → ∃ v, e = .returned v ∧ K (a.put o.dst v) w') : o.wp Tryz.prog a w K Q := by
  unfold Oper.wp execOp
  have e1 : a.eval (.tmp q) = v1 := h1
  simp only [ho]
  go_simp
  refine hc.mono ?_
  intro e w' hR
  obtain ⟨v, rfl, hK⟩ := h e w' hR
  exact hK
set_option maxRecDepth 100000 in
theorem opCall2 (f : FuncId) (ty : Array TypeId) (q r : Nat) (v1 v2 : Value) (R : Ending → World → Prop) (ho : o.op = .call { callee := .value (.func f), args := #[.tmp q, .tmp r], argTypes := ty }) (h1 : a.tmps.getD q undef = v1) (h2 : a.tmps.getD r undef = v2)
    (hin : (callFunc f #[v1, v2]).run Tryz.prog w = .ok (.enter f #[v1, v2]) w) (hc : Calls Tryz.prog f #[v1, v2] w R) (h : ∀ e w', R e w' → ∃ v, e = .returned v ∧ K (a.put o.dst v) w') : o.wp Tryz.prog a w K Q := by
  unfold Oper.wp execOp
  have e1 : a.eval (.tmp q) = v1 := h1
  have e2 : a.eval (.tmp r) = v2 := h2
  simp only [ho]
  go_simp
  refine hc.mono ?_
  intro e w' hR
  obtain ⟨v, rfl, hK⟩ := h e w' hR
  exact hK
set_option maxRecDepth 100000 in
theorem opCall3 (f : FuncId) (ty : Array TypeId) (q r s : Nat) (v1 v2 v3 : Value) (R : Ending → World → Prop) (ho : o.op = .call { callee := .value (.func f), args := #[.tmp q, .tmp r, .tmp s], argTypes := ty }) (h1 : a.tmps.getD q undef = v1) (h2 : a.tmps.getD r undef = v2) (h3 : a.tmps.getD s undef = v3)
    (hin : (callFunc f #[v1, v2, v3]).run Tryz.prog w = .ok (.enter f #[v1, v2, v3]) w) (hc : Calls Tryz.prog f #[v1, v2, v3] w R) (h : ∀ e w', R e w' → ∃ v, e = .returned v ∧ K (a.put o.dst v) w') : o.wp Tryz.prog a w K Q := by
  unfold Oper.wp execOp
  have e1 : a.eval (.tmp q) = v1 := h1
  have e2 : a.eval (.tmp r) = v2 := h2
  have e3 : a.eval (.tmp s) = v3 := h3
  simp only [ho]
  go_simp
  refine hc.mono ?_
  intro e w' hR
  obtain ⟨v, rfl, hK⟩ := h e w' hR
  exact hK
end
structure ClI (V : World) (F : World → Prop) (g g1 : Nat) (nm lo hi : Int) (vs : Value) (sn : List Int) (dn : Nat → Bool) (val : Nat → Value) (X : World) : Prop where
  bel : dn 8 = false → Below V.heap.size V X
  s0 : dn 0 = true → val 0 = .pointer (some ⟨g, 0, none⟩)
  s1 : dn 1 = true → val 1 = .int .i64 nm
  s2 : dn 2 = true → val 2 = .pointer (some ⟨g, 1, none⟩)
  s3 : dn 3 = true → val 3 = .agg #[.int .i64 lo, .int .i64 hi]
  s4 : dn 4 = true → val 4 = .pointer (some ⟨g, 3, none⟩)
  s5 : dn 5 = true → val 5 = vs
  s6 : dn 6 = true → dn 8 = false → InSl X X.heap.size (val 6) sn ∧ ∀ g, Value.ownBlock (val 6) = some g → V.heap.size ≤ g ∧ g < X.heap.size
  s7 : dn 7 = true → dn 8 = false → ∃ r, (val 7) = .agg #[.int .i64 nm, .int .i64 lo, .int .i64 hi, r] ∧ InSl X X.heap.size r sn ∧ ∀ g, r.ownBlock = some g → V.heap.size ≤ g ∧ g < X.heap.size
  eZ : dn 8 = true → F X
section
variable {V : World} {F : World → Prop} {g g1 : Nat} {nm lo hi : Int} {vs : Value} {sn : List Int} {dn : Nat → Bool} {val : Nat → Value} {X Y : World}
theorem ClI.op0 (h : ClI V F g g1 nm lo hi vs sn dn val X) : ClI V F g g1 nm lo hi vs sn (andB dn 0) (updV val 0 (.pointer (some ⟨g, 0, none⟩))) X :=
  ⟨h.bel, (fun _ => rfl), h.s1, h.s2, h.s3, h.s4, h.s5, h.s6, h.s7, h.eZ⟩
theorem ClI.op1 (h : ClI V F g g1 nm lo hi vs sn dn val X) : ClI V F g g1 nm lo hi vs sn (andB dn 1) (updV val 1 (.int .i64 nm)) X :=
  ⟨h.bel, h.s0, (fun _ => rfl), h.s2, h.s3, h.s4, h.s5, h.s6, h.s7, h.eZ⟩
theorem ClI.op2 (h : ClI V F g g1 nm lo hi vs sn dn val X) : ClI V F g g1 nm lo hi vs sn (andB dn 2) (updV val 2 (.pointer (some ⟨g, 1, none⟩))) X :=
  ⟨h.bel, h.s0, h.s1, (fun _ => rfl), h.s3, h.s4, h.s5, h.s6, h.s7, h.eZ⟩
theorem ClI.op3 (h : ClI V F g g1 nm lo hi vs sn dn val X) : ClI V F g g1 nm lo hi vs sn (andB dn 3) (updV val 3 (.agg #[.int .i64 lo, .int .i64 hi])) X :=
  ⟨h.bel, h.s0, h.s1, h.s2, (fun _ => rfl), h.s4, h.s5, h.s6, h.s7, h.eZ⟩
theorem ClI.op4 (h : ClI V F g g1 nm lo hi vs sn dn val X) : ClI V F g g1 nm lo hi vs sn (andB dn 4) (updV val 4 (.pointer (some ⟨g, 3, none⟩))) X :=
  ⟨h.bel, h.s0, h.s1, h.s2, h.s3, (fun _ => rfl), h.s5, h.s6, h.s7, h.eZ⟩
theorem ClI.op5 (h : ClI V F g g1 nm lo hi vs sn dn val X) : ClI V F g g1 nm lo hi vs sn (andB dn 5) (updV val 5 (vs)) X :=
  ⟨h.bel, h.s0, h.s1, h.s2, h.s3, h.s4, (fun _ => rfl), h.s6, h.s7, h.eZ⟩
theorem ClI.op6 (h : ClI V F g g1 nm lo hi vs sn dn val X) (nZ : dn 8 = false) {v : Value} (hv : InSl Y Y.heap.size v sn ∧ ∀ g, Value.ownBlock v = some g → V.heap.size ≤ g ∧ g < Y.heap.size) (hb : Below X.heap.size X Y) : ClI V F g g1 nm lo hi vs sn (andB dn 6) (updV val 6 (v)) Y :=
  ⟨(fun n => (h.bel n).trans (hb.mono (h.bel n).size)), h.s0, h.s1, h.s2, h.s3, h.s4, h.s5, (fun _ _ => hv), (fun d n => (by obtain ⟨r, e, h1, h2⟩ := (h.s7 d n); exact ⟨r, e, h1.step hb, fun g e => ⟨(h2 g e).1, Nat.lt_of_lt_of_le (h2 g e).2 hb.size⟩⟩)), (fun d => f_t nZ d)⟩
theorem ClI.op7 (h : ClI V F g g1 nm lo hi vs sn dn val X) {v : Value} (hv : ∃ r, v = .agg #[.int .i64 nm, .int .i64 lo, .int .i64 hi, r] ∧ InSl X X.heap.size r sn ∧ ∀ g, r.ownBlock = some g → V.heap.size ≤ g ∧ g < X.heap.size) : ClI V F g g1 nm lo hi vs sn (andB dn 7) (updV val 7 v) X :=
  ⟨h.bel, h.s0, h.s1, h.s2, h.s3, h.s4, h.s5, h.s6, (fun _ _ => hv), h.eZ⟩
theorem ClI.op8 (h : ClI V F g g1 nm lo hi vs sn dn val X) (v : Value) (hF : F Y) : ClI V F g g1 nm lo hi vs sn (andB dn 8) (updV val 8 v) Y :=
  ⟨(fun n => nomatch n), h.s0, h.s1, h.s2, h.s3, h.s4, h.s5, (fun _ n => nomatch n), (fun _ n => nomatch n), (fun _ => hF)⟩
end
set_option maxRecDepth 100000 in
set_option maxHeartbeats 8000000 in
theorem copyOfLine_any (x : Ln) (vs : Value) (w : World) (hv : InSl w w.heap.size vs x.sn) (hl : x.sn.length ≤ 1000000) : Calls Tryz.prog 152 #[lnV x vs] w fun e w' => (∃ r, e = .returned (lnV x r) ∧ InSl w' w'.heap.size r x.sn ∧ ∀ g, r.ownBlock = some g → w.heap.size ≤ g ∧ g < w'.heap.size) ∧ Below w.heap.size w w' := by
  obtain ⟨As, cs, W0, rfl, hW0, hb0, hz0, hY⟩ := ln_box hv
  have hb1 := below_new (w := W0) (.cells #[.int .i64 0, .int .i64 0, .int .i64 0, .slice none 0 0] 83)
  have hn1 := World.alloc_heap_new W0 (.cells #[.int .i64 0, .int .i64 0, .int .i64 0, .slice none 0 0] 83)
  obtain ⟨W1, hW1⟩ : ∃ W, W0.alloc (.cells #[.int .i64 0, .int .i64 0, .int .i64 0, .slice none 0 0] 83) = W := ⟨_, rfl⟩
  have hz1 : W1.heap.size = w.heap.size + 1 + 1 := by rw [← hW1]; simp [hz0]
  rw [hW1] at hb1 hn1
  rw [hz0] at hn1
  have HB1 := Lib.hid (hb0.trans (hb1.mono hb0.size))
  have HCl := Lib.hid (fun X (h : Below W1.heap.size W1 X) => show X.cell? ⟨w.heap.size, 0, none⟩ = some (.int .i64 x.nm) ∧ X.cell? ⟨w.heap.size, 1, none⟩ = some (.int .i64 x.lo) ∧ X.cell? ⟨w.heap.size, 1 + 1, none⟩ = some (.int .i64 x.hi) ∧ X.cell? ⟨w.heap.size, 3, none⟩ = some (.slice As x.sn.length cs) from by
    obtain ⟨⟨c0, c1, c2, c3⟩, _⟩ := hY X (hb1.trans (h.mono hb1.size))
    exact ⟨c0, by simpa using c1, by simpa using c2, by simpa using c3⟩)
  have HCn := Lib.hid (fun X (h : Below W1.heap.size W1 X) => clone_any (.slice As x.sn.length cs) x.sn X (hY X (hb1.trans (h.mono hb1.size))).2 hl)
  have HRs := Lib.hid (fun X (h : Below W1.heap.size W1 X) => show X.heap[w.heap.size + 1]? = some (.cells #[.int .i64 0, .int .i64 0, .int .i64 0, .slice none 0 0] 83) from (h.block _ (by omega)).trans hn1)
  have HZ := Lib.hid (And.intro hz0 hz1)
  have HFin := Lib.hid (fun X (h : Below W1.heap.size W1 X) (r : Value) (h1 : InSl X X.heap.size r x.sn) (h2 : ∀ g, r.ownBlock = some g → W1.heap.size ≤ g ∧ g < X.heap.size) => show (∃ r', (put4 X (w.heap.size + 1) (.int .i64 x.nm) (.int .i64 x.lo) (.int .i64 x.hi) r).heap[w.heap.size + 1]? = some (.cells #[.int .i64 x.nm, .int .i64 x.lo, .int .i64 x.hi, r'] 83) ∧ InSl (put4 X (w.heap.size + 1) (.int .i64 x.nm) (.int .i64 x.lo) (.int .i64 x.hi) r) (put4 X (w.heap.size + 1) (.int .i64 x.nm) (.int .i64 x.lo) (.int .i64 x.hi) r).heap.size r' x.sn ∧ ∀ g, r'.ownBlock = some g → w.heap.size ≤ g ∧ g < (put4 X (w.heap.size + 1) (.int .i64 x.nm) (.int .i64 x.lo) (.int .i64 x.hi) r).heap.size) ∧ Below w.heap.size w (put4 X (w.heap.size + 1) (.int .i64 x.nm) (.int .i64 x.lo) (.int .i64 x.hi) r) from
    ⟨⟨r, put4_heap ((h.block _ (by omega)).trans hn1) _ _ _ _, InSl.put4 h1 (fun k e => by have := (h2 k e).1; omega) _ _ _ _, fun g e => by rw [put4_size]; have := h2 g e; omega⟩, put4_below (HB1.out.trans (h.mono HB1.out.size)) (by omega) _ _ _ _⟩)
  unfold lnV
  obtain ⟨n, hn⟩ : ∃ n, x.sn.length = n := ⟨_, rfl⟩
  rw [hn] at HCl HCn hW0
  rw [hn]
  clear hv hl hb0 hY hb1 hn1 hz1 hn
  go_enter Tryz.func152, Tryz.ntmps152
  go_wp2_with fail
  refine wp_opaque ?_
  intro t0 ht0
  have hsz0 : t0.size = 11 := by rw [ht0]; rfl
  have q1 : t0.getD 1 undef = .pointer (some ⟨w.heap.size, 0, none⟩) := by rw [ht0]; rfl
  have q2 : t0.getD 2 undef = .pointer (some ⟨w.heap.size + 1, 0, none⟩) := by rw [ht0]; rfl
  have HT0 := Lib.hid ht0
  clear ht0
  have HBd := Lib.hid (fun X (hI : Below W1.drew.heap.size W1.drew X) => (Below.refl W1.heap.size W1).drew.trans hI)
  refine wp_region_vals [some 3, some 4, some 5, some 6, some 7, some 8, some 9, some 10, none] (ClI W1.drew (fun X => (∃ r, X.heap[w.heap.size + 1]? = some (.cells #[.int .i64 x.nm, .int .i64 x.lo, .int .i64 x.hi, r] 83) ∧ InSl X X.heap.size r x.sn ∧ ∀ g, r.ownBlock = some g → w.heap.size ≤ g ∧ g < X.heap.size) ∧ Below w.heap.size w X) w.heap.size (w.heap.size + 1) x.nm x.lo x.hi (.slice As n cs) x.sn) (by kernel_rfl) (by kernel_rfl) rfl rfl (by simp [hsz0]) (by kernel_rfl) ?_ ?_ ?_
  · intro val
    exact ⟨fun _ => Below.refl _ _, (fun h => nomatch h), (fun h => nomatch h), (fun h => nomatch h), (fun h => nomatch h), (fun h => nomatch h), (fun h => nomatch h), (fun h => nomatch h), (fun h => nomatch h), (fun h => nomatch h)⟩
  · intro dn qq o hi hd hp hc val X a ha hn' hI K hK
    have hq : qq < 9 := by
      have := (Array.getElem?_eq_some_iff.1 hi).1
      simpa using this
    have bf : ∀ {q : Bool}, (q = true → False) → q = false := fun {q} h => by cases q; rfl; exact (h rfl).elim
    rcases (show qq = 0 ∨ qq = 1 ∨ qq = 2 ∨ qq = 3 ∨ qq = 4 ∨ qq = 5 ∨ qq = 6 ∨ qq = 7 ∨ qq = 8 by omega) with rfl | rfl | rfl | rfl | rfl | rfl | rfl | rfl | rfl
    · obtain rfl := Option.some.inj hi
      have nZ : dn 8 = false := bf fun h => f_t hd (hc 1 _ rfl (hc 7 _ rfl (hc 8 _ rfl h ⟨7, .data⟩ (by simp) rfl) ⟨1, .data⟩ (by simp) rfl) ⟨0, .data⟩ (by simp) rfl)
      have hB := HBd.out X (hI.bel nZ)
      exact opFieldLn 0 0 1 _ (.inl rfl) rfl ((ha 1).trans q1) (hK _ _ hI.op0)
    · obtain rfl := Option.some.inj hi
      have nZ : dn 8 = false := bf fun h => f_t hd (hc 7 _ rfl (hc 8 _ rfl h ⟨7, .data⟩ (by simp) rfl) ⟨1, .data⟩ (by simp) rfl)
      have hB := HBd.out X (hI.bel nZ)
      have y0 := hI.s0 (hp ⟨0, .data⟩ (by simp) rfl)
      exact opLd 3 _ _ rfl ((ha 3).trans y0) (HCl.out X hB).1 (hK _ _ hI.op1)
    · obtain rfl := Option.some.inj hi
      have nZ : dn 8 = false := bf fun h => f_t hd (hc 3 _ rfl (hc 7 _ rfl (hc 8 _ rfl h ⟨7, .data⟩ (by simp) rfl) ⟨3, .data⟩ (by simp) rfl) ⟨2, .data⟩ (by simp) rfl)
      have hB := HBd.out X (hI.bel nZ)
      exact opFieldLn 1 1 1 _ (.inr (.inl rfl)) rfl ((ha 1).trans q1) (hK _ _ hI.op2)
    · obtain rfl := Option.some.inj hi
      have nZ : dn 8 = false := bf fun h => f_t hd (hc 7 _ rfl (hc 8 _ rfl h ⟨7, .data⟩ (by simp) rfl) ⟨3, .data⟩ (by simp) rfl)
      have hB := HBd.out X (hI.bel nZ)
      have y2 := hI.s2 (hp ⟨2, .data⟩ (by simp) rfl)
      exact opLdSpan 5 ⟨_, 1, none⟩ _ _ rfl ((ha 5).trans y2) (HCl.out X hB).2.1 (HCl.out X hB).2.2.1 (hK _ _ hI.op3)
    · obtain rfl := Option.some.inj hi
      have nZ : dn 8 = false := bf fun h => f_t hd (hc 5 _ rfl (hc 6 _ rfl (hc 7 _ rfl (hc 8 _ rfl h ⟨7, .data⟩ (by simp) rfl) ⟨6, .data⟩ (by simp) rfl) ⟨5, .data⟩ (by simp) rfl) ⟨4, .data⟩ (by simp) rfl)
      have hB := HBd.out X (hI.bel nZ)
      exact opFieldLn 2 3 1 _ (.inr (.inr rfl)) rfl ((ha 1).trans q1) (hK _ _ hI.op4)
    · obtain rfl := Option.some.inj hi
      have nZ : dn 8 = false := bf fun h => f_t hd (hc 6 _ rfl (hc 7 _ rfl (hc 8 _ rfl h ⟨7, .data⟩ (by simp) rfl) ⟨6, .data⟩ (by simp) rfl) ⟨5, .data⟩ (by simp) rfl)
      have hB := HBd.out X (hI.bel nZ)
      have y4 := hI.s4 (hp ⟨4, .data⟩ (by simp) rfl)
      exact opLdS 7 _ _ rfl ((ha 7).trans y4) (HCl.out X hB).2.2.2 (hK _ _ hI.op5)
    · obtain rfl := Option.some.inj hi
      have nZ : dn 8 = false := bf fun h => f_t hd (hc 7 _ rfl (hc 8 _ rfl h ⟨7, .data⟩ (by simp) rfl) ⟨6, .data⟩ (by simp) rfl)
      have hB := HBd.out X (hI.bel nZ)
      have y5 := hI.s5 (hp ⟨5, .data⟩ (by simp) rfl)
      refine opCall1 203 _ 8 _ _ rfl ((ha 8).trans y5) (by go_simp) (HCn.out X hB) ?_
      rintro e Y ⟨r, rfl, hO⟩
      exact ⟨r, rfl, hK _ _ (hI.op6 nZ ⟨hO.sl, fun g e => ⟨Nat.le_trans (hI.bel nZ).size (hO.own.lt g e).1, (hO.own.lt g e).2⟩⟩ hO.bel)⟩
    · obtain rfl := Option.some.inj hi
      have nZ : dn 8 = false := bf fun h => f_t hd (hc 8 _ rfl h ⟨7, .data⟩ (by simp) rfl)
      have hB := HBd.out X (hI.bel nZ)
      have y1 := hI.s1 (hp ⟨1, .data⟩ (by simp) rfl)
      have y3 := hI.s3 (hp ⟨3, .data⟩ (by simp) rfl)
      have y6 := hI.s6 (hp ⟨6, .data⟩ (by simp) rfl) nZ
      obtain ⟨A6, c6, e6, _⟩ := y6.1.form
      exact opBuildLn 4 6 9 _ _ _ _ rfl ((ha 4).trans y1) ((ha 6).trans y3) (ha 9) ⟨_, rfl⟩ ⟨_, _, _, e6⟩ (hK _ _ (hI.op7 ⟨_, rfl, y6⟩))
    · obtain rfl := Option.some.inj hi
      have nZ : dn 8 = false := hd
      have hB := HBd.out X (hI.bel nZ)
      have y7 := hI.s7 (hp ⟨7, .data⟩ (by simp) rfl) nZ
      obtain ⟨r, e7, h71, h72⟩ := y7
      obtain ⟨A7, c7, e7b, _⟩ := h71.form
      refine opStoreLn 2 10 _ _ _ _ _ _ _ _ _ rfl ((ha 2).trans q2) ((ha 10).trans e7) ⟨_, _, _, e7b⟩ (HRs.out X hB) (hK _ _ (hI.op8 _ ?_))
      exact HFin.out X hB _ h71 h72
  · intro dn val X hdn hI
    have hFz := hI.eZ (hdn 8 (by simp))
    simp only [wrS, HT0.out]
    simp only [List.setIfInBounds_toArray, List.set_cons_succ, List.set_cons_zero]
    (try simp only [Exit.then])
    clear hdn hI HT0 hsz0 HBd q1 q2
    obtain ⟨⟨r, hr, hr2⟩, hbz⟩ := hFz
    obtain ⟨c0, c1, c2, c3⟩ := cells_four hr
    obtain ⟨Ar, cr, er, _⟩ := hr2.1.form
    (try go_wp2_with fail)
    exact bodyPost_ret (v := .agg #[.int .i64 x.nm, .int .i64 x.lo, .int .i64 x.hi, r]) (by simp [results, Tryz.results152, go_sem, c0, c1, c2, c3]) rfl ⟨⟨r, rfl, hr2⟩, hbz⟩
end Go.Proofs.YtijidcigfdblaaaGreatDoor
