/- grow: laws. -/
import Derived.Test.YthfegbcbpeedbaaDoorKyOu
namespace Go.Proofs.YthfegbcbpeedbaaDoor
open Go.RowKit Go.Nm Go.Ky

structure GrI (V : World) (p0 vm v uk T nv ev : Value) (Q : Value → World → Prop) (R : World → Prop) (dn : Nat → Bool) (val : Nat → Value) (X : World) : Prop where
  s0 : dn 0 = true → val 0 = p0
  s1 : dn 1 = true → val 1 = vm
  s2 : dn 2 = true → val 2 = v
  s3 : dn 3 = true → val 3 = uk
  s5 : dn 5 = true → val 5 = uk
  s7 : dn 7 = true → val 7 = T
  s8 : dn 8 = true → val 8 = nv
  s9 : dn 9 = true → val 9 = ev
  s10 : dn 10 = true → val 10 = nv
  s11 : dn 11 = true → val 11 = ev
  bel : dn 6 = false → Below V.heap.size V X
  e4 : dn 4 = true → dn 6 = false → Q (val 4) X
  s6 : dn 6 = true → val 6 = T
  e6 : dn 6 = true → R X
section
variable {V : World} {p0 vm v uk T nv ev : Value} {Q : Value → World → Prop} {R : World → Prop} {dn : Nat → Bool} {val : Nat → Value} {X Y : World}
theorem GrI.op0 (h : GrI V p0 vm v uk T nv ev Q R dn val X) : GrI V p0 vm v uk T nv ev Q R (andB dn 0) (updV val 0 (p0)) X :=
  ⟨(fun _ => rfl), h.s1, h.s2, h.s3, h.s5, h.s7, h.s8, h.s9, h.s10, h.s11, h.bel, h.e4, h.s6, h.e6⟩
theorem GrI.op1 (h : GrI V p0 vm v uk T nv ev Q R dn val X) : GrI V p0 vm v uk T nv ev Q R (andB dn 1) (updV val 1 (vm)) X :=
  ⟨h.s0, (fun _ => rfl), h.s2, h.s3, h.s5, h.s7, h.s8, h.s9, h.s10, h.s11, h.bel, h.e4, h.s6, h.e6⟩
theorem GrI.op2 (h : GrI V p0 vm v uk T nv ev Q R dn val X) : GrI V p0 vm v uk T nv ev Q R (andB dn 2) (updV val 2 (v)) X :=
  ⟨h.s0, h.s1, (fun _ => rfl), h.s3, h.s5, h.s7, h.s8, h.s9, h.s10, h.s11, h.bel, h.e4, h.s6, h.e6⟩
theorem GrI.op3 (h : GrI V p0 vm v uk T nv ev Q R dn val X) : GrI V p0 vm v uk T nv ev Q R (andB dn 3) (updV val 3 (uk)) X :=
  ⟨h.s0, h.s1, h.s2, (fun _ => rfl), h.s5, h.s7, h.s8, h.s9, h.s10, h.s11, h.bel, h.e4, h.s6, h.e6⟩
theorem GrI.op5 (h : GrI V p0 vm v uk T nv ev Q R dn val X) : GrI V p0 vm v uk T nv ev Q R (andB dn 5) (updV val 5 (uk)) X :=
  ⟨h.s0, h.s1, h.s2, h.s3, (fun _ => rfl), h.s7, h.s8, h.s9, h.s10, h.s11, h.bel, h.e4, h.s6, h.e6⟩
theorem GrI.op7 (h : GrI V p0 vm v uk T nv ev Q R dn val X) : GrI V p0 vm v uk T nv ev Q R (andB dn 7) (updV val 7 (T)) X :=
  ⟨h.s0, h.s1, h.s2, h.s3, h.s5, (fun _ => rfl), h.s8, h.s9, h.s10, h.s11, h.bel, h.e4, h.s6, h.e6⟩
theorem GrI.op8 (h : GrI V p0 vm v uk T nv ev Q R dn val X) : GrI V p0 vm v uk T nv ev Q R (andB dn 8) (updV val 8 (nv)) X :=
  ⟨h.s0, h.s1, h.s2, h.s3, h.s5, h.s7, (fun _ => rfl), h.s9, h.s10, h.s11, h.bel, h.e4, h.s6, h.e6⟩
theorem GrI.op9 (h : GrI V p0 vm v uk T nv ev Q R dn val X) : GrI V p0 vm v uk T nv ev Q R (andB dn 9) (updV val 9 (ev)) X :=
  ⟨h.s0, h.s1, h.s2, h.s3, h.s5, h.s7, h.s8, (fun _ => rfl), h.s10, h.s11, h.bel, h.e4, h.s6, h.e6⟩
theorem GrI.op10 (h : GrI V p0 vm v uk T nv ev Q R dn val X) : GrI V p0 vm v uk T nv ev Q R (andB dn 10) (updV val 10 (nv)) X :=
  ⟨h.s0, h.s1, h.s2, h.s3, h.s5, h.s7, h.s8, h.s9, (fun _ => rfl), h.s11, h.bel, h.e4, h.s6, h.e6⟩
theorem GrI.op11 (h : GrI V p0 vm v uk T nv ev Q R dn val X) : GrI V p0 vm v uk T nv ev Q R (andB dn 11) (updV val 11 (ev)) X :=
  ⟨h.s0, h.s1, h.s2, h.s3, h.s5, h.s7, h.s8, h.s9, h.s10, (fun _ => rfl), h.bel, h.e4, h.s6, h.e6⟩
theorem GrI.op4 (h : GrI V p0 vm v uk T nv ev Q R dn val X) (n6 : dn 6 = false) {v4 : Value} (hb : Below X.heap.size X Y) (hq : Q v4 Y) : GrI V p0 vm v uk T nv ev Q R (andB dn 4) (updV val 4 (v4)) (Y) :=
  ⟨h.s0, h.s1, h.s2, h.s3, h.s5, h.s7, h.s8, h.s9, h.s10, h.s11, (fun n => (h.bel n).trans (hb.mono (h.bel n).size)), (fun _ _ => hq), (fun d => f_t n6 d), (fun d => f_t n6 d)⟩
theorem GrI.op6 (h : GrI V p0 vm v uk T nv ev Q R dn val X) (hR : R Y) : GrI V p0 vm v uk T nv ev Q R (andB dn 6) (updV val 6 (T)) (Y) :=
  ⟨h.s0, h.s1, h.s2, h.s3, h.s5, h.s7, h.s8, h.s9, h.s10, h.s11, (fun n => nomatch n), (fun _ n => nomatch n), (fun _ => rfl), (fun _ => hR)⟩
end
theorem infoK : ∃ i, Tryd.prog.info? 65 = some i ∧ i.zero = some (.agg #[.int .i64 0, .slice none 0 0]) ∧ i.size = 2 ∧ i.bytes = 32 := by
  have h : (Tryd.prog.info? 65).map (fun i => (i.zero, i.size, i.bytes)) = some (some (.agg #[.int .i64 0, .slice none 0 0]), 2, 32) := by kernel_rfl
  cases h2 : Tryd.prog.info? 65 with
  | none => rw [h2] at h; cases h
  | some i =>
    rw [h2] at h
    simp only [Option.map_some, Option.some.injEq, Prod.mk.injEq] at h
    exact ⟨i, rfl, h.1, h.2.1, h.2.2⟩
theorem wpList_app_nd {W : World} {n : Nat} {vals : List Value} {vs : Value} {c : Int} {ops : Array Oper} {rest : List Oper} {o : Oper} {a : Act} {Q : Exit → Act → World → Prop} {w : World} (hgd : o.guard = none) (s x : Operand) (ho : o.op = .call { callee := .builtin .append, args := #[s, x], argTypes := #[50, 50] })
    (hs : a.eval s = vs) (h : w.ownsRow W.heap.size 65 2 vs n vals) (hb : W.heap.size ≤ w.heap.size) (g : Nat) (hx : a.eval x = .slice (some ⟨g, 0, none⟩) 1 1) (hc : w.heap[g]? = some (.cells #[.int .i64 c, .slice none 0 0] 65)) (hn : n ≤ 100000)
    (hK : ∀ v' w', w'.ownsRow W.heap.size 65 2 v' (n + 1) (vals ++ [.int .i64 c, .slice none 0 0]) → w.grownBy w' vs.ownBlock → (v'.ownBlock = vs.ownBlock ∨ v'.ownBlock = some w.heap.size) → wpList Tryd.prog ops Q rest (a.put o.dst v') w') : wpList Tryd.prog ops Q (o :: rest) a w := by
  refine wpList_plain hgd fun _ hK2 => ?_
  obtain ⟨i0, hi0, hz0, hz1, hz2⟩ := infoK
  obtain ⟨v', w', hr', h2, h3, _, h5⟩ := run_append_own_at (P := Tryd.prog) (w := w) W.heap.size 50 o.type 65 i0 _ 2 32 Tryd.underlying50 hi0 hz0 hz1 hz2 rfl (by decide) vs n vals h ⟨g, 0, none⟩ 1 1 [.int .i64 c, .slice none 0 0] rfl
    (fun j u hj => by rw [add_zero_k]; simpa [World.cell?, hc] using hj) (fun u hu => by simp at hu; rcases hu with rfl | rfl <;> rfl) (by unfold maxLen; omega) (by omega) hb
  unfold Oper.wp execOp
  simp only [ho, resolve, invoke, builtin, Sem.run_bind, Sem.run_pure, Result.andThen_ok, List.map_toArray, List.map_cons, List.map_nil, hs, hx, hr']
  exact hK2 _ _ (hK _ _ h2 h3 h5)
section
variable {o : Oper} {a : Act} {w : World} {K : Act → World → Prop} {Q : Exit → Act → World → Prop}
theorem opLdRs (q : Nat) (ad : Addr) (v : Value) (ho : o.op = .load 23 (.tmp q)) (hq : a.tmps.getD q undef = .pointer (some ad)) (hc : w.cell? ad = some v) (h : K (a.put o.dst v) w) : o.wp Tryd.prog a w K Q := by
  unfold Oper.wp execOp
  have he : a.eval (.tmp q) = .pointer (some ad) := hq
  simp only [ho, he]
  go_simp
  exact h
set_option maxRecDepth 100000 in
theorem opLdMx (q g : Nat) (v1 v2 : Value) (ho : o.op = .load 25 (.tmp q)) (hq : a.tmps.getD q undef = .pointer (some ⟨g, 0, none⟩)) (hg : w.heap[g]? = some (.cells #[v1, v2] 25)) (h : K (a.put o.dst (.agg #[v1, v2])) w) : o.wp Tryd.prog a w K Q := by
  unfold Oper.wp execOp
  have he : a.eval (.tmp q) = .pointer (some ⟨g, 0, none⟩) := hq
  obtain ⟨c0, c1⟩ := cells_two hg
  simp only [ho, he]
  go_simp
  exact h
set_option maxRecDepth 100000 in
theorem opCallRm (q r : Nat) (v1 v2 : Value) (R : Ending → World → Prop) (ho : o.op = .call { callee := .value (.func 74), args := #[.tmp q, .tmp r], argTypes := #[23, 22] }) (h1 : a.tmps.getD q undef = v1) (h2 : a.tmps.getD r undef = v2)
    (hc : Calls Tryd.prog 74 #[v1, v2] w R) (h : ∀ e w', R e w' → ∃ v, e = .returned v ∧ K (a.put o.dst v) w') : o.wp Tryd.prog a w K Q := by
  unfold Oper.wp execOp
  have e1 : a.eval (.tmp q) = v1 := h1
  have e2 : a.eval (.tmp r) = v2 := h2
  simp only [ho]
  go_simp
  refine hc.mono ?_
  intro e w' hR
  obtain ⟨v, rfl, hK⟩ := h e w' hR
  exact hK
set_option maxRecDepth 100000 in
theorem opCallGr (q r s t : Nat) (v1 v2 v3 v4 : Value) (R : Ending → World → Prop) (ho : o.op = .call { callee := .value (.func 100), args := #[.tmp q, .tmp r, .tmp s, .tmp t], argTypes := #[111, 25, 23, 22] }) (h1 : a.tmps.getD q undef = v1) (h2 : a.tmps.getD r undef = v2) (h3 : a.tmps.getD s undef = v3) (h4 : a.tmps.getD t undef = v4)
    (hc : Calls Tryd.prog 100 #[v1, v2, v3, v4] w R) (h : ∀ e w', R e w' → ∃ v, e = .returned v ∧ K (a.put o.dst v) w') : o.wp Tryd.prog a w K Q := by
  unfold Oper.wp execOp
  have e1 : a.eval (.tmp q) = v1 := h1
  have e2 : a.eval (.tmp r) = v2 := h2
  have e3 : a.eval (.tmp s) = v3 := h3
  have e4 : a.eval (.tmp t) = v4 := h4
  simp only [ho]
  go_simp
  refine hc.mono ?_
  intro e w' hR
  obtain ⟨v, rfl, hK⟩ := h e w' hR
  exact hK
theorem opExt0 (q : Nat) (v1 v2 : Value) (ho : o.op = .extract (.tmp q) 0) (hq : a.tmps.getD q undef = .tuple #[v1, v2]) (h : K (a.put o.dst v1) w) : o.wp Tryd.prog a w K Q := by
  unfold Oper.wp execOp
  have he : a.eval (.tmp q) = .tuple #[v1, v2] := hq
  simp only [ho, he]
  go_simp
  exact h
theorem opExt1 (q : Nat) (v1 v2 : Value) (ho : o.op = .extract (.tmp q) 1) (hq : a.tmps.getD q undef = .tuple #[v1, v2]) (h : K (a.put o.dst v2) w) : o.wp Tryd.prog a w K Q := by
  unfold Oper.wp execOp
  have he : a.eval (.tmp q) = .tuple #[v1, v2] := hq
  simp only [ho, he]
  go_simp
  exact h
end
/-- what a call of grow has about it -/
structure GwS (W : World) (b : Nat) (vm1 vm2 v u : Value) (L : List Rw) (l : List Int) (O : Nat → Prop) (Y : World) : Prop where
  m0 : Y.heap[b]? = some (.cells #[vm1, vm2] 25)
  r0 : Y.heap[b + 1]? = some (.cells #[v] 23)
  s0 : Y.heap[b + 1 + 1]? = some (.cells #[u] 22)
  no : ¬ O b ∧ ¬ O (b + 1) ∧ ¬ O (b + 1 + 1)
  rv : Il2 Y Y.heap.size (fun r vm => InSl W W.heap.size vm r.may) v L
  vo : L ≠ [] → ∀ g, v.ownBlock = some g → ¬ O g
  ua : Apt Y O u l
theorem Il2.chg {X Y : World} {O : Nat → Prop} {E : Rw → Value → Prop} {v : Value} {L : List Rw} (h : Il2 X X.heap.size E v L) (hc : Chg O X Y) (hv : L ≠ [] → ∀ g, v.ownBlock = some g → ¬ O g) : Il2 Y Y.heap.size E v L := by
  obtain ⟨A, c, e, h2⟩ := h
  refine ⟨A, c, e, fun i r hr => ?_⟩
  obtain ⟨ad, vm, e4, h3, h4, h5, h6⟩ := h2 i r hr
  have hne : L ≠ [] := fun e => by subst e; simp at hr
  have hb : ¬ O ad.block := hv hne _ (by rw [e, e4]; rfl)
  have hk : ∀ p : Addr, p.block = ad.block → Y.cell? p = X.cell? p := fun p hp => World.cell?_of_block (by
    rw [hp]
    exact (hc.2 _ _ (Array.getElem?_eq_getElem h3) hb).trans (Array.getElem?_eq_getElem h3).symm)
  exact ⟨ad, vm, e4, Nat.lt_of_lt_of_le h3 hc.1, (hk _ (add_block _ _)).trans h4, (hk _ (by show (ad.add (i * 2)).block = _; exact add_block _ _)).trans h5, h6⟩
theorem GwS.chg {W : World} {b : Nat} {vm1 vm2 v u : Value} {L : List Rw} {l : List Int} {O O' : Nat → Prop} {Y Z : World} (h : GwS W b vm1 vm2 v u L l O Y) (hc : Chg O Y Z) (hf : Fro O O' Y) : GwS W b vm1 vm2 v u L l O' Z := by
  have hno : ∀ {i : Nat}, ¬ O i → i < Y.heap.size → ¬ O' i := fun h1 h2 h3 => by
    rcases hf _ h3 with h4 | h4
    · exact h1 h4
    · omega
  have l0 := (Array.getElem?_eq_some_iff.1 h.m0).1
  have l1 := (Array.getElem?_eq_some_iff.1 h.r0).1
  have l2 := (Array.getElem?_eq_some_iff.1 h.s0).1
  refine ⟨hc.2 _ _ h.m0 h.no.1, hc.2 _ _ h.r0 h.no.2.1, hc.2 _ _ h.s0 h.no.2.2, ⟨hno h.no.1 l0, hno h.no.2.1 l1, hno h.no.2.2 l2⟩, h.rv.chg hc h.vo, fun hL g e => ?_, h.ua.chg hc hf⟩
  obtain ⟨A, c, e1, h2⟩ := h.rv
  cases L with
  | nil => exact absurd rfl hL
  | cons r L =>
    obtain ⟨ad, vm, e4, h3, _⟩ := h2 0 r rfl
    rw [e1, e4] at e
    have e5 : ad.block = g := by simpa [Value.ownBlock] using e
    subst e5
    exact hno (h.vo hL _ (by rw [e1, e4]; rfl)) h3
end Go.Proofs.YthfegbcbpeedbaaDoor
