/- reached: its walk. -/
import Derived.Test.YthfegbcbpeedbaaDoorKyOh
namespace Go.Proofs.YthfegbcbpeedbaaDoor
open Go.RowKit Go.Nm Go.Ky Go.Maps

theorem VsA.snoc {w : World} {B : Nat} {vals : List Value} {LL : List (List Int)} {u : Value} {R : List Int} (h : VsA w B vals LL) (hr : InSl w B u R) : VsA w B (vals ++ [u]) (LL ++ [R]) := by
  refine ⟨by simp [h.1], fun i v L h1 h2 => ?_⟩
  by_cases hi : i < vals.length
  · rw [List.getElem?_append_left hi] at h1
    rw [List.getElem?_append_left (by rw [← h.1]; exact hi)] at h2
    exact h.2 i v L h1 h2
  · rw [List.getElem?_append_right (by omega)] at h1
    rw [List.getElem?_append_right (by rw [← h.1]; omega)] at h2
    have e1 : i - vals.length = 0 := by have := (List.getElem?_eq_some_iff.1 h1).1; simp at this; omega
    rw [e1] at h1
    rw [← h.1, e1] at h2
    simp at h1 h2
    subst h1; subst h2
    exact hr
/-- vs is a row of the call's own, with these lists, which were there at W -/
structure LvI (W : World) (LL : List (List Int)) (vals : List Value) (vs : Value) (X : World) : Prop where
  bel : Below W.heap.size W X
  own : X.ownsRow W.heap.size 22 1 vs LL.length vals
  ele : VsA W W.heap.size vals LL
section
variable {W : World} {LL : List (List Int)} {vals : List Value} {vs : Value} {X Y : World}
theorem LvI.kept {row : Option Nat} (h : LvI W LL vals vs X) (hg : X.grownBy Y row) (hr : ∀ r, row = some r → W.heap.size ≤ r ∧ vs.ownBlock ≠ some r) : LvI W LL vals vs Y := by
  refine ⟨h.bel.grown hg h.bel.size (fun r e => (hr r e).1), h.own.kept hg ?_, h.ele⟩
  cases hv : vs.ownBlock with
  | none => exact .inl rfl
  | some g => exact .inr (fun e => (hr g e.symm).2 hv)
theorem LvI.step (h : LvI W LL vals vs X) (hb : Below X.heap.size X Y) : LvI W LL vals vs Y := h.kept (grown_of_below hb none) (fun _ e => nomatch e)
theorem LvI.start (W X : World) (hb : Below W.heap.size W X) : LvI W [] [] (.slice none 0 0) X := ⟨hb, World.ownsRow_nil _ _ _ _, rfl, fun i v L h => by simp at h⟩
theorem LvI.sl (h : LvI W LL vals vs X) : VsSl X X.heap.size vs LL := by
  have he := (h.ele.below h.bel).mono h.bel.size
  rcases h.own.2 with ⟨e, h0⟩ | ⟨g, cap, cur, e, hb, hg, h1, h2, h3, h4⟩
  · have hl := List.length_eq_zero_iff.1 h0
    subst hl
    have hv : vals = [] := List.length_eq_zero_iff.1 (by rw [h.ele.1]; rfl)
    subst hv
    exact ⟨none, 0, [], by rw [e]; rfl, he, fun i u hu => by simp at hu⟩
  · refine ⟨_, _, vals, e, he, fun i u hu => ⟨_, rfl, (Array.getElem?_eq_some_iff.1 hg).1, ?_⟩⟩
    exact h.own.cells (g := g) (by rw [e]; rfl) i u hu
theorem LvI.slice (h : LvI W LL vals vs X) : ∃ A n c, vs = .slice A n c := by
  obtain ⟨A, c, e⟩ := h.sl.form
  exact ⟨A, _, c, e⟩
theorem wpList_app_lv {ops : Array Oper} {rest : List Oper} {o : Oper} {a : Act} {Q : Exit → Act → World → Prop} {w : World} (hgd : o.guard = none) (s x : Operand) (ho : o.op = .call { callee := .builtin .append, args := #[s, x], argTypes := #[51, 51] })
    {r : Value} {R : List Int} (hs : a.eval s = vs) (h : LvI W LL vals vs w) (g : Nat) (hx : a.eval x = .slice (some ⟨g, 0, none⟩) 1 1) (hc : w.heap[g]? = some (.cells #[r] 22)) (h1 : r.oneCell' = true) (hr : InSl W W.heap.size r R) (hn : LL.length ≤ 100000)
    (hK : ∀ v' w', LvI W (LL ++ [R]) (vals ++ [r]) v' w' → w.grownBy w' vs.ownBlock → (v'.ownBlock = vs.ownBlock ∨ v'.ownBlock = some w.heap.size) → wpList Tryd.prog ops Q rest (a.put o.dst v') w') : wpList Tryd.prog ops Q (o :: rest) a w := by
  refine wpList_plain hgd fun _ hK2 => ?_
  obtain ⟨i0, hi0, hz0, hz1, hz2⟩ := infoS
  obtain ⟨v', w', hr', h2, h3, _, h5⟩ := run_append_own_at (P := Tryd.prog) (w := w) W.heap.size 51 o.type 22 i0 (.slice none 0 0) 1 24 Tryd.underlying51 hi0 hz0 hz1 hz2 rfl (by decide) vs LL.length vals h.own ⟨g, 0, none⟩ 1 1 [r] rfl
    (fun j u hj => by
      rw [add_zero_k]
      simpa [World.cell?, hc] using hj) (fun u hu => by simp at hu; subst hu; exact h1) (by unfold maxLen; omega) (by omega) h.bel.size
  unfold Oper.wp execOp
  simp only [ho, resolve, invoke, builtin, Sem.run_bind, Sem.run_pure, Result.andThen_ok, List.map_toArray, List.map_cons, List.map_nil, hs, hx, hr']
  exact hK2 _ _ (hK v' w' ⟨h.bel.grown h3 h.bel.size fun q e => (h.own.lt q e).1, by rw [List.length_append]; exact h2, h.ele.snoc hr⟩ h3 h5)
end
theorem KA.of_row {T : Nat} {rb row : Option Nat} {X Y : World} (hg : X.grownBy Y row) (h : ∀ r, row = some r → r < T ∨ some r = rb) : KA T rb X Y :=
  ⟨hg.size, fun i o hB hi hne => (hg.block i (Array.getElem?_eq_some_iff.1 hi).1 (fun e => by
    rcases h i e.symm with h | h
    · omega
    · exact hne h)).trans hi⟩
theorem KA.trans2 {T : Nat} {rb rb' : Option Nat} {X Y Z : World} (h : KA T rb X Y) (hg : Grows rb rb' X) (k : KA T rb' Y Z) : KA T rb X Z :=
  ⟨Nat.le_trans h.size k.size, fun i o hB hi hne => k.same i o hB (h.same i o hB hi hne) (fun e => by
    rcases hg with hg | ⟨q, hq, hs⟩
    · rw [hg] at e; exact hne e
    · rw [hq] at e; injection e with e; have := (Array.getElem?_eq_some_iff.1 hi).1; omega)⟩
theorem Grows.trans2 {rb rb' rb'' : Option Nat} {X Y : World} (h : Grows rb rb' X) (hs : X.heap.size ≤ Y.heap.size) (k : Grows rb' rb'' Y) : Grows rb rb'' X := by
  rcases k with k | ⟨q, hq, hqs⟩
  · rw [k]; exact h
  · exact .inr ⟨q, hq, Nat.le_trans hs hqs⟩
/-- the blocks of reached -/
structure WkB (W : World) (T gk gs gl mb gb gw : Nat) : Prop where
  lo : W.heap.size ≤ gk ∧ W.heap.size ≤ gs ∧ W.heap.size ≤ gl ∧ W.heap.size ≤ mb ∧ W.heap.size ≤ gb ∧ W.heap.size ≤ gw
  hi : gk < T ∧ gs < T ∧ gl < T ∧ mb < T ∧ gb < T ∧ gw < T
  nl : gk ≠ gl ∧ gs ≠ gl ∧ gb ≠ gl ∧ gw ≠ gl ∧ mb ≠ gl
  nm : gk ≠ mb ∧ gs ≠ mb ∧ gb ≠ mb ∧ gw ≠ mb
structure WkS (W : World) (T gk gs gl mb gb gw : Nat) (k : Kx) (kv1 kv2 sv : Value) (B : List Int) (LL : List (List Int)) (rb : Option Nat) (X : World) : Prop where
  kb : X.heap[gk]? = some (.cells #[kv1, kv2] 53)
  sb : X.heap[gs]? = some (.cells #[sv] 22)
  lb : ∃ vals vs, X.heap[gl]? = some (.cells #[vs] 51) ∧ LvI W LL vals vs X ∧ vs.ownBlock = rb ∧ ∀ g, rb = some g → T ≤ g
  mp : MB W mb B.length B X
  bb : X.heap[gb]? = some (.cells #[.map (some mb)] 138)
  wb : X.heap[gw]? = some (.cells #[.func (.func 119) #[] #[.pointer (some ⟨gb, 0, none⟩), .pointer (some ⟨gl, 0, none⟩), .pointer (some ⟨gk, 0, none⟩), .pointer (some ⟨gs, 0, none⟩), .pointer (some ⟨gw, 0, none⟩)]] 139)
  ndp : B.Nodup
  rg : ∀ z ∈ B, -(k.lv.length : Int) ≤ z ∧ z < k.nd.length
  top : T ≤ X.heap.size
section
variable {W : World} {T gk gs gl mb gb gw : Nat} {k : Kx} {kv1 kv2 sv : Value} {B : List Int} {LL : List (List Int)} {rb : Option Nat} {X Y : World}
theorem WkS.step (h : WkS W T gk gs gl mb gb gw k kv1 kv2 sv B LL rb X) (hb : Below X.heap.size X Y) : WkS W T gk gs gl mb gb gw k kv1 kv2 sv B LL rb Y := by
  obtain ⟨vals, vs, l1, l2, l3⟩ := h.lb
  exact ⟨(hb.block _ (Array.getElem?_eq_some_iff.1 h.kb).1).trans h.kb, (hb.block _ (Array.getElem?_eq_some_iff.1 h.sb).1).trans h.sb, ⟨vals, vs, (hb.block _ (Array.getElem?_eq_some_iff.1 l1).1).trans l1, l2.step hb, l3⟩, h.mp.step hb,
    (hb.block _ (Array.getElem?_eq_some_iff.1 h.bb).1).trans h.bb, (hb.block _ (Array.getElem?_eq_some_iff.1 h.wb).1).trans h.wb, h.ndp, h.rg, Nat.le_trans h.top hb.size⟩
theorem WkS.bel (h : WkS W T gk gs gl mb gb gw k kv1 kv2 sv B LL rb X) : Below W.heap.size W X := h.mp.bel
theorem WkS.rbt (h : WkS W T gk gs gl mb gb gw k kv1 kv2 sv B LL rb X) {g : Nat} (e : rb = some g) : T ≤ g ∧ g < X.heap.size := by
  obtain ⟨vals, vs, l1, l2, l3, l4⟩ := h.lb
  exact ⟨l4 g e, (l2.own.lt g (l3.trans e)).2⟩
theorem WkS.put (hG : WkB W T gk gs gl mb gb gw) (h : WkS W T gk gs gl mb gb gw k kv1 kv2 sv B LL rb X) {a : Int} (ha : a ∉ B) (hr : -(k.lv.length : Int) ≤ a ∧ a < k.nd.length) (hM : MB W mb (B.length + 1) (B ++ [a]) Y) (hg : X.grownBy Y (some mb)) : WkS W T gk gs gl mb gb gw k kv1 kv2 sv (B ++ [a]) LL rb Y := by
  obtain ⟨vals, vs, l1, l2, l3, l4⟩ := h.lb
  have hne : ∀ {i : Nat}, i ≠ mb → some i ≠ some mb := fun h e => h (by injection e)
  refine ⟨(hg.block _ (Array.getElem?_eq_some_iff.1 h.kb).1 (hne hG.nm.1)).trans h.kb, (hg.block _ (Array.getElem?_eq_some_iff.1 h.sb).1 (hne hG.nm.2.1)).trans h.sb,
    ⟨vals, vs, (hg.block _ (Array.getElem?_eq_some_iff.1 l1).1 (hne (Ne.symm hG.nl.2.2.2.2))).trans l1, l2.kept hg (fun r e => by cases e; exact ⟨hG.lo.2.2.2.1, fun e2 => by have := l4 _ (l3.symm.trans e2); have := hG.hi.2.2.2.1; omega⟩), l3, l4⟩,
    by rw [List.length_append]; exact hM, (hg.block _ (Array.getElem?_eq_some_iff.1 h.bb).1 (hne hG.nm.2.2.1)).trans h.bb, (hg.block _ (Array.getElem?_eq_some_iff.1 h.wb).1 (hne hG.nm.2.2.2)).trans h.wb, ?_, ?_, Nat.le_trans h.top hg.size⟩
  · rw [List.nodup_append]
    exact ⟨h.ndp, by simp, fun x hx y hy e => by simp at hy; subst hy; subst e; exact ha hx⟩
  · intro z hz
    rcases List.mem_append.1 hz with hz | hz
    · exact h.rg z hz
    · simp at hz; subst hz; exact hr
theorem WkS.leaf (hG : WkB W T gk gs gl mb gb gw) (h : WkS W T gk gs gl mb gb gw k kv1 kv2 sv B LL rb X) {vals : List Value} {vs v' u : Value} {R : List Int} (hl : X.heap[gl]? = some (.cells #[vs] 51)) (hrb : vs.ownBlock = rb) (hL : LvI W (LL ++ [R]) (vals ++ [u]) v' Y) (hg : X.grownBy Y vs.ownBlock) (hob : v'.ownBlock = vs.ownBlock ∨ ∃ q, v'.ownBlock = some q ∧ X.heap.size ≤ q) :
    Y.heap[gl]? = some (.cells #[vs] 51) ∧ WkS W T gk gs gl mb gb gw k kv1 kv2 sv B (LL ++ [R]) v'.ownBlock (Y.setCell ⟨gl, 0, none⟩ v') ∧ Grows rb v'.ownBlock X ∧ KA T rb X (Y.setCell ⟨gl, 0, none⟩ v') := by
  have hne : ∀ {i : Nat}, i < T → some i ≠ vs.ownBlock := fun h2 e => by
    have := (h.rbt (g := _) (hrb.symm.trans e.symm)).1; omega
  have hne2 : ∀ {i : Nat}, i ≠ gl → some i ≠ some gl := fun h e => h (by injection e)
  have hs := setCell_grown' Y gl 0 v'
  have keep : ∀ {i : Nat} {o : Obj}, i < T → i ≠ gl → X.heap[i]? = some o → (Y.setCell ⟨gl, 0, none⟩ v').heap[i]? = some o := fun h1 h2 h3 => by
    have h4 := (hg.block _ (Array.getElem?_eq_some_iff.1 h3).1 (hne h1)).trans h3
    exact (hs.block _ (Array.getElem?_eq_some_iff.1 h4).1 (hne2 h2)).trans h4
  have hYl := (hg.block _ (Array.getElem?_eq_some_iff.1 hl).1 (hne hG.hi.2.2.1)).trans hl
  have hv' : ∀ g, v'.ownBlock = some g → T ≤ g := fun g e => by
    rcases hob with h1 | ⟨q, h1, h2⟩
    · exact (h.rbt (hrb.symm.trans (h1.symm.trans e))).1
    · rw [h1] at e; injection e with e; have := h.top; omega
  refine ⟨hYl, ⟨keep hG.hi.1 hG.nl.1 h.kb, keep hG.hi.2.1 hG.nl.2.1 h.sb, ⟨_, v', heap_setCell_same Y gl 0 _ _ v' hYl, hL.kept hs (fun r e => by cases e; exact ⟨hG.lo.2.2.1, fun e2 => by have := hv' _ e2; have := hG.hi.2.2.1; omega⟩), rfl, hv'⟩, ?_, keep hG.hi.2.2.2.2.1 hG.nl.2.2.1 h.bb, keep hG.hi.2.2.2.2.2 hG.nl.2.2.2.1 h.wb, h.ndp, h.rg, Nat.le_trans h.top (Nat.le_trans hg.size hs.size)⟩, ?_, ?_⟩
  · refine (h.mp.kept hg (fun r e => ?_)).kept hs (fun r e => ?_)
    · have := h.rbt (hrb.symm.trans e)
      have := hG.hi.2.2.2.1
      have := hG.lo.2.2.2.1
      exact ⟨by omega, by omega⟩
    · cases e; exact ⟨hG.lo.2.2.1, Ne.symm hG.nl.2.2.2.2⟩
  · rcases hob with h1 | ⟨q, h1, h2⟩
    · exact .inl (h1.trans hrb)
    · exact .inr ⟨q, h1, h2⟩
  · exact (KA.of_row hg (fun r e => .inr (e.symm.trans hrb))).trans (KA.of_row hs (fun r e => by cases e; exact .inl hG.hi.2.2.1))
end
end Go.Proofs.YthfegbcbpeedbaaDoor
namespace Go.Proofs.YthfegbcbpeedbaaDoor
open Go.RowKit Go.Nm Go.Ky Go.Maps

structure RcI (V : World) (vs p1 v2 va vj p5 u : Value) (S : Value → World → Prop) (R : World → Prop) (dn : Nat → Bool) (val : Nat → Value) (X : World) : Prop where
  s0 : dn 0 = true → val 0 = vs
  s1 : dn 1 = true → val 1 = p1
  s2 : dn 2 = true → val 2 = v2
  s3 : dn 3 = true → val 3 = va
  s4 : dn 4 = true → val 4 = vj
  s5 : dn 5 = true → val 5 = p5
  s6 : dn 6 = true → val 6 = u
  bel : dn 8 = false → Below V.heap.size V X
  e7 : dn 7 = true → dn 8 = false → ∃ g, val 7 = .slice (some ⟨g, 0, none⟩) 1 1 ∧ X.heap[g]? = some (.cells #[u] 22)
  e8 : dn 8 = true → dn 9 = false → S (val 8) X
  e9 : dn 9 = true → R X
section
variable {V : World} {vs p1 v2 va vj p5 u : Value} {S : Value → World → Prop} {R : World → Prop} {dn : Nat → Bool} {val : Nat → Value} {X Y : World}
theorem RcI.op0 (h : RcI V vs p1 v2 va vj p5 u S R dn val X) : RcI V vs p1 v2 va vj p5 u S R (andB dn 0) (updV val 0 (vs)) X :=
  ⟨(fun _ => rfl), h.s1, h.s2, h.s3, h.s4, h.s5, h.s6, h.bel, h.e7, h.e8, h.e9⟩
theorem RcI.op1 (h : RcI V vs p1 v2 va vj p5 u S R dn val X) : RcI V vs p1 v2 va vj p5 u S R (andB dn 1) (updV val 1 (p1)) X :=
  ⟨h.s0, (fun _ => rfl), h.s2, h.s3, h.s4, h.s5, h.s6, h.bel, h.e7, h.e8, h.e9⟩
theorem RcI.op2 (h : RcI V vs p1 v2 va vj p5 u S R dn val X) : RcI V vs p1 v2 va vj p5 u S R (andB dn 2) (updV val 2 (v2)) X :=
  ⟨h.s0, h.s1, (fun _ => rfl), h.s3, h.s4, h.s5, h.s6, h.bel, h.e7, h.e8, h.e9⟩
theorem RcI.op3 (h : RcI V vs p1 v2 va vj p5 u S R dn val X) : RcI V vs p1 v2 va vj p5 u S R (andB dn 3) (updV val 3 (va)) X :=
  ⟨h.s0, h.s1, h.s2, (fun _ => rfl), h.s4, h.s5, h.s6, h.bel, h.e7, h.e8, h.e9⟩
theorem RcI.op4 (h : RcI V vs p1 v2 va vj p5 u S R dn val X) : RcI V vs p1 v2 va vj p5 u S R (andB dn 4) (updV val 4 (vj)) X :=
  ⟨h.s0, h.s1, h.s2, h.s3, (fun _ => rfl), h.s5, h.s6, h.bel, h.e7, h.e8, h.e9⟩
theorem RcI.op5 (h : RcI V vs p1 v2 va vj p5 u S R dn val X) : RcI V vs p1 v2 va vj p5 u S R (andB dn 5) (updV val 5 (p5)) X :=
  ⟨h.s0, h.s1, h.s2, h.s3, h.s4, (fun _ => rfl), h.s6, h.bel, h.e7, h.e8, h.e9⟩
theorem RcI.op6 (h : RcI V vs p1 v2 va vj p5 u S R dn val X) : RcI V vs p1 v2 va vj p5 u S R (andB dn 6) (updV val 6 (u)) X :=
  ⟨h.s0, h.s1, h.s2, h.s3, h.s4, h.s5, (fun _ => rfl), h.bel, h.e7, h.e8, h.e9⟩
theorem RcI.op7 (h : RcI V vs p1 v2 va vj p5 u S R dn val X) (n8 : dn 8 = false) (n9 : dn 9 = false) : RcI V vs p1 v2 va vj p5 u S R (andB dn 7) (updV val 7 (.slice (some ⟨X.heap.size, 0, none⟩) 1 1)) (X.alloc (.cells #[u] 22)) :=
  ⟨h.s0, h.s1, h.s2, h.s3, h.s4, h.s5, h.s6, (fun n => (h.bel n).alloc (h.bel n).size _), (fun _ _ => ⟨_, rfl, World.alloc_heap_new X _⟩), (fun d => f_t n8 d), (fun d => f_t n9 d)⟩
theorem RcI.op8 (h : RcI V vs p1 v2 va vj p5 u S R dn val X) (n9 : dn 9 = false) {v : Value} (hS : S v Y) : RcI V vs p1 v2 va vj p5 u S R (andB dn 8) (updV val 8 (v)) (Y) :=
  ⟨h.s0, h.s1, h.s2, h.s3, h.s4, h.s5, h.s6, (fun n => nomatch n), (fun _ n => nomatch n), (fun _ _ => hS), (fun d => f_t n9 d)⟩
theorem RcI.op9 (h : RcI V vs p1 v2 va vj p5 u S R dn val X) (y8 : dn 8 = true) {v : Value} (hR : R Y) : RcI V vs p1 v2 va vj p5 u S R (andB dn 9) (updV val 9 (v)) (Y) :=
  ⟨h.s0, h.s1, h.s2, h.s3, h.s4, h.s5, h.s6, (fun n => f_t n y8), (fun _ n => f_t n y8), (fun _ n => nomatch n), (fun _ => hR)⟩
end
section
variable {o : Oper} {a : Act} {w : World} {K : Act → World → Prop} {Q : Exit → Act → World → Prop}
theorem opLdT (q : Nat) (ad : Addr) (v : Value) (ho : o.op = .load 51 (.tmp q)) (hq : a.tmps.getD q undef = .pointer (some ad)) (hc : w.cell? ad = some v) (h : K (a.put o.dst v) w) : o.wp Tryd.prog a w K Q := by
  unfold Oper.wp execOp
  have he : a.eval (.tmp q) = .pointer (some ad) := hq
  simp only [ho, he]
  go_simp
  exact h
set_option maxRecDepth 100000 in
theorem opFieldK (k : Nat) (q g : Nat) (hk : k < 2) (ho : o.op = .fieldAddr 53 (.tmp q) k) (hq : a.tmps.getD q undef = .pointer (some ⟨g, 0, none⟩)) (h : K (a.put o.dst (.pointer (some ⟨g, k, none⟩))) w) : o.wp Tryd.prog a w K Q := by
  unfold Oper.wp execOp
  have he : a.eval (.tmp q) = .pointer (some ⟨g, 0, none⟩) := hq
  simp only [ho, he]
  rcases (show k = 0 ∨ k = 1 by omega) with rfl | rfl <;>
  · go_simp
    exact h
theorem opSub1 (q : Nat) (x y : Int) (ho : o.op = .binOp .sub 3 (.const (.int .i64 (-1))) (.tmp q) 3) (hq : a.tmps.getD q undef = .int .i64 x) (hw : IntKind.i64.wrap (-1 - x) = y) (h : K (a.put o.dst (.int .i64 y)) w) : o.wp Tryd.prog a w K Q := by
  unfold Oper.wp execOp
  have he : a.eval (.tmp q) = .int .i64 x := hq
  simp only [ho, he]
  go_simp
  (try rw [hw])
  exact h
theorem opStoreT (q r g : Nat) (A1 : Option Addr) (n1 d1 : Nat) (u1 : Value) (ho : o.op = .store 51 (.tmp q) (.tmp r)) (hq : a.tmps.getD q undef = .pointer (some ⟨g, 0, none⟩)) (hr : a.tmps.getD r undef = .slice A1 n1 d1) (hg : w.heap[g]? = some (.cells #[u1] 51)) (h : ∀ u, K (a.put o.dst u) (w.setCell ⟨g, 0, none⟩ (.slice A1 n1 d1))) : o.wp Tryd.prog a w K Q := by
  unfold Oper.wp execOp
  have he : a.eval (.tmp q) = .pointer (some ⟨g, 0, none⟩) := hq
  have he2 : a.eval (.tmp r) = .slice A1 n1 d1 := hr
  have c0 := cell_one hg
  have f0 := frozen_cells hg 0
  simp only [ho, he, he2]
  go_simp
  exact h _
theorem run_app_lv {W : World} {LL : List (List Int)} {vals : List Value} {vs : Value} (s x : Operand) (ho : o.op = .call { callee := .builtin .append, args := #[s, x], argTypes := #[51, 51] })
    {r : Value} {R : List Int} (hs : a.eval s = vs) (h : LvI W LL vals vs w) (g : Nat) (hx : a.eval x = .slice (some ⟨g, 0, none⟩) 1 1) (hc : w.heap[g]? = some (.cells #[r] 22)) (h1 : r.oneCell' = true) (hr : InSl W W.heap.size r R) (hn : LL.length ≤ 100000)
    (hK : ∀ v' w', LvI W (LL ++ [R]) (vals ++ [r]) v' w' → w.grownBy w' vs.ownBlock → (v'.ownBlock = vs.ownBlock ∨ v'.ownBlock = some w.heap.size) → K (a.put o.dst v') w') : o.wp Tryd.prog a w K Q := by
  obtain ⟨i0, hi0, hz0, hz1, hz2⟩ := infoS
  obtain ⟨v', w', hr', h2, h3, _, h5⟩ := run_append_own_at (P := Tryd.prog) (w := w) W.heap.size 51 o.type 22 i0 (.slice none 0 0) 1 24 Tryd.underlying51 hi0 hz0 hz1 hz2 rfl (by decide) vs LL.length vals h.own ⟨g, 0, none⟩ 1 1 [r] rfl
    (fun j u hj => by
      rw [add_zero_k]
      simpa [World.cell?, hc] using hj) (fun u hu => by simp at hu; subst hu; exact h1) (by unfold maxLen; omega) (by omega) h.bel.size
  unfold Oper.wp execOp
  simp only [ho, resolve, invoke, builtin, Sem.run_bind, Sem.run_pure, Result.andThen_ok, List.map_toArray, List.map_cons, List.map_nil, hs, hx, hr']
  exact hK _ _ ⟨h.bel.grown h3 h.bel.size fun q e => (h.own.lt q e).1, by rw [List.length_append]; exact h2, h.ele.snoc hr⟩ h3 h5
end
set_option maxRecDepth 100000 in
set_option maxHeartbeats 16000000 in
theorem walk_any {W : World} {T gk gs gl mb gb gw : Nat} (hG : WkB W T gk gs gl mb gb gw) {k : Kx} {seen st : List Int} {A1 A2 As : Option Addr} {c1 c2 cs nn nl ns : Nat} (hnn : k.nd.length = nn) (hnl : k.lv.length = nl) (hns : seen.length = ns)
    (hN : IlSl W W.heap.size (.slice A1 nn c1) k.nd) (hV : VsSl W W.heap.size (.slice A2 nl c2) k.lv) (hS : InSl W W.heap.size (.slice As ns cs) seen) (hk : KSm k) (hok : KOk st k) (hss : ns = st.length) :
    ∀ (d : Nat) (a : Int) (B : List Int) (rb : Option Nat) (X : World), WkS W T gk gs gl mb gb gw k (.slice A1 nn c1) (.slice A2 nl c2) (.slice As ns cs) B (lvsF k B) rb X → -(nl : Int) ≤ a → a < nn → 1 ≤ d → (0 ≤ a → (nn : Int) + 1 ≤ a + d) →
      Calls Tryd.prog 119 #[.int .i64 a, .pointer (some ⟨gb, 0, none⟩), .pointer (some ⟨gl, 0, none⟩), .pointer (some ⟨gk, 0, none⟩), .pointer (some ⟨gs, 0, none⟩), .pointer (some ⟨gw, 0, none⟩)] X
        fun e w' => e = .returned (.tuple #[]) ∧ ∃ rb', WkS W T gk gs gl mb gb gw k (.slice A1 nn c1) (.slice A2 nl c2) (.slice As ns cs) (walkF k seen d B a) (lvsF k (walkF k seen d B a)) rb' w' ∧ Grows rb rb' X ∧ KA T rb X w' := by
  intro d
  induction d with
  | zero => intro a B rb X _ _ _ h; omega
  | succ d ih =>
  intro a B rb X hI ha1 ha2 _ had
  have hn1 : nn ≤ 1000 := by have := hok.nn; omega
  have hn2 : nl ≤ 2000 := by have := hk.2.1; omega
  have HI := Lib.hid hI
  have HM := Lib.hid hI.mp
  have b0 := cell_one hI.bb
  have HWf := Lib.hid (show (Lit.int .i64 a).wf = true from WalkArith.wf_i64 (by omega))
  obtain ⟨bb, hbb⟩ : ∃ b, decide (a ∈ B) = b := ⟨_, rfl⟩
  have HBb := Lib.hid hbb
  have HIh := Lib.hid ih
  have HGb := Lib.hid hG
  have HNd := Lib.hid hN
  have HSm := Lib.hid hk
  have HOk := Lib.hid hok
  have HQ := Lib.hid (And.intro hnn (And.intro hnl (And.intro hns hss)))
  have HLen := Lib.hid (show B.length ≤ 3000 from by
    have := range_len (a := nn) (b := nl) hI.ndp (fun z hz => by have := hI.rg z hz; omega)
    omega)
  cases bb with
  | true =>
    have HF := Lib.hid (show walkF k seen (d + 1) B a = B from walk_mem (of_decide_eq_true HBb.out))
    clear hI ih hbb hG hN hV hS hk hok hnn hnl hns hss had
    go_enter Tryd.func119, Tryd.ntmps119
    go_wp2_with (at_lookup; refine wpList_lookup_mb rfl _ _ rfl HM.out rfl a rfl HWf.out HBb.out ?_)
    refine bodyPost_ret (results_none rfl _ _ _) rfl ?_
    exact ⟨rfl, rb, by rw [HF.out]; exact HI.out, .inl rfl, KA.refl _ _ _⟩
  | false =>
  have HNo := Lib.hid (of_decide_eq_false HBb.out)
  have HLt := Lib.hid (show B.length < maxLen from by have := HLen.out; unfold maxLen; omega)
  have HP1 := Lib.hid (fun (w1 : World) (hM : MB W mb (B.length + 1) (B ++ [a]) w1) (hg : X.grownBy w1 (some mb)) => hI.put hG HNo.out ⟨by omega, by omega⟩ hM hg)
  have HKa := Lib.hid (fun (w1 : World) (hg : X.grownBy w1 (some mb)) => KA.of_row (T := T) (rb := rb) hg (fun r e => by cases e; exact .inl hG.hi.2.2.2.1))
  by_cases h0 : a < 0
  · obtain ⟨j, hj⟩ : ∃ j, (-1 - a).toNat = j := ⟨_, rfl⟩
    have hja : (j : Int) = -1 - a := by omega
    have hjn : j < nl := by omega
    have HSub := Lib.hid (show IntKind.i64.wrap (-1 - a) = (j : Int) from by rw [IntKind.wrap_i64]; omega)
    obtain ⟨ad, u, L, rfl, hadb, hL, hc, hin⟩ := hV.at_ hjn
    have HIn := Lib.hid hin
    obtain ⟨Au, cu, rfl, _⟩ := hin.form
    have HF := Lib.hid (show walkF k seen (d + 1) B a = B ++ [a] ∧ lvsF k (B ++ [a]) = lvsF k B ++ [L] from ⟨walk_leaf HNo.out h0, lvs_neg h0 (by rw [hj]; exact hL)⟩)
    have HC := Lib.hid (fun (w1 : World) (hb : Below W.heap.size W w1) => (hb.cell (p := ad.add j) (by rw [add_block]; exact hadb)).trans hc)
    have HLl := Lib.hid (show (lvsF k B).length ≤ 100000 from by
      unfold lvsF; rw [List.length_map]; have := List.length_filter_le (fun z : Int => decide (z < 0)) B; have := HLen.out; omega)
    obtain ⟨nL, hnL⟩ : ∃ n, L.length = n := ⟨_, rfl⟩
    rw [hnL] at HC HIn
    clear hI ih hbb hG hN hV hS hk hok hnn hnl hns hss had hin hc hL hnL hj hja ha1 ha2 hadb
    go_enter Tryd.func119, Tryd.ntmps119
    go_wp2_with (first | (at_lookup; refine wpList_lookup_mb rfl _ _ rfl HM.out rfl a rfl HWf.out HBb.out ?_) | (at_mapUpdate; refine wpList_put_mb rfl _ _ _ rfl HM.out HLt.out rfl a rfl HWf.out rfl ?_; intro w1 hM1 hg1; have HI1 := Lib.hid (HP1.out w1 hM1 hg1); have HK1 := Lib.hid (HKa.out w1 hg1); have HG1 := Lib.hid hg1.size; obtain ⟨vals, vs, l1, l2, l3, _⟩ := HI1.out.lb; have HL1 := Lib.hid (And.intro l1 (And.intro l2 l3)); have l0 := cell_one l1; have lf := frozen_cells l1 0; obtain ⟨k0, k1⟩ := cells_two HI1.out.kb; have hc := HC.out w1 HI1.out.bel; obtain ⟨Av, nv, cv, rfl⟩ := l2.slice; clear l1 l2 l3 hM1 hg1))
    refine wp_opaque ?_
    intro t0 ht0
    have hsz0 : t0.size = 52 := by rw [ht0]; rfl
    have q0 : t0.getD 0 undef = .int .i64 a := by rw [ht0]; rfl
    have q2 : t0.getD 2 undef = .pointer (some ⟨gl, 0, none⟩) := by rw [ht0]; rfl
    have q3 : t0.getD 3 undef = .pointer (some ⟨gk, 0, none⟩) := by rw [ht0]; rfl
    clear ht0 l0 lf k0 k1 hc
    have HBd := Lib.hid (fun X (hI : Below w1.drew.heap.size w1.drew X) => (Below.refl w1.heap.size w1).drew.trans hI)
    have HIx := Lib.hid (fun X (h : Below w1.heap.size w1 X) => HI1.out.step h)
    have HLx := Lib.hid (fun X (h : Below w1.heap.size w1 X) => And.intro ((h.block _ (Array.getElem?_eq_some_iff.1 HL1.out.1).1).trans HL1.out.1) (HL1.out.2.1.step h))
    refine wp_region_vals [some 17, some 18, some 19, some 20, some 21, some 22, some 23, some 24, some 25, none] (RcI w1.drew (.slice Av nv cv) (.pointer (some ⟨gk, 1, none⟩)) (.slice (some ad) nl c2) (.int .i64 a) (.int .i64 (j : Int)) (.pointer (some (ad.add j))) (.slice Au nL cu)
      (fun v X => ∃ V2, Below w1.heap.size w1 V2 ∧ LvI W (lvsF k B ++ [L]) (vals ++ [.slice Au nL cu]) v X ∧ V2.grownBy X (Value.slice Av nv cv).ownBlock ∧ (v.ownBlock = (Value.slice Av nv cv).ownBlock ∨ v.ownBlock = some V2.heap.size))
      (fun X => ∃ rb', WkS W T gk gs gl mb gb gw k (.slice A1 nn c1) (.slice (some ad) nl c2) (.slice As ns cs) (B ++ [a]) (lvsF k B ++ [L]) rb' X ∧ Grows rb rb' w1 ∧ KA T rb w1 X)) (by kernel_rfl) (by kernel_rfl) rfl rfl (by simp [hsz0]) (by kernel_rfl) ?_ ?_ ?_
    · intro val
      exact ⟨(fun h => nomatch h), (fun h => nomatch h), (fun h => nomatch h), (fun h => nomatch h), (fun h => nomatch h), (fun h => nomatch h), (fun h => nomatch h), fun _ => Below.refl _ _, (fun h => nomatch h), (fun h => nomatch h), (fun h => nomatch h)⟩
    · intro dn q o hi hd hp hc val X a' ha hn hI K hK
      have hq : q < 10 := by
        have := (Array.getElem?_eq_some_iff.1 hi).1
        simpa using this
      have c9 : dn 9 = true → dn 8 = true := fun h => hc 9 _ rfl h ⟨8, .data⟩ (by simp) rfl
      have c8 : dn 8 = true → dn 0 = true ∧ dn 7 = true := fun h => ⟨hc 8 _ rfl h ⟨0, .data⟩ (by simp) rfl, hc 8 _ rfl h ⟨7, .data⟩ (by simp) rfl⟩
      have c7 : dn 7 = true → dn 6 = true := fun h => hc 7 _ rfl h ⟨6, .data⟩ (by simp) rfl
      have c6 : dn 6 = true → dn 5 = true := fun h => hc 6 _ rfl h ⟨5, .data⟩ (by simp) rfl
      have c5 : dn 5 = true → dn 2 = true ∧ dn 4 = true := fun h => ⟨hc 5 _ rfl h ⟨2, .data⟩ (by simp) rfl, hc 5 _ rfl h ⟨4, .data⟩ (by simp) rfl⟩
      have k2 : dn 2 = true → dn 1 = true := fun h => hc 2 _ rfl h ⟨1, .data⟩ (by simp) rfl
      have c4 : dn 4 = true → dn 3 = true := fun h => hc 4 _ rfl h ⟨3, .data⟩ (by simp) rfl
      have bf : ∀ {q : Bool}, (q = true → False) → q = false := fun {q} h => by cases q; rfl; exact (h rfl).elim
      have hB := fun n8 => HBd.out X (hI.bel n8)
      rcases (show q = 0 ∨ q = 1 ∨ q = 2 ∨ q = 3 ∨ q = 4 ∨ q = 5 ∨ q = 6 ∨ q = 7 ∨ q = 8 ∨ q = 9 by omega) with rfl | rfl | rfl | rfl | rfl | rfl | rfl | rfl | rfl | rfl
      · obtain rfl := Option.some.inj hi
        have n8 : dn 8 = false := bf fun h => f_t hd (c8 h).1
        exact opLdT 2 _ _ rfl ((ha 2).trans q2) (cell_one (HLx.out X (hB n8)).1) (hK _ _ hI.op0)
      · obtain rfl := Option.some.inj hi
        exact opFieldK 1 3 _ (by decide) rfl ((ha 3).trans q3) (hK _ _ hI.op1)
      · obtain rfl := Option.some.inj hi
        have y1 := hp ⟨1, .data⟩ (by simp) rfl
        have n8 : dn 8 = false := bf fun h => f_t hd (c5 (c6 (c7 (c8 h).2))).1
        exact opLdT 18 _ _ rfl ((ha 18).trans (hI.s1 y1)) (cells_two (HIx.out X (hB n8)).kb).2 (hK _ _ hI.op2)
      · obtain rfl := Option.some.inj hi
        exact opMove 0 _ rfl ((ha 0).trans q0) (hK _ _ hI.op3)
      · obtain rfl := Option.some.inj hi
        have y3 := hp ⟨3, .data⟩ (by simp) rfl
        exact opSub1 20 _ _ rfl ((ha 20).trans (hI.s3 y3)) HSub.out (hK _ _ hI.op4)
      · obtain rfl := Option.some.inj hi
        have y2 := hp ⟨2, .data⟩ (by simp) rfl
        have y4 := hp ⟨4, .data⟩ (by simp) rfl
        exact opIxS 19 21 nl c2 j ad rfl ((ha 19).trans (hI.s2 y2)) ((ha 21).trans (hI.s4 y4)) hjn (hK _ _ hI.op5)
      · obtain rfl := Option.some.inj hi
        have y5 := hp ⟨5, .data⟩ (by simp) rfl
        have n8 : dn 8 = false := bf fun h => f_t hd (c7 (c8 h).2)
        exact opLdS 22 _ _ rfl ((ha 22).trans (hI.s5 y5)) (HC.out X (HIx.out X (hB n8)).bel) (hK _ _ hI.op6)
      · obtain rfl := Option.some.inj hi
        have y6 := hp ⟨6, .data⟩ (by simp) rfl
        have n8 : dn 8 = false := bf fun h => f_t hd (c8 h).2
        have n9 : dn 9 = false := bf fun h => f_t n8 (c9 h)
        exact opBoxS 23 _ _ _ rfl ((ha 23).trans (hI.s6 y6)) (hK _ _ (hI.op7 n8 n9))
      · obtain rfl := Option.some.inj hi
        have y0 := hp ⟨0, .data⟩ (by simp) rfl
        have y7 := hp ⟨7, .data⟩ (by simp) rfl
        have n9 : dn 9 = false := bf fun h => f_t hd (c9 h)
        obtain ⟨g, e7, h7⟩ := hI.e7 y7 hd
        refine run_app_lv (.tmp 17) (.tmp 24) rfl ((ha 17).trans (hI.s0 y0)) (HLx.out X (hB hd)).2 g ((ha 24).trans e7) h7 rfl HIn.out HLl.out ?_
        intro v' w' hL' hg' ho'
        exact hK _ _ (hI.op8 n9 ⟨X, hB hd, hL', hg', ho'⟩)
      · obtain rfl := Option.some.inj hi
        have y8 := hp ⟨8, .data⟩ (by simp) rfl
        obtain ⟨V2, hV2, hL2, hg2, ho2⟩ := hI.e8 y8 hd
        obtain ⟨A9, n9, d9, e9⟩ := hL2.slice
        have hl2 := (HLx.out V2 hV2).1
        obtain ⟨hYl, hS9, hGr9, hK9⟩ := (HIx.out V2 hV2).leaf HGb.out hl2 HL1.out.2.2 hL2 hg2 (by
          rcases ho2 with h | h
          · exact .inl h
          · exact .inr ⟨_, h, Nat.le_refl _⟩)
        rw [e9] at hS9 hGr9 hK9
        refine opStoreT 2 25 gl _ _ _ _ rfl ((ha 2).trans q2) ((ha 25).trans e9) hYl (fun u => hK u _ (hI.op9 (v := u) y8 ⟨_, hS9, ?_, (KA.of_below hV2).trans hK9⟩))
        rcases hGr9 with h | ⟨q, h, hq⟩
        · exact .inl h
        · exact .inr ⟨q, h, Nat.le_trans hV2.size hq⟩
    · intro dn val X' hdn hI
      have HR := Lib.hid (hI.e9 (hdn 9 (by simp)))
      simp only [Exit.then]
      clear hdn hI
      (try go_wp2_with fail)
      (try rw [Exit.noGoto_ret])
      refine bodyPost_ret (results_none rfl _ _ _) rfl ?_
      obtain ⟨rb', h1, h2, h3⟩ := HR.out
      refine ⟨rfl, rb', by rw [HF.out.1, HF.out.2]; exact h1, ?_, HK1.out.trans h3⟩
      rcases h2 with h | ⟨q, h, hq⟩
      · exact .inl h
      · exact .inr ⟨q, h, Nat.le_trans HG1.out hq⟩
  · obtain ⟨i, rfl⟩ : ∃ i : Nat, a = (i : Int) := ⟨a.toNat, by omega⟩
    have hin : i < nn := by omega
    obtain ⟨r, ad, Am, cm, hr, rfl, hY⟩ := hN.at_ hin
    have hrk := hok.nd i r hr
    obtain ⟨c, hc⟩ : ∃ c : Nat, r.nm = (c : Int) := ⟨r.nm.toNat, by omega⟩
    have hcn : c < ns := by omega
    obtain ⟨q, hq⟩ : ∃ q, r.may.length = q := ⟨_, rfl⟩
    have hq16 : q ≤ 16 := by
      have h1 : st[c]? = some st[c] := List.getElem?_eq_getElem (by omega)
      have h2 := hok.sv c _ h1
      have h3 := hrk.2.2.1
      rw [hc, Int.toNat_natCast, List.getD_eq_getElem?_getD, h1, hq] at h3
      simp only [Option.getD_some] at h3
      omega
    have HY := Lib.hid hY
    have HQl := Lib.hid hq
    have HCn := Lib.hid hc
    obtain ⟨y, adS, hy, rfl, hadS, hcy⟩ := (show InA W W.heap.size As seen from by obtain ⟨_, _, e, _, _, h⟩ := hS; cases e; exact h).at_ hns hcn
    have HCs := Lib.hid (fun (w1 : World) (hb : Below W.heap.size W w1) => (hb.cell (p := adS.add c) (by rw [add_block]; exact hadS)).trans hcy)
    have HYs := Lib.hid (show seen.getD c 0 = y from by rw [List.getD_eq_getElem?_getD, hy]; rfl)
    have HF := Lib.hid (walk_node (seen := seen) (d := d) HNo.out hr)
    have HLv := Lib.hid (lvs_nn (k := k) (B := B) (show (0 : Int) ≤ (i : Int) by omega))
    have HMy := Lib.hid hrk.2.2.2
    have hd1 : 1 ≤ d := by omega
    have HD := Lib.hid (show (nn : Int) + 1 ≤ (i : Int) + ((d : Int) + 1) from by have := had (by omega); omega)
    obtain ⟨Bt, hBt⟩ : ∃ Bt : Nat → List Int, Bt = fun t => (r.may.zipIdx.take t).foldl (wkStep k seen d r.nm) (B ++ [(i : Int)]) := ⟨_, rfl⟩
    have HB0 := Lib.hid (show Bt 0 = B ++ [(i : Int)] from by rw [hBt]; rfl)
    have HBn := Lib.hid (fun (t : Nat) (x : Int) (hx : r.may[t]? = some x) => show Bt (t + 1) = wkStep k seen d r.nm (Bt t) (x, t) from by rw [hBt]; exact fold_next (idx_getI hx) _)
    have HBe := Lib.hid (show Bt q = walkF k seen (d + 1) B (i : Int) from by rw [hBt, HF.out]; simp only; rw [List.take_of_length_le (by rw [List.length_zipIdx, hq]; exact Nat.le_refl _)])
    have HSt := Lib.hid (fun (t : Nat) (z x : Int) (B : List Int) (hz : bits BinOp.and IntKind.i64 y (2 ^ t) = z) => show wkStep k seen d r.nm B (x, t) = if z ≠ 0 then walkF k seen d B x else B from by
      unfold wkStep bitF
      rw [hc, Int.toNat_natCast, HYs.out]
      show (if decide (bits BinOp.and IntKind.i64 y (2 ^ t) ≠ 0) = true then _ else _) = _
      rw [hz]
      by_cases h : z = 0 <;> simp [h])
    clear hI ih hbb hG hN hV hS hk hok hnn hnl hns hss had hr hY hrk hq hc hy hadS hcy hBt HF
    have hi0 : ¬ (i : Int) < 0 := h0
    clear h0
    go_enter Tryd.func119, Tryd.ntmps119
    go_wp2_with (first | (at_lookup; refine wpList_lookup_mb rfl _ _ rfl HM.out rfl (i : Int) rfl HWf.out HBb.out ?_) | (at_mapUpdate; refine wpList_put_mb rfl _ _ _ rfl HM.out HLt.out rfl (i : Int) rfl HWf.out rfl ?_; intro w1 hM1 hg1; have HI1 := Lib.hid (HP1.out w1 hM1 hg1); have HK1 := Lib.hid (HKa.out w1 hg1); have HG1 := Lib.hid hg1.size; obtain ⟨k0, k1⟩ := cells_two HI1.out.kb; obtain ⟨d0, d1⟩ := (HY.out w1 HI1.out.bel).1; rw [HCn.out] at d0; rw [HQl.out] at d1; clear hM1 hg1))
    obtain ⟨V, hV⟩ : ∃ V, w1.alloc (.cells #[.int .i64 (c : Int), .slice Am q cm] 65) = V := ⟨_, rfl⟩
    rw [hV]
    have hbV := below_new (w := w1) (.cells #[.int .i64 (c : Int), .slice Am q cm] 65)
    have hnV := World.alloc_heap_new w1 (.cells #[.int .i64 (c : Int), .slice Am q cm] 65)
    rw [hV] at hbV hnV
    have HIV := Lib.hid (HI1.out.step hbV)
    have HBV := Lib.hid hbV
    have HNV := Lib.hid hnV
    have HNe := Lib.hid (show some w1.heap.size ≠ rb from fun e => by have := (HI1.out.rbt e.symm).2; omega)
    clear k0 k1 d0 d1 hV hbV hnV
    go_loopw [34] (fun iv wr => ∃ (t : Nat) (rb2 : Option Nat), iv = .int .i64 (t : Int) ∧ t ≤ q ∧ WkS W T gk gs gl mb gb gw k (.slice (some ad) nn c1) (.slice A2 nl c2) (.slice (some adS) ns cs) (Bt t) (lvsF k (Bt t)) rb2 wr ∧ Grows rb rb2 V ∧ KA T rb V wr) (fun iv _ => q - (intOf iv).toNat)
    case atStart => exact ⟨0, rb, rfl, by omega, by rw [HB0.out, HLv.out]; exact HIV.out, .inl rfl, KA.refl _ _ _⟩
    case round =>
      obtain ⟨t, rb2, rfl, htq, hI2, hgr, hka⟩ := hrel
      have HI2 := Lib.hid hI2
      have HGr := Lib.hid hgr
      have HKa2 := Lib.hid hka
      have hnb := hka.same _ _ HI1.out.top HNV.out HNe.out
      have HNb := Lib.hid hnb
      clear hI2 hgr hka hnb
      by_cases hlt : t < q
      · obtain ⟨x, adm, hx, rfl, _, hcx⟩ := (show InA wr wr.heap.size Am r.may from by obtain ⟨_, _, e, _, _, h⟩ := (HY.out wr HI2.out.bel).2; cases e; exact h).at_ HQl.out hlt
        have HX := Lib.hid hx
        have HSo := Lib.hid (fun z : World => setOf_any t z (by omega))
        have hxr := HMy.out x (List.mem_of_getElem? hx)
        have HXr := Lib.hid (show -(nl : Int) ≤ x ∧ x < nn ∧ (0 ≤ x → (nn : Int) + 1 ≤ x + d) from ⟨by have := HQ.out.2.1; omega, by have := HQ.out.1; omega, fun h => by have := HD.out; have := hxr.2.2 h; omega⟩)
        have ss := fun z : Wb wr => And.intro (cell_one (HI2.out.step z.h).sb) (And.intro (cells_two ((z.h.block _ (Array.getElem?_eq_some_iff.1 HNb.out).1).trans HNb.out)) (HCs.out z.v (HI2.out.step z.h).bel))
        have HSs := Lib.hid ss
        obtain ⟨z, hz⟩ : ∃ z, bits BinOp.and IntKind.i64 y (2 ^ t) = z := ⟨_, rfl⟩
        have HZ := Lib.hid hz
        clear ss hx hxr
        by_cases h0 : z = 0
        · have HN1 := Lib.hid (show Bt (t + 1) = Bt t from by rw [HBn.out t x HX.out, HSt.out t z x _ HZ.out, h0]; simp)
          have ss := HSs.out
          go_wp2_with fail
          refine wp_region_wb (by kernel_rfl) (by kernel_rfl) ?_; (repeat ((with_reducible refine wpQuiet_step ?_); intro K hK; go_simp; (try (refine ite_neg_of (by simp [undef]) ?_)); first | (with_reducible refine hK _ ?_; clear hK K) | (apply Exists.intro; (with_reducible refine ⟨fun _ => ?_, hK _ ?_⟩); ((go_at_call 120; exact Calls.wb0 (HSo.out _))); clear hK K))); (with_reducible refine wpQuiet_nil ?_); rintro w1 ⟨⟨_, hb1⟩, rfl⟩; (try dsimp only)
          have HB1 := Lib.hid hb1
          clear hb1 ss hcx
          go_wp2_with fail
          go_roundw
          case rel => exact ⟨t + 1, rb2, by go_num, by omega, by rw [HN1.out]; exact HI2.out.step HB1.out, HGr.out, HKa2.out.trans (KA.of_below HB1.out)⟩
          case measure => simp [intOf]; try omega
        · have HN1 := Lib.hid (show Bt (t + 1) = walkF k seen d (Bt t) x from by rw [HBn.out t x HX.out, HSt.out t z x _ HZ.out, if_pos h0])
          have ss := HSs.out
          go_wp2_with fail
          refine wp_region_wb (by kernel_rfl) (by kernel_rfl) ?_; (repeat ((with_reducible refine wpQuiet_step ?_); intro K hK; go_simp; (try (refine ite_neg_of (by simp [undef]) ?_)); first | (with_reducible refine hK _ ?_; clear hK K) | (apply Exists.intro; (with_reducible refine ⟨fun _ => ?_, hK _ ?_⟩); ((go_at_call 120; exact Calls.wb0 (HSo.out _))); clear hK K))); (with_reducible refine wpQuiet_nil ?_); rintro w1 ⟨⟨_, hb1⟩, rfl⟩; (try dsimp only)
          have HB1 := Lib.hid hb1
          have g0 := cell_one (HI2.out.step hb1).wb
          have HC := Lib.hid (HIh.out x (Bt t) rb2 _ (HI2.out.step hb1) HXr.out.1 HXr.out.2.1 hd1 HXr.out.2.2)
          clear hb1 ss hcx
          go_wp2_with fail
          (with_reducible refine HC.out.mono ?_)
          rintro e w4 ⟨rfl, rb4, hI4, hgr4, hka4⟩
          have H4 := Lib.hid (And.intro hI4 (And.intro hgr4 hka4))
          clear hI4 hgr4 hka4 g0 HC
          go_wp2_with fail
          go_roundw
          case rel => exact ⟨t + 1, rb4, by go_num, by omega, by rw [HN1.out]; exact H4.out.1, HGr.out.trans2 (HKa2.out.trans (KA.of_below HB1.out)).size H4.out.2.1, (HKa2.out.trans (KA.of_below HB1.out)).trans2 HGr.out H4.out.2.2⟩
          case measure => simp [intOf]; try omega
      · obtain rfl : q = t := by omega
        go_wp2_with fail
        go_end0
        refine ⟨rfl, rb2, by rw [← HBe.out]; exact HI2.out, ?_, (HK1.out.trans (KA.of_below HBV.out)).trans HKa2.out⟩
        rcases HGr.out with h | ⟨g, h, hg⟩
        · exact .inl h
        · exact .inr ⟨g, h, Nat.le_trans (Nat.le_trans HG1.out HBV.out.size) hg⟩
end Go.Proofs.YthfegbcbpeedbaaDoor
