
/- A row of lists of the call's own. -/
import Derived.Test.YtplpogonkfnafaaGreatNmBf
import Derived.Test.YtplpogonkfnafaaGreatNmBe
import Derived.Maps.AppendAt
namespace Go.Proofs.YtplpogonkfnafaaGreat
open Go.RowKit Go.Nm

/-- vs is a row of the call's own, with these lists; none of them lies in the row itself -/
structure SlI (W : World) (LL : List (List Int)) (vals : List Value) (vs : Value) (X : World) : Prop where
  bel : Below W.heap.size W X
  own : X.ownsRow W.heap.size 22 1 vs LL.length vals
  ele : VsA X X.heap.size vals LL
  off : ∀ u ∈ vals, ∀ g, u.ownBlock = some g → vs.ownBlock ≠ some g ∧ g < X.heap.size
section
variable {W : World} {LL : List (List Int)} {vals : List Value} {vs : Value} {X Y : World}
theorem SlI.step (h : SlI W LL vals vs X) (hb : Below X.heap.size X Y) : SlI W LL vals vs Y :=
  ⟨h.bel.trans (hb.mono h.bel.size), own_step h.own hb, (h.ele.below hb).mono hb.size, fun u hu g e => ⟨(h.off u hu g e).1, Nat.lt_of_lt_of_le (h.off u hu g e).2 hb.size⟩⟩
theorem SlI.start (W : World) : SlI W [] [] (.slice none 0 0) W :=
  ⟨Below.refl _ _, World.ownsRow_nil _ _ _ _, ⟨rfl, fun i v L h => by simp at h⟩, fun u hu => by simp at hu⟩
theorem SlI.push {vs' r : Value} {R : List Int} (h : SlI W LL vals vs X) (hg : X.grownBy Y vs.ownBlock) (ho : Y.ownsRow W.heap.size 22 1 vs' (LL.length + 1) (vals ++ [r]))
    (hob : vs'.ownBlock = vs.ownBlock ∨ vs'.ownBlock = some X.heap.size) (hr : InSl X X.heap.size r R) (hro : ∀ g, r.ownBlock = some g → vs.ownBlock ≠ some g ∧ g < X.heap.size) :
    SlI W (LL ++ [R]) (vals ++ [r]) vs' Y := by
  have hkeep : ∀ (u : Value), (∀ g, u.ownBlock = some g → vs.ownBlock ≠ some g ∧ g < X.heap.size) → ∀ p : Addr, u.ownBlock = some p.block → Y.cell? p = X.cell? p := fun u hu p hp => by
    obtain ⟨a1, a3⟩ := hu _ hp
    exact World.cell?_of_block (hg.block _ a3 fun e => a1 e.symm)
  refine ⟨h.bel.grown hg h.bel.size (fun r e => (h.own.lt r e).1), by rw [List.length_append]; exact ho, ?_, ?_⟩
  · refine ⟨by simp [h.ele.1], fun i v L h1 h2 => ?_⟩
    by_cases hi : i < vals.length
    · rw [List.getElem?_append_left hi] at h1
      rw [List.getElem?_append_left (by rw [← h.ele.1]; exact hi)] at h2
      exact ((h.ele.2 i v L h1 h2).keepOwn (hkeep v (h.off v (List.mem_of_getElem? h1)))).mono hg.size
    · rw [List.getElem?_append_right (by omega)] at h1
      rw [List.getElem?_append_right (by rw [← h.ele.1]; omega)] at h2
      have e1 : i - vals.length = 0 := by have := (List.getElem?_eq_some_iff.1 h1).1; simp at this; omega
      rw [e1] at h1
      rw [← h.ele.1, e1] at h2
      simp at h1 h2
      subst h1; subst h2
      exact (hr.keepOwn (hkeep r hro)).mono hg.size
  · intro u hu g e
    have key : vs.ownBlock ≠ some g ∧ g < X.heap.size := by
      rcases List.mem_append.1 hu with hu | hu
      · exact h.off u hu g e
      · simp at hu; subst hu; exact hro g e
    refine ⟨?_, Nat.lt_of_lt_of_le key.2 hg.size⟩
    rcases hob with e2 | e2
    · rw [e2]; exact key.1
    · rw [e2]; intro e3; injection e3 with e3; omega
theorem SlI.sl (h : SlI W LL vals vs X) : VsSl X X.heap.size vs LL := by
  rcases h.own.2 with ⟨e, h0⟩ | ⟨g, cap, cur, e, hb, hg, h1, h2, h3, h4⟩
  · have hl := List.length_eq_zero_iff.1 h0
    subst hl
    have hv : vals = [] := List.length_eq_zero_iff.1 (by rw [h.ele.1]; rfl)
    subst hv
    exact ⟨none, 0, [], by rw [e]; rfl, h.ele, fun i u hu => by simp at hu⟩
  · refine ⟨_, _, vals, e, h.ele, fun i u hu => ⟨_, rfl, (Array.getElem?_eq_some_iff.1 hg).1, ?_⟩⟩
    exact h.own.cells (g := g) (by rw [e]; rfl) i u hu
theorem SlI.lt (h : SlI W LL vals vs X) {g : Nat} (e : vs.ownBlock = some g) : W.heap.size ≤ g ∧ g < X.heap.size := h.own.lt g e
/-- an append of one list to it -/
theorem run_append_sl {o : Oper} {a : Act} {w : World} {K : Act → World → Prop} {Q : Exit → Act → World → Prop} (s x : Operand) (ho : o.op = .call { callee := .builtin .append, args := #[s, x], argTypes := #[28, 28] })
    {r : Value} {R : List Int} (hs : a.eval s = vs) (h : SlI W LL vals vs w) (g : Nat) (hx : a.eval x = .slice (some ⟨g, 0, none⟩) 1 1) (hc : w.heap[g]? = some (.cells #[r] 22)) (h1 : r.oneCell' = true) (hr : InSl w w.heap.size r R) (hro : ∀ g, r.ownBlock = some g → vs.ownBlock ≠ some g ∧ g < w.heap.size) (hn : LL.length ≤ 100000)
    (hK : ∀ v' w', SlI W (LL ++ [R]) (vals ++ [r]) v' w' → w.grownBy w' vs.ownBlock → (v'.ownBlock = vs.ownBlock ∨ v'.ownBlock = some w.heap.size) → K (a.put o.dst v') w') : o.wp Tryz.prog a w K Q := by
  obtain ⟨i0, hi0, hz0, hz1, hz2⟩ := infoS
  obtain ⟨v', w', hr', h2, h3, _, h5⟩ := run_append_own_at (P := Tryz.prog) (w := w) W.heap.size 28 o.type 22 i0 (.slice none 0 0) 1 24 Tryz.underlying28 hi0 hz0 hz1 hz2 rfl (by decide) vs LL.length vals h.own ⟨g, 0, none⟩ 1 1 [r] rfl
    (fun j u hj => by
      have e : (⟨g, 0, none⟩ : Addr).add j = ⟨g, j, none⟩ := by
        unfold Addr.add
        split
        · rename_i h; rw [h]
        · simp
      rw [e]
      simpa [World.cell?, hc] using hj) (fun u hu => by simp at hu; subst hu; exact h1) (by unfold maxLen; omega) (by omega) h.bel.size
  unfold Oper.wp execOp
  simp only [ho, resolve, invoke, builtin, Sem.run_bind, Sem.run_pure, Result.andThen_ok, List.map_toArray, List.map_cons, List.map_nil, hs, hx, hr']
  exact hK v' w' (h.push h3 h2 h5 hr hro) h3 h5
theorem wpList_app_sl {ops : Array Oper} {rest : List Oper} {o : Oper} {a : Act} {Q : Exit → Act → World → Prop} {w : World} (hgd : o.guard = none) (s x : Operand) (ho : o.op = .call { callee := .builtin .append, args := #[s, x], argTypes := #[28, 28] })
    {r : Value} {R : List Int} (hs : a.eval s = vs) (h : SlI W LL vals vs w) (g : Nat) (hx : a.eval x = .slice (some ⟨g, 0, none⟩) 1 1) (hc : w.heap[g]? = some (.cells #[r] 22)) (h1 : r.oneCell' = true) (hr : InSl w w.heap.size r R) (hro : ∀ g, r.ownBlock = some g → vs.ownBlock ≠ some g ∧ g < w.heap.size) (hn : LL.length ≤ 100000)
    (hK : ∀ v' w', SlI W (LL ++ [R]) (vals ++ [r]) v' w' → w.grownBy w' vs.ownBlock → (v'.ownBlock = vs.ownBlock ∨ v'.ownBlock = some w.heap.size) → wpList Tryz.prog ops Q rest (a.put o.dst v') w') : wpList Tryz.prog ops Q (o :: rest) a w :=
  wpList_plain hgd fun _ hK2 => run_append_sl s x ho hs h g hx hc h1 hr hro hn fun v' w' a b c => hK2 _ _ (hK v' w' a b c)
end
/-- an append to an own row of numbers, as one operation -/
theorem run_appN {o : Oper} {a : Act} {W w : World} {B : Nat} {v u : Value} {pre M : List Int} {K : Act → World → Prop} {Q : Exit → Act → World → Prop} (s x : Operand) (ho : o.op = .call { callee := .builtin .append, args := #[s, x], argTypes := #[22, 22] })
    (hO : OwN W v pre w) (hs : a.eval s = v) (hx : a.eval x = u) (hM : InSl w B u M) (hl : pre.length + M.length ≤ 3000000)
    (h : ∀ v' w', OwN W v' (pre ++ M) w' → w.grownBy w' v.ownBlock → (v'.ownBlock = v.ownBlock ∨ v'.ownBlock = some w.heap.size) → K (a.put o.dst v') w') : o.wp Tryz.prog a w K Q := by
  obtain ⟨A, c, rfl, hc, hcm, hA⟩ := hM
  obtain ⟨i0, hi0, hz0, hz1, hz2⟩ := infoI
  cases A with
  | none =>
    have h0 := hA.none_nil
    subst h0
    have hrun := run_append_nil (P := Tryz.prog) (w := w) W.heap.size 22 o.type 3 i0 1 c Tryz.underlying22 hi0 v pre.length (intsV pre) hO.own
    unfold Oper.wp
    simp [execOp, ho, resolve, invoke, builtin, hs, hx, hrun, Result.andThen]
    exact h v w (by rw [List.append_nil]; exact hO) (grown_of_below (Below.refl _ _) _) (.inl rfl)
  | some ad =>
    obtain ⟨v', w', hr', h2, h3, _, h5⟩ := run_append_own_at (P := Tryz.prog) (w := w) W.heap.size 22 o.type 3 i0 (.int .i64 0) 1 8 Tryz.underlying22 hi0 hz0 hz1 hz2 rfl (by decide) v pre.length (intsV pre) hO.own ad M.length c (intsV M) (by rw [intsV_len, Nat.mul_one]) hA.cells (intsV_one M) (by unfold maxLen; omega) (by omega) hO.bound
    unfold Oper.wp execOp
    simp only [ho, resolve, invoke, builtin, Sem.run_bind, Sem.run_pure, Result.andThen_ok, List.map_toArray, List.map_cons, List.map_nil, hs, hx, hr']
    exact h v' w' (hO.grown (M := M) (Below.refl _ _) h3 h2) h3 h5
/-- a list apart from an own row -/
structure Ap (X : World) (vs u : Value) (L : List Int) : Prop where
  sl : InSl X X.heap.size u L
  off : ∀ g, u.ownBlock = some g → vs.ownBlock ≠ some g ∧ g < X.heap.size
theorem Ap.step {X Y : World} {vs u : Value} {L : List Int} (h : Ap X vs u L) (hb : Below X.heap.size X Y) : Ap Y vs u L :=
  ⟨h.sl.step hb, fun g e => ⟨(h.off g e).1, Nat.lt_of_lt_of_le (h.off g e).2 hb.size⟩⟩
theorem Ap.push {X Y : World} {vs vs' u : Value} {L : List Int} (h : Ap X vs u L) (hg : X.grownBy Y vs.ownBlock) (hob : vs'.ownBlock = vs.ownBlock ∨ vs'.ownBlock = some X.heap.size) : Ap Y vs' u L := by
  refine ⟨(h.sl.keepOwn fun p hp => ?_).mono hg.size, fun g e => ⟨?_, Nat.lt_of_lt_of_le (h.off g e).2 hg.size⟩⟩
  · obtain ⟨a1, a3⟩ := h.off _ hp
    exact World.cell?_of_block (hg.block _ a3 fun e => a1 e.symm)
  · rcases hob with e2 | e2
    · rw [e2]; exact (h.off g e).1
    · rw [e2]; intro e3; injection e3 with e3; have := (h.off g e).2; omega
end Go.Proofs.YtplpogonkfnafaaGreat
