/- A row of changes of the call's own, and the box of the book that grows. -/
import Derived.Test.YtplpogonkfnafaaNmTu
import Derived.Test.YtplpogonkfnafaaNmSl
namespace Go.Proofs.Ytplpogonkfnafaa
open Go.RowKit Go.Nm

theorem infoC : ∃ i, Try.prog.info? 52 = some i ∧ i.zero = some (.agg #[.int .i64 0, .slice none 0 0, .slice none 0 0]) ∧ i.size = 3 ∧ i.bytes = 56 := by
  have h : (Try.prog.info? 52).map (fun i => (i.zero, i.size, i.bytes)) = some (some (.agg #[.int .i64 0, .slice none 0 0, .slice none 0 0]), 3, 56) := by kernel_rfl
  cases h2 : Try.prog.info? 52 with
  | none => rw [h2] at h; cases h
  | some i =>
    rw [h2] at h
    simp only [Option.map_some, Option.some.injEq, Prod.mk.injEq] at h
    exact ⟨i, rfl, h.1, h.2.1, h.2.2⟩
/-- the cells of some changes -/
def Els (E : Ch → Value → Value → Prop) (L : List Ch) (vals : List Value) : Prop := vals.length = L.length * 3 ∧ ∀ (i : Nat) (x : Ch), L[i]? = some x → ∃ vf vt, vals[i * 3]? = some (.int .i64 x.yr) ∧ vals[i * 3 + 1]? = some vf ∧ vals[i * 3 + 2]? = some vt ∧ E x vf vt
theorem Els.nil (E : Ch → Value → Value → Prop) : Els E [] [] := ⟨rfl, fun i x h => by simp at h⟩
theorem Els.mono {E E' : Ch → Value → Value → Prop} {L : List Ch} {vals : List Value} (h : Els E L vals) (hE : ∀ x vf vt, E x vf vt → E' x vf vt) : Els E' L vals := ⟨h.1, fun i x hx => by
  obtain ⟨vf, vt, h1, h2, h3, h4⟩ := h.2 i x hx
  exact ⟨vf, vt, h1, h2, h3, hE x vf vt h4⟩⟩
theorem Els.snoc {E : Ch → Value → Value → Prop} {L : List Ch} {vals : List Value} (h : Els E L vals) {x : Ch} {vf vt : Value} (hx : E x vf vt) : Els E (L ++ [x]) (vals ++ [.int .i64 x.yr, vf, vt]) := by
  refine ⟨by rw [List.length_append, List.length_append, h.1]; simp; omega, fun i y hy => ?_⟩
  by_cases hi : i < L.length
  · rw [List.getElem?_append_left hi] at hy
    obtain ⟨vf, vt, h1, h2, h3, h4⟩ := h.2 i y hy
    have hl := h.1
    exact ⟨vf, vt, (List.getElem?_append_left (by omega)).trans h1, (List.getElem?_append_left (by omega)).trans h2, (List.getElem?_append_left (by omega)).trans h3, h4⟩
  · rw [List.getElem?_append_right (by omega)] at hy
    have e1 : i - L.length = 0 := by have := (List.getElem?_eq_some_iff.1 hy).1; simp at this; omega
    rw [e1] at hy
    simp at hy
    subst hy
    have hl := h.1
    have e : i = L.length := by omega
    subst e
    refine ⟨vf, vt, ?_, ?_, ?_, hx⟩
    · rw [List.getElem?_append_right (by omega), hl, Nat.sub_self]; rfl
    · rw [List.getElem?_append_right (by omega), hl, show L.length * 3 + 1 - L.length * 3 = 1 by omega]; rfl
    · rw [List.getElem?_append_right (by omega), hl, show L.length * 3 + 2 - L.length * 3 = 2 by omega]; rfl
theorem add3 (g i : Nat) : (⟨g, 0, none⟩ : Addr).add i = ⟨g, i, none⟩ := add_zero_k g i
theorem els_sl {E : Ch → Value → Value → Prop} {L : List Ch} {vals : List Value} {X : World} {B : Nat} {vs : Value} (h : Els E L vals) (ho : X.ownsRow B 52 3 vs L.length vals) (hE : ∀ x vf vt, E x vf vt → InSl X X.heap.size vf x.fr ∧ InSl X X.heap.size vt x.to) : ChSl X X.heap.size vs L := by
  rcases ho.2 with ⟨e, h0⟩ | ⟨g, cap, cur, e, hb, hg, h1, h2, h3, h4⟩
  · have hl := List.length_eq_zero_iff.1 h0
    subst hl
    exact ⟨none, 0, by rw [e]; rfl, fun i x hx => by simp at hx⟩
  · refine ⟨_, _, e, fun i x hx => ?_⟩
    obtain ⟨vf, vt, c0, c1, c2, hv⟩ := h.2 i x hx
    have hc := ho.cells (g := g) (by rw [e]; rfl)
    refine ⟨⟨g, 0, none⟩, vf, vt, rfl, (Array.getElem?_eq_some_iff.1 hg).1, ?_, ?_, ?_, (hE x vf vt hv).1, (hE x vf vt hv).2⟩
    · exact hc (i * 3) _ c0
    · rw [add3]
      have := hc (i * 3 + 1) _ c1
      rw [add3] at this
      exact this
    · rw [add3]
      have := hc (i * 3 + 2) _ c2
      rw [add3] at this
      exact this
/-- an append of one change to it -/
theorem run_append_ch {o : Oper} {a : Act} {w : World} {K : Act → World → Prop} {Q : Exit → Act → World → Prop} {B n : Nat} {vals : List Value} {vs : Value} (s x : Operand) (ho : o.op = .call { callee := .builtin .append, args := #[s, x], argTypes := #[23, 23] })
    {y : Int} {vf vt : Value} (hs : a.eval s = vs) (h : w.ownsRow B 52 3 vs n vals) (hB : B ≤ w.heap.size) (g : Nat) (hx : a.eval x = .slice (some ⟨g, 0, none⟩) 1 1) (hc : w.heap[g]? = some (.cells #[.int .i64 y, vf, vt] 52)) (h1 : vf.oneCell' = true) (h2 : vt.oneCell' = true) (hn : n ≤ 100000)
    (hK : ∀ v' w', w'.ownsRow B 52 3 v' (n + 1) (vals ++ [.int .i64 y, vf, vt]) → w.grownBy w' vs.ownBlock → (v'.ownBlock = vs.ownBlock ∨ v'.ownBlock = some w.heap.size) → K (a.put o.dst v') w') : o.wp Try.prog a w K Q := by
  obtain ⟨i0, hi0, hz0, hz1, hz2⟩ := infoC
  obtain ⟨v', w', hr', h2, h3, _, h5⟩ := run_append_own_at (P := Try.prog) (w := w) B 23 o.type 52 i0 _ 3 56 Try.underlying23 hi0 hz0 hz1 hz2 rfl (by decide) vs n vals h ⟨g, 0, none⟩ 1 1 [.int .i64 y, vf, vt] rfl
    (fun j u hj => by rw [add3]; simpa [World.cell?, hc] using hj) (fun u hu => by simp at hu; rcases hu with rfl | rfl | rfl; rfl; exact h1; exact h2) (by unfold maxLen; omega) (by omega) hB
  unfold Oper.wp execOp
  simp only [ho, resolve, invoke, builtin, Sem.run_bind, Sem.run_pure, Result.andThen_ok, List.map_toArray, List.map_cons, List.map_nil, hs, hx, hr']
  exact hK v' w' h2 h3 h5
/-- a list whose row is no other's -/
def Fr (B : Nat) (X : World) (u : Value) (L : List Int) : Prop := InSl X X.heap.size u L ∧ ∀ g, u.ownBlock = some g → B ≤ g ∧ g < X.heap.size
theorem Fr.step {B : Nat} {X Y : World} {u : Value} {L : List Int} (h : Fr B X u L) (hb : Below X.heap.size X Y) : Fr B Y u L := ⟨h.1.step hb, fun g e => ⟨(h.2 g e).1, Nat.lt_of_lt_of_le (h.2 g e).2 hb.size⟩⟩
theorem Fr.low {B B' : Nat} {X : World} {u : Value} {L : List Int} (h : Fr B X u L) (hb : B' ≤ B) : Fr B' X u L := ⟨h.1, fun g e => ⟨Nat.le_trans hb (h.2 g e).1, (h.2 g e).2⟩⟩
theorem OwN.fr {W X : World} {u : Value} {L : List Int} (h : OwN W u L X) : Fr W.heap.size X u L := ⟨h.sl, fun g e => h.own.lt g e⟩
theorem Fr.one {B : Nat} {X : World} {u : Value} {L : List Int} (h : Fr B X u L) : u.oneCell' = true := by
  obtain ⟨A, c, rfl, _⟩ := h.1.form
  rfl
/-- it lies apart from the row and from the box -/
def Fa (lo gb : Nat) (vs : Value) (X : World) (u : Value) (L : List Int) : Prop := InSl X X.heap.size u L ∧ ∀ g, u.ownBlock = some g → lo ≤ g ∧ g ≠ gb ∧ vs.ownBlock ≠ some g ∧ g < X.heap.size
theorem Fa.step {lo gb : Nat} {vs : Value} {X Y : World} {u : Value} {L : List Int} (h : Fa lo gb vs X u L) (hb : Below X.heap.size X Y) : Fa lo gb vs Y u L := ⟨h.1.step hb, fun g e => ⟨(h.2 g e).1, (h.2 g e).2.1, (h.2 g e).2.2.1, Nat.lt_of_lt_of_le (h.2 g e).2.2.2 hb.size⟩⟩
theorem keep_grown {X Y : World} {q : Option Nat} {u : Value} {L : List Int} (h : InSl X X.heap.size u L) (ho : ∀ g, u.ownBlock = some g → q ≠ some g ∧ g < X.heap.size) (hg : X.grownBy Y q) : InSl Y Y.heap.size u L :=
  (h.keepOwn (w' := Y) fun p hp => by
    obtain ⟨a2, a3⟩ := ho _ hp
    exact World.cell?_of_block (hg.block _ a3 fun e => a2 e.symm)).mono hg.size
theorem Fa.push {lo gb : Nat} {vs vs' : Value} {X Y : World} {u v : Value} {L : List Int} {k : Nat} (h : Fa lo gb vs X u L) (hg : X.grownBy Y vs.ownBlock) (hob : vs'.ownBlock = vs.ownBlock ∨ vs'.ownBlock = some X.heap.size) : Fa lo gb vs' (Y.setCell ⟨gb, k, none⟩ v) u L := by
  have hst := setCell_grown' Y gb k v
  have h1 := keep_grown h.1 (fun g e => ⟨(h.2 g e).2.2.1, (h.2 g e).2.2.2⟩) hg
  have h2 := keep_grown h1 (fun g e => ⟨fun e2 => (h.2 g e).2.1 (by injection e2 with e2; exact e2.symm), Nat.lt_of_lt_of_le (h.2 g e).2.2.2 hg.size⟩) hst
  refine ⟨h2, fun g e => ⟨(h.2 g e).1, (h.2 g e).2.1, ?_, Nat.lt_of_lt_of_le (h.2 g e).2.2.2 (Nat.le_trans hg.size hst.size)⟩⟩
  rcases hob with e2 | e2
  · rw [e2]; exact (h.2 g e).2.2.1
  · rw [e2]; intro e3; injection e3 with e3; have := (h.2 g e).2.2.2; omega
/-- the box of a book that grows -/
structure LgI (W : World) (gb : Nat) (F : List Int) (L : List Ch) (vals : List Value) (f vs : Value) (X : World) : Prop where
  bel : Below W.heap.size W X
  box : X.heap[gb]? = some (.cells #[f, vs] 25)
  base : W.heap.size ≤ gb
  fst : Fa W.heap.size gb vs X f F
  own : X.ownsRow W.heap.size 52 3 vs L.length vals
  off : vs.ownBlock ≠ some gb
  ele : Els (fun x vf vt => Fa W.heap.size gb vs X vf x.fr ∧ Fa W.heap.size gb vs X vt x.to) L vals
section
variable {W : World} {gb : Nat} {F : List Int} {L : List Ch} {vals : List Value} {f vs : Value} {X Y : World}
theorem LgI.lt (h : LgI W gb F L vals f vs X) : gb < X.heap.size := (Array.getElem?_eq_some_iff.1 h.box).1
theorem LgI.step (h : LgI W gb F L vals f vs X) (hb : Below X.heap.size X Y) : LgI W gb F L vals f vs Y :=
  ⟨h.bel.trans (hb.mono h.bel.size), (hb.block _ h.lt).trans h.box, h.base, h.fst.step hb, own_step h.own hb, h.off, h.ele.mono fun _ _ _ e => ⟨e.1.step hb, e.2.step hb⟩⟩
theorem LgI.start {W wc : World} {f : Value} {F : List Int} (hf : OwN W f F wc) : LgI W wc.heap.size F [] [] f (.slice none 0 0) (wc.alloc (.cells #[f, .slice none 0 0] 25)) :=
  ⟨hf.bel.trans ((below_new _).mono hf.bel.size), World.alloc_heap_new wc _, hf.bel.size, ⟨hf.sl.step (below_new _), fun g e => ⟨(hf.own.lt g e).1, by have := (hf.own.lt g e).2; omega, (fun h => nomatch h), by have := (hf.own.lt g e).2; simp; omega⟩⟩, World.ownsRow_nil _ _ _ _, (fun h => nomatch h), Els.nil _⟩
theorem LgI.bk (h : LgI W gb F L vals f vs X) : BkV X (.agg #[f, vs]) ⟨F, L⟩ vs := ⟨f, rfl, h.fst.1, els_sl h.ele h.own fun _ _ _ e => ⟨e.1.1, e.2.1⟩⟩
/-- what is written below leaves the book -/
theorem LgI.bk_q (h : LgI W gb F L vals f vs X) {q : Nat} (hq : q < W.heap.size) (hg : X.grownBy Y (some q)) : BkV Y (.agg #[f, vs]) ⟨F, L⟩ vs := by
  have hk : ∀ {u : Value} {M : List Int}, Fa W.heap.size gb vs X u M → InSl Y Y.heap.size u M := fun {u M} h => keep_grown h.1 (fun g e => ⟨fun e2 => by injection e2 with e2; have := (h.2 g e).1; omega, (h.2 g e).2.2.2⟩) hg
  exact ⟨f, rfl, hk h.fst, els_sl h.ele (h.own.kept hg (.inr fun e => by have := (h.own.lt q e).1; omega)) fun _ _ _ e => ⟨hk e.1, hk e.2⟩⟩
theorem set2_grown (X : World) (q : Nat) (v1 v2 : Value) : X.grownBy ((X.setCell ⟨q, 0, none⟩ v1).setCell ⟨q, 1, none⟩ v2) (some q) :=
  ⟨rfl, rfl, rfl, Nat.le_of_eq (by simp), fun j hj hne => ((setCell_grown' (X.setCell ⟨q, 0, none⟩ v1) q 1 v2).block j (by simpa using hj) hne).trans ((setCell_grown' X q 0 v1).block j hj hne)⟩
theorem LgI.cells (h : LgI W gb F L vals f vs X) : X.cell? ⟨gb, 0, none⟩ = some f ∧ X.cell? ⟨gb, 1, none⟩ = some vs := cells_two h.box
/-- one change more -/
theorem LgI.push (h : LgI W gb F L vals f vs X) {x : Ch} {vf vt vs' : Value} {V : World} (hgV : gb < V.heap.size) (hvV : ∀ g, vs.ownBlock = some g → g < V.heap.size) (hf : Fr V.heap.size X vf x.fr) (ht : Fr V.heap.size X vt x.to)
    (ho : Y.ownsRow W.heap.size 52 3 vs' (L.length + 1) (vals ++ [.int .i64 x.yr, vf, vt])) (hg : X.grownBy Y vs.ownBlock) (hob : vs'.ownBlock = vs.ownBlock ∨ vs'.ownBlock = some X.heap.size) :
    LgI W gb F (L ++ [x]) (vals ++ [.int .i64 x.yr, vf, vt]) f vs' (Y.setCell ⟨gb, 1, none⟩ vs') ∧ Y.cell? ⟨gb, 1, none⟩ = some vs ∧ Y.frozen? ⟨gb, 1, none⟩ = false := by
  have hfa : ∀ {u : Value} {M : List Int}, Fr V.heap.size X u M → Fa W.heap.size gb vs X u M := fun {u M} h1 => ⟨h1.1, fun g e => ⟨by have := (h1.2 g e).1; have := h.base; omega, by have := (h1.2 g e).1; omega, fun e2 => by have := hvV g e2; have := (h1.2 g e).1; omega, (h1.2 g e).2⟩⟩
  have hbox : Y.heap[gb]? = some (.cells #[f, vs] 25) := (hg.block _ h.lt fun e => h.off e.symm).trans h.box
  have hst := setCell_grown' Y gb 1 vs'
  have hoff' : vs'.ownBlock ≠ some gb := by
    rcases hob with e | e
    · rw [e]; exact h.off
    · rw [e]; intro e2; injection e2 with e2; have := h.lt; omega
  refine ⟨⟨?_, ?_, h.base, h.fst.push hg hob, ?_, hoff', ?_⟩, (cells_two hbox).2, frozen_cells hbox 1⟩
  · refine (h.bel.grown hg h.bel.size fun r e => (h.own.lt r e).1).grown hst (Nat.le_trans h.bel.size hg.size) fun r e => ?_
    injection e with e
    have := h.base; omega
  · exact heap_setCell_same Y gb 1 _ _ vs' hbox
  · rw [List.length_append]
    exact ho.kept hst (.inr hoff')
  · refine Els.snoc (h.ele.mono fun _ _ _ e => ⟨e.1.push hg hob, e.2.push hg hob⟩) ⟨(hfa hf).push hg hob, (hfa ht).push hg hob⟩
end
end Go.Proofs.Ytplpogonkfnafaa
