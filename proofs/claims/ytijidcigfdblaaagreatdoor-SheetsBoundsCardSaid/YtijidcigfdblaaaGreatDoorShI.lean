/- Rows of lines of the call's own, with lists of their own. -/
import Derived.Test.YtijidcigfdblaaaGreatDoorShH
namespace Go.Proofs.YtijidcigfdblaaaGreatDoor
open Go.RowKit Go.Nm Go.Sh Go.Plc

theorem infoLn : ∃ i, Tryz.prog.info? 83 = some i ∧ i.zero = some (.agg #[.int .i64 0, .int .i64 0, .int .i64 0, .slice none 0 0]) ∧ i.size = 4 ∧ i.bytes = 48 := by
  have h : (Tryz.prog.info? 83).map (fun i => (i.zero, i.size, i.bytes)) = some (some (.agg #[.int .i64 0, .int .i64 0, .int .i64 0, .slice none 0 0]), 4, 48) := by kernel_rfl
  cases h2 : Tryz.prog.info? 83 with
  | none => rw [h2] at h; cases h
  | some i =>
    rw [h2] at h
    simp only [Option.map_some, Option.some.injEq, Prod.mk.injEq] at h
    exact ⟨i, rfl, h.1, h.2.1, h.2.2⟩
theorem add_zeroB (g k : Nat) : (⟨g, 0, none⟩ : Addr).add k = ⟨g, k, none⟩ := by
  unfold Addr.add
  by_cases h : k = 0
  · subst h; rfl
  · rw [if_neg h]; simp
/-- the cells of a line, its list elsewhere -/
structure LnE (T : Nat) (vals : List Value) (X : World) (own : Option Nat) (i : Nat) (x : Ln) (vm : Value) : Prop where
  c0 : vals[i * 4]? = some (.int .i64 x.nm)
  c1 : vals[i * 4 + 1]? = some (.int .i64 x.lo)
  c2 : vals[i * 4 + 2]? = some (.int .i64 x.hi)
  c3 : vals[i * 4 + 3]? = some vm
  sl : InSl X X.heap.size vm x.sn
  off : ∀ g, vm.ownBlock = some g → own ≠ some g ∧ g < X.heap.size
  ti : ∀ g, vm.ownBlock = some g → T ≤ g
structure LoI (W : World) (T : Nat) (L : List Ln) (vals : List Value) (vs : Value) (X : World) : Prop where
  bel : Below W.heap.size W X
  own : X.ownsRow W.heap.size 83 4 vs L.length vals
  len : vals.length = L.length * 4
  ele : ∀ (i : Nat) (x : Ln), L[i]? = some x → ∃ vm, LnE T vals X vs.ownBlock i x vm
  ot : ∀ g, vs.ownBlock = some g → T ≤ g
  tb : T ≤ X.heap.size
section
variable {W : World} {T : Nat} {L : List Ln} {vals : List Value} {vs : Value} {X Y : World}
theorem LnE.step {own : Option Nat} {i : Nat} {x : Ln} {vm : Value} (h : LnE T vals X own i x vm) (hb : Below X.heap.size X Y) : LnE T vals Y own i x vm :=
  ⟨h.c0, h.c1, h.c2, h.c3, h.sl.step hb, fun g e => ⟨(h.off g e).1, Nat.lt_of_lt_of_le (h.off g e).2 hb.size⟩, h.ti⟩
theorem LoI.step (h : LoI W T L vals vs X) (hb : Below X.heap.size X Y) : LoI W T L vals vs Y :=
  ⟨h.bel.trans (hb.mono h.bel.size), own_step h.own hb, h.len, fun i x hx => by
    obtain ⟨vm, e⟩ := h.ele i x hx
    exact ⟨vm, e.step hb⟩, h.ot, Nat.le_trans h.tb hb.size⟩
theorem LoI.start (W X : World) (hb : Below W.heap.size W X) (hT : T ≤ X.heap.size) : LoI W T [] [] (.slice none 0 0) X :=
  ⟨hb, World.ownsRow_nil _ _ _ _, rfl, fun i x h => by simp at h, fun g e => (nomatch e), hT⟩
theorem LoI.push {vs' vm : Value} {x : Ln} (h : LoI W T L vals vs X) (hg : X.grownBy Y vs.ownBlock) (ho : Y.ownsRow W.heap.size 83 4 vs' (L.length + 1) (vals ++ [.int .i64 x.nm, .int .i64 x.lo, .int .i64 x.hi, vm]))
    (hob : vs'.ownBlock = vs.ownBlock ∨ vs'.ownBlock = some X.heap.size) (hr : InSl X X.heap.size vm x.sn) (hro : ∀ g, vm.ownBlock = some g → vs.ownBlock ≠ some g ∧ g < X.heap.size) (hrt : ∀ g, vm.ownBlock = some g → T ≤ g) :
    LoI W T (L ++ [x]) (vals ++ [.int .i64 x.nm, .int .i64 x.lo, .int .i64 x.hi, vm]) vs' Y := by
  have hkeep : ∀ (u : Value), (∀ g, u.ownBlock = some g → vs.ownBlock ≠ some g ∧ g < X.heap.size) → ∀ p : Addr, u.ownBlock = some p.block → Y.cell? p = X.cell? p := fun u hu p hp => by
    obtain ⟨a1, a3⟩ := hu _ hp
    exact World.cell?_of_block (hg.block _ a3 fun e => a1 e.symm)
  have hoff : ∀ (u : Value), (∀ g, u.ownBlock = some g → vs.ownBlock ≠ some g ∧ g < X.heap.size) → ∀ g, u.ownBlock = some g → vs'.ownBlock ≠ some g ∧ g < Y.heap.size := fun u hu g e => by
    obtain ⟨a1, a3⟩ := hu g e
    refine ⟨?_, Nat.lt_of_lt_of_le a3 hg.size⟩
    rcases hob with e2 | e2
    · rw [e2]; exact a1
    · rw [e2]; intro e3; injection e3 with e3; omega
  refine ⟨h.bel.grown hg h.bel.size (fun r e => (h.own.lt r e).1), by rw [List.length_append]; exact ho, by rw [List.length_append, List.length_append, h.len]; simp; omega, fun i y hy => ?_, fun g e => by
    rcases hob with e2 | e2
    · exact h.ot g (e2.symm.trans e)
    · have e3 := e2.symm.trans e
      injection e3 with e3
      have := h.tb
      omega, Nat.le_trans h.tb hg.size⟩
  by_cases hi : i < L.length
  · rw [List.getElem?_append_left hi] at hy
    obtain ⟨vm', e⟩ := h.ele i y hy
    have hl := h.len
    exact ⟨vm', (List.getElem?_append_left (by omega)).trans e.c0, (List.getElem?_append_left (by omega)).trans e.c1, (List.getElem?_append_left (by omega)).trans e.c2, (List.getElem?_append_left (by omega)).trans e.c3, (e.sl.keepOwn (hkeep vm' e.off)).mono hg.size, hoff vm' e.off, e.ti⟩
  · rw [List.getElem?_append_right (by omega)] at hy
    have e1 : i - L.length = 0 := by have := (List.getElem?_eq_some_iff.1 hy).1; simp at this; omega
    rw [e1] at hy
    simp at hy
    subst hy
    have hl := h.len
    have e : i = L.length := by omega
    subst e
    refine ⟨vm, ?_, ?_, ?_, ?_, (hr.keepOwn (hkeep vm hro)).mono hg.size, hoff vm hro, hrt⟩
    · rw [List.getElem?_append_right (by omega), hl, Nat.sub_self]; rfl
    · rw [List.getElem?_append_right (by omega), hl, show L.length * 4 + 1 - L.length * 4 = 1 by omega]; rfl
    · rw [List.getElem?_append_right (by omega), hl, show L.length * 4 + 2 - L.length * 4 = 2 by omega]; rfl
    · rw [List.getElem?_append_right (by omega), hl, show L.length * 4 + 3 - L.length * 4 = 3 by omega]; rfl
theorem LoI.sl (h : LoI W T L vals vs X) : LnSl X X.heap.size vs L := by
  rcases h.own.2 with ⟨e, h0⟩ | ⟨g, cap, cur, e, hb, hg, h1, h2, h3, h4⟩
  · have hl := List.length_eq_zero_iff.1 h0
    subst hl
    rw [e]
    exact LnSl.nil _ _
  · refine ⟨_, _, e, fun i x hx => ?_⟩
    obtain ⟨vm, k⟩ := h.ele i x hx
    have hc := h.own.cells (g := g) (by rw [e]; rfl)
    refine ⟨⟨g, 0, none⟩, vm, rfl, (Array.getElem?_eq_some_iff.1 hg).1, ?_, ?_, ?_, ?_, k.sl⟩
    · exact hc (i * 4) _ k.c0
    · have := hc (i * 4 + 1) _ k.c1
      rw [add_zeroB] at this ⊢
      exact this
    · have := hc (i * 4 + 2) _ k.c2
      rw [add_zeroB] at this ⊢
      exact this
    · have := hc (i * 4 + 3) _ k.c3
      rw [add_zeroB] at this ⊢
      exact this
/-- a write to another block -/
theorem LoI.other {g0 : Nat} (h : LoI W T L vals vs X) (hg : X.grownBy Y (some g0)) (h0 : W.heap.size ≤ g0) (hT : g0 < T) : LoI W T L vals vs Y := by
  refine ⟨h.bel.grown hg h.bel.size (fun r e => by cases e; exact h0), h.own.kept hg ?_, h.len, fun i x hx => ?_, h.ot, Nat.le_trans h.tb hg.size⟩
  · cases hv : vs.ownBlock with
    | none => exact .inl rfl
    | some g => exact .inr (fun e => by injection e with e; have := h.ot g hv; omega)
  · obtain ⟨vm, k⟩ := h.ele i x hx
    exact ⟨vm, k.c0, k.c1, k.c2, k.c3, (k.sl.keepOwn fun p hp => World.cell?_of_block (hg.block _ (k.off _ hp).2 fun e => by injection e with e; have := k.ti _ hp; omega)).mono hg.size, fun g e => ⟨(k.off g e).1, Nat.lt_of_lt_of_le (k.off g e).2 hg.size⟩, k.ti⟩
theorem LoI.slice (h : LoI W T L vals vs X) : ∃ A c, vs = .slice A L.length c := h.sl.form
theorem LoI.lt (h : LoI W T L vals vs X) {g : Nat} (e : vs.ownBlock = some g) : W.heap.size ≤ g ∧ g < X.heap.size := h.own.lt g e
theorem run_app_ln {o : Oper} {a : Act} {w : World} {K : Act → World → Prop} {Q : Exit → Act → World → Prop} (s x : Operand) (ho : o.op = .call { callee := .builtin .append, args := #[s, x], argTypes := #[26, 26] })
    {r : Ln} {vm : Value} (hs : a.eval s = vs) (h : LoI W T L vals vs w) (g : Nat) (hx : a.eval x = .slice (some ⟨g, 0, none⟩) 1 1) (hc : w.heap[g]? = some (.cells #[.int .i64 r.nm, .int .i64 r.lo, .int .i64 r.hi, vm] 83)) (hr : InSl w w.heap.size vm r.sn) (hro : ∀ g, vm.ownBlock = some g → vs.ownBlock ≠ some g ∧ g < w.heap.size) (hrt : ∀ g, vm.ownBlock = some g → T ≤ g) (hn : L.length ≤ 100000)
    (hK : ∀ v' w', LoI W T (L ++ [r]) (vals ++ [.int .i64 r.nm, .int .i64 r.lo, .int .i64 r.hi, vm]) v' w' → w.grownBy w' vs.ownBlock → (v'.ownBlock = vs.ownBlock ∨ v'.ownBlock = some w.heap.size) → K (a.put o.dst v') w') : o.wp Tryz.prog a w K Q := by
  obtain ⟨Am, cm, e0, _⟩ := hr.form
  obtain ⟨i0, hi0, hz0, hz1, hz2⟩ := infoLn
  obtain ⟨v', w', hr', h2, h3, _, h5⟩ := run_append_own_at (P := Tryz.prog) (w := w) W.heap.size 26 o.type 83 i0 _ 4 48 Tryz.underlying26 hi0 hz0 hz1 hz2 rfl (by decide) vs L.length vals h.own ⟨g, 0, none⟩ 1 1 [.int .i64 r.nm, .int .i64 r.lo, .int .i64 r.hi, vm] rfl
    (fun j u hj => by rw [add_zeroB]; simpa [World.cell?, hc] using hj) (fun u hu => by simp at hu; rcases hu with rfl | rfl | rfl | rfl <;> first | rfl | (rw [e0]; rfl)) (by unfold maxLen; omega) (by omega) h.bel.size
  unfold Oper.wp execOp
  simp only [ho, resolve, invoke, builtin, Sem.run_bind, Sem.run_pure, Result.andThen_ok, List.map_toArray, List.map_cons, List.map_nil, hs, hx, hr']
  exact hK v' w' (h.push h3 h2 h5 hr hro hrt) h3 h5
theorem wpList_app_ln {ops : Array Oper} {rest : List Oper} {o : Oper} {a : Act} {Q : Exit → Act → World → Prop} {w : World} (hgd : o.guard = none) (s x : Operand) (ho : o.op = .call { callee := .builtin .append, args := #[s, x], argTypes := #[26, 26] })
    {r : Ln} {vm : Value} (hs : a.eval s = vs) (h : LoI W T L vals vs w) (g : Nat) (hx : a.eval x = .slice (some ⟨g, 0, none⟩) 1 1) (hc : w.heap[g]? = some (.cells #[.int .i64 r.nm, .int .i64 r.lo, .int .i64 r.hi, vm] 83)) (hr : InSl w w.heap.size vm r.sn) (hro : ∀ g, vm.ownBlock = some g → vs.ownBlock ≠ some g ∧ g < w.heap.size) (hrt : ∀ g, vm.ownBlock = some g → T ≤ g) (hn : L.length ≤ 100000)
    (hK : ∀ v' w', LoI W T (L ++ [r]) (vals ++ [.int .i64 r.nm, .int .i64 r.lo, .int .i64 r.hi, vm]) v' w' → w.grownBy w' vs.ownBlock → (v'.ownBlock = vs.ownBlock ∨ v'.ownBlock = some w.heap.size) → wpList Tryz.prog ops Q rest (a.put o.dst v') w') : wpList Tryz.prog ops Q (o :: rest) a w :=
  wpList_plain hgd fun _ hK2 => run_app_ln s x ho hs h g hx hc hr hro hrt hn fun v' w' h1 h2 h3 => hK2 _ _ (hK v' w' h1 h2 h3)
end
end Go.Proofs.YtijidcigfdblaaaGreatDoor
