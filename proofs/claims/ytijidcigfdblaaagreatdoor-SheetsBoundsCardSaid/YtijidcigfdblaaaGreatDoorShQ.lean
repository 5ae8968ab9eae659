/- Lines that are written in place. -/
import Derived.Test.YtijidcigfdblaaaGreatDoorShN
namespace Go.Proofs.YtijidcigfdblaaaGreatDoor
open Go.RowKit Go.Nm Go.Sh Go.Plc

theorem put10_below {w0 w : World} {g n : Nat} (h : Below n w0 w) (hg : n ≤ g) (p : Pg) (v : Value) : Below n w0 (put10 w g p v) := by
  unfold put10
  exact (((((((((h.setCell hg _).setCell hg _).setCell hg _).setCell hg _).setCell hg _).setCell hg _).setCell hg _).setCell hg _).setCell hg _).setCell hg _
structure LnW (W : World) (g : Nat) (L : List Ln) (X : World) : Prop where
  bel : Below W.heap.size W X
  cs : ∃ cs : Array Value, X.heap[g]? = some (.cells cs 83) ∧ ∀ (i : Nat) (x : Ln), L[i]? = some x → ∃ vm, cs[i * 4]? = some (.int .i64 x.nm) ∧ cs[i * 4 + 1]? = some (.int .i64 x.lo) ∧ cs[i * 4 + 2]? = some (.int .i64 x.hi) ∧ cs[i * 4 + 3]? = some vm ∧ InSl X X.heap.size vm x.sn ∧ (∀ k, vm.ownBlock = some k → k ≠ g ∧ k < X.heap.size) ∧ ∀ k, vm.ownBlock = some k → W.heap.size ≤ k
  base : W.heap.size ≤ g
section
variable {W X Y : World} {g : Nat} {L : List Ln}
theorem LnW.lt (h : LnW W g L X) : g < X.heap.size := by
  obtain ⟨cs, h1, _⟩ := h.cs
  exact (Array.getElem?_eq_some_iff.1 h1).1
theorem LnW.step (h : LnW W g L X) (hb : Below X.heap.size X Y) : LnW W g L Y := by
  have hlt := h.lt
  obtain ⟨cs, h1, h2⟩ := h.cs
  refine ⟨h.bel.trans (hb.mono h.bel.size), ⟨cs, (hb.block _ hlt).trans h1, fun i x hx => ?_⟩, h.base⟩
  obtain ⟨vm, a, b, c, d, e, f, f2⟩ := h2 i x hx
  exact ⟨vm, a, b, c, d, e.step hb, fun k hk => ⟨(f k hk).1, Nat.lt_of_lt_of_le (f k hk).2 hb.size⟩, f2⟩
theorem LnW.cells (h : LnW W g L X) {i : Nat} {x : Ln} (hx : L[i]? = some x) : X.cell? ⟨g, i * 4, none⟩ = some (.int .i64 x.nm) ∧ X.cell? ⟨g, i * 4 + 1, none⟩ = some (.int .i64 x.lo) ∧ X.cell? ⟨g, i * 4 + 2, none⟩ = some (.int .i64 x.hi) ∧ X.frozen? ⟨g, i * 4 + 2, none⟩ = false := by
  obtain ⟨cs, h1, h2⟩ := h.cs
  obtain ⟨vm, a, b, c, d, e, f, f2⟩ := h2 i x hx
  refine ⟨?_, ?_, ?_, frozen_cells h1 _⟩ <;> simp [World.cell?, h1, a, b, c]
theorem LnW.sl (h : LnW W g L X) (c : Nat) : LnSl X X.heap.size (.slice (some ⟨g, 0, none⟩) L.length c) L := by
  have hlt := h.lt
  obtain ⟨cs, h1, h2⟩ := h.cs
  refine ⟨_, _, rfl, fun i x hx => ?_⟩
  obtain ⟨vm, a, b, c, d, e, f, f2⟩ := h2 i x hx
  refine ⟨⟨g, 0, none⟩, vm, rfl, hlt, ?_, ?_, ?_, ?_, e⟩ <;> rw [add_zeroB] <;> simp [World.cell?, h1, a, b, c, d]
/-- the lines after writes below them -/
theorem LnW.slo (h : LnW W g L X) {g0 : Nat} (hlt : g0 < W.heap.size) (ho : ∀ b, b ≠ g0 → Y.heap[b]? = X.heap[b]?) (hs : X.heap.size ≤ Y.heap.size) (c : Nat) : LnSl Y Y.heap.size (.slice (some ⟨g, 0, none⟩) L.length c) L := by
  have hl := h.lt
  have hbs := h.base
  obtain ⟨cs, h1, h2⟩ := h.cs
  have h1 := (ho g (by omega)).trans h1
  refine ⟨_, _, rfl, fun i x hx => ?_⟩
  obtain ⟨vm, a, b, c, d, e, f, f2⟩ := h2 i x hx
  refine ⟨⟨g, 0, none⟩, vm, rfl, Nat.lt_of_lt_of_le hl hs, ?_, ?_, ?_, ?_, (e.keepOwn fun p hp => World.cell?_of_block (ho _ (by have := f2 _ hp; omega))).mono hs⟩ <;> rw [add_zeroB] <;> simp [World.cell?, h1, a, b, c, d]
theorem put10_other {X : World} {g b : Nat} (h : b ≠ g) (p : Pg) (v : Value) : (put10 X g p v).heap[b]? = X.heap[b]? := by
  unfold put10
  rw [put_other h, put_other h, put_other h, put_other h, put_other h, put_other h, put_other h, put_other h, put_other h, put_other h]
theorem put10_size (X : World) (g : Nat) (p : Pg) (v : Value) : (put10 X g p v).heap.size = X.heap.size := by
  unfold put10
  simp
def hiP (x : Ln) (z : Int) : Ln := ⟨x.nm, x.lo, z, x.sn⟩
theorem LnW.set (h : LnW W g L X) {i : Nat} {x : Ln} (hx : L[i]? = some x) (z : Int) : LnW W g (L.set i (hiP x z)) (X.setCell ⟨g, i * 4 + 2, none⟩ (.int .i64 z)) := by
  have hlt := h.lt
  have hg := setCell_grown' X g (i * 4 + 2) (.int .i64 z)
  obtain ⟨cs, h1, h2⟩ := h.cs
  refine ⟨h.bel.setCell h.base _, ⟨_, put_cell h1, fun j y hy => ?_⟩, h.base⟩
  have keep : ∀ vm (l : List Int), InSl X X.heap.size vm l → (∀ k, vm.ownBlock = some k → k ≠ g ∧ k < X.heap.size) → InSl (X.setCell ⟨g, i * 4 + 2, none⟩ (.int .i64 z)) (X.setCell ⟨g, i * 4 + 2, none⟩ (.int .i64 z)).heap.size vm l ∧ ∀ k, vm.ownBlock = some k → k ≠ g ∧ k < (X.setCell ⟨g, i * 4 + 2, none⟩ (.int .i64 z)).heap.size := fun vm l e f =>
    ⟨(e.keepOwn fun p hp => World.cell?_of_block (put_other (f _ hp).1)).mono hg.size, fun k hk => ⟨(f k hk).1, Nat.lt_of_lt_of_le (f k hk).2 hg.size⟩⟩
  by_cases e : j = i
  · subst e
    have hj : j < L.length := (List.getElem?_eq_some_iff.1 hx).1
    rw [List.getElem?_set_self hj] at hy
    injection hy with hy
    subst hy
    obtain ⟨vm, a, b, c, d, e, f, f2⟩ := h2 j x hx
    have hsz := (Array.getElem?_eq_some_iff.1 c).1
    obtain ⟨k1, k2⟩ := keep vm _ e f
    refine ⟨vm, ?_, ?_, ?_, ?_, k1, k2, f2⟩
    · rw [Array.getElem?_setIfInBounds_ne (by omega)]; exact a
    · rw [Array.getElem?_setIfInBounds_ne (by omega)]; exact b
    · rw [Array.getElem?_setIfInBounds_self_of_lt hsz]; rfl
    · rw [Array.getElem?_setIfInBounds_ne (by omega)]; exact d
  · rw [List.getElem?_set_ne (fun h => e h.symm)] at hy
    obtain ⟨vm, a, b, c, d, e2, f, f2⟩ := h2 j y hy
    obtain ⟨k1, k2⟩ := keep vm _ e2 f
    refine ⟨vm, ?_, ?_, ?_, ?_, k1, k2, f2⟩
    · rw [Array.getElem?_setIfInBounds_ne (by omega)]; exact a
    · rw [Array.getElem?_setIfInBounds_ne (by omega)]; exact b
    · rw [Array.getElem?_setIfInBounds_ne (by omega)]; exact c
    · rw [Array.getElem?_setIfInBounds_ne (by omega)]; exact d
theorem LoI.lnw {T : Nat} {vals : List Value} {vs : Value} (h : LoI W T L vals vs X) (hT : W.heap.size ≤ T) (hn : 0 < L.length) : ∃ g c, vs = .slice (some ⟨g, 0, none⟩) L.length c ∧ LnW W g L X := by
  rcases h.own.2 with ⟨_, h0⟩ | ⟨g, cap, cur, e, hb, hg, h1, h2, h3, h4⟩
  · omega
  · refine ⟨g, cap, e, h.bel, ⟨cur, hg, fun i x hx => ?_⟩, hb⟩
    obtain ⟨vm, k⟩ := h.ele i x hx
    have hl := h.own.cells (g := g) (by rw [e]; rfl)
    have cc : ∀ j u, vals[j]? = some u → cur[j]? = some u := fun j u hj => by
      have := hl j u hj
      rw [add_zeroB] at this
      simpa [World.cell?, hg] using this
    refine ⟨vm, cc _ _ k.c0, cc _ _ k.c1, cc _ _ k.c2, cc _ _ k.c3, k.sl, fun q hq => ⟨fun e2 => (k.off q hq).1 ?_, (k.off q hq).2⟩, fun q hq => Nat.le_trans hT (k.ti q hq)⟩
    rw [e, e2]; rfl
end
end Go.Proofs.YtijidcigfdblaaaGreatDoor
