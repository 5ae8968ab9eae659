
/- squares' closure; slices.AppendSeq and slices.Collect over it; region. -/
import Derived.Test.YtabolonlkocopaaGreatDoorIter
import Derived.Maps.AppendAt
import Derived.Maps.OwnIn
import Derived.RangeFuncBox
import Derived.RangeFuncLeaves
namespace Go.Proofs.YtabolonlkocopaaGreatDoor
open Go.RowKit Go.Plc Go.Shelf
attribute [local go_sem] Oper.semAt_some

theorem squares_any (b : Nat → Nat) (w : World) :
    Calls Tryz.prog 88 #[.agg (covA b)] w fun e w' => e = .returned (.func (.func 112) #[] #[.pointer (some ⟨w.heap.size, 0, none⟩)]) ∧ w' = w.alloc (.cells (covA b) 54) := by
  unfold covA
  go_enter Tryz.func88, Tryz.ntmps88
  go_wp2_with fail
  go_ret
  exact ⟨rfl, rfl⟩

theorem walk_const (C : List Sq) (i : Nat) : walkTo (fun _ => C) i = (List.range i).flatMap (rowS C) := by
  induction i with
  | zero => rfl
  | succ i ih => rw [List.range_succ, List.flatMap_append, ← ih]; simp [walkTo]
theorem walk_region (C : List Sq) : walkTo (fun _ => C) 11 = regionS C := walk_const C 11
theorem rowS_len (C : List Sq) (i : Nat) : (rowS C i).length = (lvlOf C i).length := by rw [rowS, (sortS_perm _).length_eq]; rfl
theorem region_len {C : List Sq} (h : ∀ s ∈ C, s.okB = true) : (regionS C).length = C.length := by
  have hs := lvl_sum h
  simp only [regionS, List.range, List.range.loop, List.flatMap_cons, List.flatMap_nil, List.length_append, rowS_len, List.length_nil]
  omega
theorem Cov.grownB {W W' : World} {b : Nat → Nat} {C : List Sq} {row : Option Nat} {B : Nat} (h : Cov W b C) (hb : ∀ i, i < 11 → b i < B) (hg : W.grownBy W' row) (hr : ∀ r, row = some r → B ≤ r) : Cov W' b C :=
  ⟨fun i hi => (h.row i hi).grown hg (fun e => by have := hr _ e.symm; have := hb i hi; omega), h.inj, h.nd, h.ok⟩
theorem SqA.of_own {w : World} {base : Nat} {v : Value} {P : List Sq} (h : w.ownsRow base 31 3 v P.length (cellsOf P)) : ∃ A c, v = .slice A P.length c ∧ SqA w w.heap.size A P := by
  rcases h.2 with ⟨rfl, h0⟩ | ⟨g, cap, cur, rfl, hb, hg, h1, h2, h3, h4⟩
  · refine ⟨none, 0, by rw [h0], fun i s hs => ?_⟩
    have := List.length_eq_zero_iff.1 h0
    subst this
    simp at hs
  · exact ⟨_, _, rfl, holds_sqA (holds_row hg h4) (Array.getElem?_eq_some_iff.1 hg).1⟩

theorem news1 (w : World) (s : Sq) : (∀ j u, [Value.int .i64 s.l, .int .i64 s.x, .int .i64 s.y][j]? = some u → (w.alloc (.cells #[.int .i64 s.l, .int .i64 s.x, .int .i64 s.y] 31)).cell? ((⟨w.heap.size, 0, none⟩ : Addr).add j) = some u) ∧
    ∀ u ∈ [Value.int .i64 s.l, .int .i64 s.x, .int .i64 s.y], u.oneCell' = true := by
  refine ⟨fun j u hj => ?_, fun u hu => by simp at hu; rcases hu with rfl | rfl | rfl <;> rfl⟩
  have e : (⟨w.heap.size, 0, none⟩ : Addr).add j = ⟨w.heap.size, j, none⟩ := by
    unfold Addr.add
    split
    · rename_i h; rw [h]
    · simp
  rw [e, World.cell?_alloc_new]
  simpa using hj
theorem cells_snoc (pre : List Sq) (x : Sq) : cellsOf (pre ++ [x]) = cellsOf pre ++ [.int .i64 x.l, .int .i64 x.x, .int .i64 x.y] := by unfold cellsOf; rw [List.flatMap_append]; rfl
theorem KA.set {B : Nat} {ow : Option Nat} (W : World) (b : Nat) (v : Value) (h : b < B) : KA B ow W (W.setCell ⟨b, 0, none⟩ v) :=
  ⟨by simp, fun k _ hk hko _ => (Below.heap_setCell _ _ _ k (by show k ≠ b; omega)).trans hko⟩
theorem KA.grown {B : Nat} {ow : Option Nat} {W W' : World} (h : W.grownBy W' ow) : KA B ow W W' := ⟨h.size, fun k _ _ hk hne => (h.block k (Array.getElem?_eq_some_iff.1 hk).1 hne).trans hk⟩
/-- what the loop of AppendSeq keeps -/
structure AppI (w : World) (b : Nat → Nat) (C : List Sq) (Bc : Nat) (pre : List Sq) (ow : Option Nat) (W : World) : Prop where
  cov : Cov W b C
  box : W.heap[Bc]? = some (.cells (covA b) 54)
  bel : Below w.heap.size w W
  row : ∃ v, Boxed W w.heap.size 22 v ∧ W.ownsRow (w.heap.size + 1) 31 3 v pre.length (cellsOf pre) ∧ ow = v.ownBlock

theorem AppI.own {w : World} {b : Nat → Nat} {C : List Sq} {Bc : Nat} (hb : ∀ i, i < 11 → b i < w.heap.size) (hB : Bc < w.heap.size) (ow : Option Nat) : OwnFrom (w.heap.size + 1) (fun pre => AppI w b C Bc pre ow) := by
  intro pre X Y row h hg hr
  have hne : ∀ k, k < w.heap.size + 1 → some k ≠ row := fun k hk e => by have := (hr k e.symm).1; omega
  obtain ⟨v, h1, h2, h3⟩ := h.row
  refine ⟨h.cov.grownB hb hg (fun r e => by have := (hr r e).1; omega), (hg.block _ (by have := h.bel.size; omega) (hne _ (by omega))).trans h.box, h.bel.grown hg h.bel.size (fun k e => by have := (hr k e).1; omega), v, h1.kept hg (hne _ (by omega)), h2.kept hg ?_, h3⟩
  cases ho : v.ownBlock with
  | none => exact .inl rfl
  | some g =>
    refine .inr (fun e => ?_)
    obtain ⟨_, o, ho2, hc⟩ := hr g e.symm
    rcases h2.2 with ⟨rfl, _⟩ | ⟨g', cap, cur, rfl, _, hg', _⟩
    · simp [Value.ownBlock] at ho
    · simp [Value.ownBlock] at ho
      subst ho
      rw [hg'] at ho2; cases ho2; cases hc

theorem AppI.iter {w : World} {b : Nat → Nat} {C : List Sq} {Bc : Nat} (hlen : C.length ≤ 1000000) (pre : List Sq) (ow : Option Nat) (X : World) (h : AppI w b C Bc pre ow X) :
    Cov X b ((fun _ => C) pre) ∧ X.heap[Bc]? = some (.cells (covA b) 54) ∧ ((fun _ => C) pre).length ≤ 1000000 ∧ ∀ k, ow = some k → k < X.heap.size := by
  obtain ⟨v, h1, h2, h3⟩ := h.row
  exact ⟨h.cov, h.box, hlen, fun k e => (h2.lt k (h3 ▸ e)).2⟩

set_option maxRecDepth 100000 in
set_option maxHeartbeats 2000000 in
theorem appendSeq_sq (n : Nat) (hn : 4 ≤ n) (b : Nat → Nat) (C : List Sq) (Bc : Nat) (w : World) (h : Cov w b C) (hlen : C.length ≤ 1000000) (hbox : w.heap[Bc]? = some (.cells (covA b) 54)) :
    CallsIn Fence.wide n Tryz.prog 111 #[.slice none 0 0, .func (.func 112) #[] #[.pointer (some ⟨Bc, 0, none⟩)]] w
      fun e w' => ∃ A c, e = .returned (.slice A (regionS C).length c) ∧ SqA w' w'.heap.size A (regionS C) ∧ Below w.heap.size w w' := by
  obtain ⟨i0, hi, hz0, hz1, hz2⟩ := info_parts infoSq
  have hbl : ∀ i, i < 11 → b i < w.heap.size := fun i hi => (h.row i hi).lt
  have hBl : Bc < w.heap.size := (Array.getElem?_eq_some_iff.1 hbox).1
  have hreg : (regionS C).length ≤ 1000000 := by rw [region_len h.ok]; exact hlen
  have h0 : AppI w b C Bc [] none (w.alloc (.cells #[.slice none 0 0] 22)) :=
    ⟨h.below (below_new _), (Below.heap_alloc w _ Bc hBl).trans hbox, below_new _, .slice none 0 0, Boxed.new w _ _, World.ownsRow_nil _ _ _ _, rfl⟩
  refine callsIn_of_wp_marks Tryz.func111 rfl trivial ?_ rfl
  simp only [Tryz.ntmps111, List.size_toArray, List.length_cons, List.length_nil, Nat.reduceAdd, Nat.reduceSub, Array.replicate_succ, Array.replicate_zero, List.push_toArray, List.append_toArray, List.nil_append, List.cons_append]
  gi_wp2_with fail
  have hsz0 : (w.alloc (.cells #[.slice none 0 0] 22)).heap.size = w.heap.size + 1 := by simp
  obtain ⟨W0, hW0⟩ : ∃ W0, w.alloc (.cells #[.slice none 0 0] 22) = W0 := ⟨_, rfl⟩
  rw [hW0] at h0 hsz0 ⊢
  clear hW0
  refine wp_rangeG (by omega) (gf := 112) (lb := #[.pointer (some ⟨Bc, 0, none⟩)]) rfl (enters_of Tryz.func112 (by kernel_rfl) rfl) (encs := fun s : Sq => #[sqv s]) (fun _ => rfl)
    (AppI w b C Bc) (fun _ _ _ => False) (fun ow => hsz0 ▸ AppI.own hbl hBl ow) (fun _ _ _ _ _ hs _ _ => hs) ?hIow none h0
    (squares_iter W0.heap.size (n - 1) (by omega) b Bc (fun _ => C) (AppI w b C Bc) (AppI.iter hlen))
    (fun x a' W => ∃ Bx, W.heap[Bx]? = some (.cells #[.int .i64 x.l, .int .i64 x.x, .int .i64 x.y] 31) ∧ a' = { tmps := #[.slice none 0 0, .func (.func 112) #[] #[.pointer (some ⟨Bc, 0, none⟩)], .pointer (some ⟨w.heap.size, 0, none⟩), undef, .slice none 0 0, .pointer (some ⟨Bx, 0, none⟩), .func (.func 112) #[] #[.pointer (some ⟨Bc, 0, none⟩)], sqv x, undef, undef, undef, undef, undef], defers := [] })
    (fun x a' _ X Y row hs hg hr => by
      obtain ⟨Bx, h1, h2⟩ := hs
      refine ⟨Bx, (hg.block _ (Array.getElem?_eq_some_iff.1 h1).1 (fun e => ?_)).trans h1, h2⟩
      obtain ⟨_, o, ho, hc⟩ := hr Bx e.symm
      rw [h1] at ho; cases ho; cases hc)
    ?assign ?body ?done ?stop
  case hIow =>
    intro pre ow W hI k hk
    obtain ⟨v, h1, h2, h3⟩ := hI.row
    rcases h2.2 with ⟨rfl, _⟩ | ⟨g', cap, cur, rfl, _, hg', _⟩
    · rw [h3] at hk; simp [Value.ownBlock] at hk
    · rw [h3] at hk; simp [Value.ownBlock] at hk
      subst hk; exact ⟨_, _, _, hg'⟩
  case assign =>
    intro l pre x ow W K hI hK
    unfold sqv
    gi_wp2_with fail
    refine hK _ _ (.inr ⟨_, rfl⟩) ⟨W.heap.size, World.alloc_heap_new W _, rfl⟩
  case body =>
    rintro l pre x ow a' W hl ⟨r, hr⟩ hI ⟨Bx, hx, rfl⟩ ⟨hxo, hpf⟩
    rw [walk_region] at hpf
    have hpl : pre.length + 1 ≤ 1000000 := by have := hpf.length_le; simp at this; omega
    have HI := Lib.hid hI
    obtain ⟨v, h1, h2, h3⟩ := hI.row
    have c1 := h1.cell
    have f1 := h1.frozen
    obtain ⟨s0, s1, s2⟩ := sq_cells hx
    have HN := Lib.hid (news1 W x)
    have HI := Lib.hid hI
    have H2 := Lib.hid (h2.alloc (.cells #[.int .i64 x.l, .int .i64 x.x, .int .i64 x.y] 31))
    have HC := Lib.hid (show pre.length + 1 ≤ maxLen ∧ (pre.length + 1) * 24 ≤ 140737488355328 ∧ w.heap.size + 1 ≤ (W.alloc (.cells #[.int .i64 x.l, .int .i64 x.x, .int .i64 x.y] 31)).heap.size from
      ⟨by unfold maxLen; omega, by omega, by have := hI.bel.size; have := h1.lt; simp; omega⟩)
    gi_wp2_with (gi_at_builtin; refine wpListIn_append_own_at _ rfl _ _ 22 rfl (w.heap.size + 1) 31 i0 (.agg #[.int .i64 0, .int .i64 0, .int .i64 0]) 3 24 Tryz.underlying22 hi hz0 hz1 hz2 rfl (by decide) v pre.length (cellsOf pre) rfl H2.out ⟨W.heap.size, 0, none⟩ 1 1 [.int .i64 x.l, .int .i64 x.x, .int .i64 x.y] rfl rfl HN.out.1 HN.out.2 HC.out.1 HC.out.2.1 HC.out.2.2 ?_; intro v' w1 hown hg1 hnn hob; obtain ⟨g', cap', rfl⟩ := ownsRow_succ hown; have hv1 := (h1.alloc (.cells #[.int .i64 x.l, .int .i64 x.x, .int .i64 x.y] 31)).kept hg1 (h1.not_row (by decide) h2); have c2 := hv1.cell; have f2 := hv1.frozen)
    have hne : ∀ k, k < w.heap.size + 1 → some k ≠ v.ownBlock := fun k hk e => by have := (h2.lt k e.symm).1; omega
    have hs1 : W.heap.size + 1 ≤ w1.heap.size := by have := hg1.size; simpa using this
    have hk1 : ∀ k, k < w.heap.size + 1 → w1.heap[k]? = W.heap[k]? := fun k hk => by
      have hlt : k < W.heap.size := by have := h1.lt; omega
      exact (hg1.block k (by simp; omega) (hne k hk)).trans (Below.heap_alloc W _ k hlt)
    refine ⟨(KA.alloc _ _ _ _).trans ((h3 ▸ KA.grown hg1).trans (KA.set _ _ _ (by omega))), (Value.slice (some ⟨g', 0, none⟩) (pre.length + 1) cap').ownBlock, ?_, ?_⟩
    · refine ⟨?_, ?_, ?_, _, hv1.set _, ?_, rfl⟩
      · have hc1 : Cov w1 b C := ((hI.cov).below (below_new _)).grownB (B := w.heap.size + 1) (fun i hi => by have := hbl i hi; omega) hg1 (fun r e => (h2.lt r e).1)
        exact hc1.grownB (B := w.heap.size) hbl (grownBy_setCell' _ _ _) (fun r e => by cases e; exact Nat.le_refl _)
      · exact (Below.heap_setCell _ _ _ Bc (by show Bc ≠ w.heap.size; omega)).trans ((hk1 Bc (by omega)).trans hI.box)
      · have hb1 : Below w.heap.size w w1 := ((hI.bel).alloc hI.bel.size _).grown hg1 (by have := hI.bel.size; simp; omega) (fun k e => by have := (h2.lt k e).1; omega)
        exact hb1.setCell (p := ⟨_, _, none⟩) (Nat.le_refl _) _
      · rw [List.length_append, cells_snoc]
        exact hown.kept (grownBy_setCell' _ _ _) (.inr (hv1.not_row (by decide) hown).symm)
    · rw [h3]
      rcases hob with e | e
      · exact .inl e
      · exact .inr ⟨_, e, by simp⟩
  case done =>
    rintro D xs ow W hD rfl hI hK
    rw [walk_region] at hI
    obtain ⟨v, h1, h2, h3⟩ := hI.row
    have c1 := h1.cell
    obtain ⟨A, c, rfl, hA⟩ := SqA.of_own h2
    gi_wp2_with fail
    refine ⟨by simp, .inl ⟨_, _, rfl, run_takeDeferred hK, ?_⟩⟩
    obtain ⟨A', c', e, hA'⟩ := SqA.of_own (ownsRow_putObj h2 (.deferred none) hK rfl)
    injection e with e1 e2 e3
    subst e1
    exact ⟨_, results_tmp rfl _ _ _, A, c, rfl, hA', hI.bel.trans (belowK_b (w := w) (Nat.le_refl _) W D _ _ (by omega) hK rfl rfl)⟩
  case stop =>
    rintro D c pre W hD _ h _
    exact h.elim
end Go.Proofs.YtabolonlkocopaaGreatDoor
