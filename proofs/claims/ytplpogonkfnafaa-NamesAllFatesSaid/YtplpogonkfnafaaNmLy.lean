/- The arguments of the laws: books, questions, as they come in; the last step of a row. -/
import Derived.Test.YtplpogonkfnafaaRows
import Derived.Test.YtplpogonkfnafaaNmK
import Derived.Lib.SmallJoins
import Derived.Deep.Slices
import Derived.Deep.Fields
import Derived.ChangeSame
import Derived.ChangeSlices
import Derived.Carry
import Derived.OpenShut
import Derived.ProofKit
import Derived.JoinedOf
import Derived.Handed
namespace Go.Proofs.Ytplpogonkfnafaa
open Go.ChangeShapes Go.WideShapes Go.RowKit Go.Nm Go.Deep Go.Joins

theorem ownKnobNone : ownKnob Try.prog.godebug = none := by kernel_rfl
theorem laidOut : laidOutB Try.prog = true := by kernel_rfl
/-- a list out of its members -/
theorem list_of {α : Type} {P : Nat → α → Prop} : ∀ n, (∀ i, i < n → ∃ x, P i x) → ∃ L : List α, L.length = n ∧ ∀ i x, L[i]? = some x → P i x
  | 0, _ => ⟨[], rfl, fun i x h => by simp at h⟩
  | n + 1, h => by
    obtain ⟨L, hl, hL⟩ := list_of n fun i hi => h i (by omega)
    obtain ⟨x, hx⟩ := h n (by omega)
    refine ⟨L ++ [x], by simp [hl], fun i y hy => ?_⟩
    rcases Nat.lt_or_ge i L.length with hi | hi
    · rw [List.getElem?_append_left hi] at hy; exact hL i y hy
    · rw [List.getElem?_append_right hi] at hy
      have h0 : i - L.length = 0 := by
        have := (List.getElem?_eq_some_iff.1 hy).1
        simp at this; omega
      rw [h0] at hy
      simp at hy
      subst hy
      rw [show i = n by omega]; exact hx
section
variable {H : Type} {enc : TypeId × Value → H} {W : World}
set_option maxRecDepth 100000 in
theorem open_list {v : Value} {n : Nat} {x : DataW H × List MemPlace} (h : DataW.trod enc Try.prog W 0 (fun _ => true) true n 22 [v] = some x) : ∃ L, InSl W W.heap.size v L := by
  rcases open_ints Try.underlying22 Try.underlying3 (by kernel_rfl) h with ⟨e, _⟩ | ⟨a, len, cap, zs, e, _, hlc, hcm, hzl, _, hc, _⟩
  · simp only [List.cons.injEq, and_true] at e
    subst e
    exact ⟨[], InSl.nil _ _⟩
  · simp only [List.cons.injEq, and_true] at e
    subst e
    rw [if_pos rfl] at hzl
    have hl : (zs.take len).length = len := by rw [List.length_take]; omega
    refine ⟨zs.take len, _, cap, by rw [hl], by omega, hcm, fun i y hy => ?_⟩
    rw [List.getElem?_take] at hy
    split at hy
    · have hi := (List.getElem?_eq_some_iff.1 hy).1
      have h1 := hc i hi
      have e : zs.getD i 0 = y := by rw [List.getD_eq_getElem?_getD, hy]; rfl
      rw [e] at h1
      have hb := World.block_lt_of_cell? _ _ h1
      rw [add_block] at hb
      exact ⟨a, rfl, hb, h1⟩
    · cases hy
set_option maxRecDepth 100000 in
theorem open_changes {v : Value} {n : Nat} {x : DataW H × List MemPlace} (h : DataW.trod enc Try.prog W 0 (fun _ => true) true n 23 [v] = some x) : ∃ L, ChSl W W.heap.size v L := by
  rcases open_slice Try.underlying23 h with ⟨e, _⟩ | ⟨a, len, cap, m, k, D, Pl, e, _, hlc, _, hm, _, hi⟩
  · simp only [List.cons.injEq, and_true] at e
    subst e
    exact ⟨[], none, 0, rfl, fun i c hc => by simp at hc⟩
  · simp only [List.cons.injEq, and_true] at e
    subst e
    rw [if_pos rfl] at hm
    have hC : Try.prog.cellsOf 52 = 3 := by kernel_rfl
    have hCi : Try.prog.cellsOf 3 = 1 := by kernel_rfl
    have hCs : Try.prog.cellsOf 22 = 1 := by kernel_rfl
    obtain ⟨L, hl, hL⟩ := list_of (P := fun i (c : Ch) => ∃ vf vt, a.block < W.heap.size ∧ W.cell? (a.add (i * 3)) = some (.int .i64 c.yr) ∧
      W.cell? ⟨(a.add (i * 3)).block, (a.add (i * 3)).off + 1, none⟩ = some vf ∧ W.cell? ⟨(a.add (i * 3)).block, (a.add (i * 3)).off + 2, none⟩ = some vt ∧ InSl W W.heap.size vf c.fr ∧ InSl W W.heap.size vt c.to) len (fun i hil => by
      obtain ⟨cs, hcs, ht⟩ := hi i (by omega)
      rw [hC] at hcs
      obtain ⟨_, hcl, hat⟩ := World.cells?_some hcs
      obtain ⟨ys, j, _, _, _, hyl, hf⟩ := DataW.trod_struct Try.underlying52 ht
      match cs, hcl, ys, hyl with
      | [c0, c1, c2], _, [y0, y1, y2], _ =>
        have g0 := hf 0 _ rfl
        have g1 := hf 1 _ rfl
        have g2 := hf 2 _ rfl
        simp [hCi, hCs] at g0 g1 g2
        obtain ⟨z, e0, _, _⟩ := DataW.trod_int Try.underlying3 g0
        simp only [List.cons.injEq, and_true] at e0
        subst e0
        obtain ⟨Lf, hLf⟩ := open_list g1
        obtain ⟨Lt, hLt⟩ := open_list g2
        have a0 := hat 0 (by decide)
        have a1 := hat 1 (by decide)
        have a2 := hat 2 (by decide)
        simp only [List.getElem?_cons_zero, List.getElem?_cons_succ] at a0 a1 a2
        rw [show ((a.add (i * 3)).add 0) = a.add (i * 3) from by simp [Addr.add]] at a0
        have hb := World.block_lt_of_cell? _ _ a0
        rw [add_block] at hb
        exact ⟨⟨z, Lf, Lt⟩, c1, c2, hb, a0, a1, a2, hLf, hLt⟩)
    refine ⟨L, _, cap, by rw [hl], fun i c hc => ?_⟩
    obtain ⟨vf, vt, h1, h2⟩ := hL i c hc
    exact ⟨a, vf, vt, rfl, h1, h2⟩
set_option maxRecDepth 100000 in
/-- a book that came in -/
theorem open_book {v : Value} {d : DataW H} {p : List MemPlace} {base : Nat} (hval : Value.okWide Try.prog W .any base 25 v) (h : DataW.Trod enc Try.prog W 0 (fun _ => true) true 25 v d p) : ∃ b vc, BkV W v b vc := by
  obtain ⟨v0, v1, y0, y1, n, rfl, _, _, g0, g1⟩ := open_agg2 Try.underlying25 (by kernel_rfl) (by kernel_rfl) hval h
  obtain ⟨F, hF⟩ := open_list g0
  obtain ⟨C, hC⟩ := open_changes g1
  exact ⟨⟨F, C⟩, v1, v0, rfl, hF, hC⟩
set_option maxRecDepth 100000 in
/-- a question that came in -/
theorem open_ask {v : Value} {d : DataW H} {p : List MemPlace} {base : Nat} (hval : Value.okWide Try.prog W .any base 27 v) (h : DataW.Trod enc Try.prog W 0 (fun _ => true) true 27 v d p) :
    ∃ aV aW aX aY aR u L, v = .agg #[.int .i64 aV, .int .i64 aW, .int .i64 aX, .int .i64 aY, .int .i64 aR, u] ∧ InSl W W.heap.size u L := by
  have hC : Try.prog.cellsOf 27 = 6 := by kernel_rfl
  have hCi : Try.prog.cellsOf 3 = 1 := by kernel_rfl
  have hCs : Try.prog.cellsOf 22 = 1 := by kernel_rfl
  obtain ⟨cs, rfl, hsz⟩ := okWide_struct Try.underlying27 hval
  rw [hC] at hsz
  obtain ⟨fuel, hf0⟩ := h
  obtain ⟨ys, j, _, _, _, hyl, hf⟩ := DataW.trod_struct Try.underlying27 hf0
  obtain ⟨cl⟩ := cs
  match cl, hsz, ys, hyl with
  | [c0, c1, c2, c3, c4, c5], _, [y0, y1, y2, y3, y4, y5], _ =>
    have g0 := hf 0 _ rfl
    have g1 := hf 1 _ rfl
    have g2 := hf 2 _ rfl
    have g3 := hf 3 _ rfl
    have g4 := hf 4 _ rfl
    have g5 := hf 5 _ rfl
    simp [hCi, hCs, Value.cells] at g0 g1 g2 g3 g4 g5
    obtain ⟨a0, e0, _, _⟩ := DataW.trod_int Try.underlying3 g0
    obtain ⟨a1, e1, _, _⟩ := DataW.trod_int Try.underlying3 g1
    obtain ⟨a2, e2, _, _⟩ := DataW.trod_int Try.underlying3 g2
    obtain ⟨a3, e3, _, _⟩ := DataW.trod_int Try.underlying3 g3
    obtain ⟨a4, e4, _, _⟩ := DataW.trod_int Try.underlying3 g4
    simp only [List.cons.injEq, and_true] at e0 e1 e2 e3 e4
    subst e0 e1 e2 e3 e4
    obtain ⟨L, hL⟩ := open_list g5
    exact ⟨a0, a1, a2, a3, a4, c5, L, rfl, hL⟩
end
/-- the last step: the law has answered true, and the arguments read as they read -/
theorem law_post {H : Type} {enc : TypeId × Value → H} {P : Program} {f : Func} {s : ChangeSpec} {W W' : World} {args : Array Value} {v : Value} {ds : List (DataW H)} {before : List MemPlace} (hW : DataW.Whole enc P f.params.toList s.vars false W args.toList ds [] before)
    (hres : DataW.TrodAll enc P W' W.heap.size (fun _ => false) false f.resultTypes.toList (v.resultList f.resultTypes.size) (s.fn H (ds ++ [])).results [])
    (hargs : DataW.TrodAll enc P W' 0 (fun b => decide (b < W.heap.size)) true f.params.toList args.toList (s.fn H (ds ++ [])).args before)
    (hvars : DataW.TrodVars enc P W' (fun b => decide (b < W.heap.size)) s.vars (s.fn H (ds ++ [])).vars []) (hb : Below W.heap.size W W') : s.post enc P f false true false false W args v W' :=
  ⟨ds, [], before, [], before, [], hW, hres, hargs, hvars, World.keptBut_mono (fun _ hp => ⟨hp, .inr (.inl hp)⟩) (hb.frame (· ∈ before)), fun h => by cases h⟩
end Go.Proofs.Ytplpogonkfnafaa
