
/- What the rows share: a key that came in. -/
import Derived.Test.YthfegbcbpeedbaaGreatDoorTie
import Derived.Test.YthfegbcbpeedbaaGreatDoorCards
import Derived.Test.YthfegbcbpeedbaaGreatDoorKyAs
import Derived.LaidMore
import Derived.Stop.Joined
import Derived.Stop.LaidErr
import Derived.Lib.LaidTab
import Derived.SevenTiedAt
import Derived.Test.YthfegbcbpeedbaaGreatDoorKyOd
namespace Go.Proofs.YthfegbcbpeedbaaGreatDoor
open Go.ChangeShapes Go.WideShapes Go.RowKit Go.Nm Go.Ky Go.Deep Go.Joins

noncomputable abbrev laid2 : List (String × DataW Unit) := [("math/bits.deBruijn32tab", Rows.laid_math_bits_deBruijn32tab), ("math/bits.deBruijn64tab", Rows.laid_math_bits_deBruijn64tab)]
theorem door_met (os : Os) (args : Array Value) : laidMetH Tryz.prog laid2 ((World.doorLaid Tryz.prog 400 os).forCall (fun _ _ => 0) ⟨#[], args, []⟩).memory :=
  laidMetH_of_parts3 (fuel := 8) (laidMet_of_run' 8 (by kernel_rfl) (by kernel_rfl)) (by kernel_rfl) (by kernel_rfl)
theorem of_laid {W : World} (h : laidMetH Tryz.prog laid2 W) : TabH W := by
  rw [MakeChecks.laidMetH_plain _ _ _ (by kernel_rfl)] at h
  have h3 := h.tail
  have hm : Lib.TabIs Tryz.prog W "math/bits.deBruijn64tab" .u8 (tab64.map fun (k : Nat) => (k : Int)) := Lib.tabIs_of_head (g := 0) (t := 128) (e := 5) (by kernel_rfl) (by kernel_rfl) Tryz.underlying128 Tryz.underlying5 (by kernel_rfl) (by kernel_rfl) h3
  intro k hk
  have h1 := hm.cell (g := 0) (by kernel_rfl) k (by rw [List.length_map]; exact hk)
  rw [h1]
  have hk2 : k < tab64.length := hk
  simp [List.getD_eq_getElem?_getD, List.getElem?_map, List.getElem?_eq_getElem hk2]
section
variable {H : Type} {enc : TypeId × Value → H} {W : World}
set_option maxRecDepth 100000 in
theorem open_rows {v : Value} {n : Nat} {x : DataW H × List MemPlace} (h : DataW.trod enc Tryz.prog W 0 (fun _ => true) true n 23 [v] = some x) : ∃ L, IlSl W W.heap.size v L := by
  rcases open_slice Tryz.underlying23 h with ⟨e, _⟩ | ⟨a, len, cap, m, k, D, Pl, e, _, hlc, _, hm, _, hi⟩
  · simp only [List.cons.injEq, and_true] at e
    subst e
    exact ⟨[], IlSl.nil _ _⟩
  · simp only [List.cons.injEq, and_true] at e
    subst e
    rw [if_pos rfl] at hm
    have hC : Tryz.prog.cellsOf 58 = 2 := by kernel_rfl
    have hCi : Tryz.prog.cellsOf 3 = 1 := by kernel_rfl
    have hCs : Tryz.prog.cellsOf 22 = 1 := by kernel_rfl
    obtain ⟨L, hl, hL⟩ := list_of (P := fun i (c : Rw) => ∃ vm, a.block < W.heap.size ∧ W.cell? (a.add (i * 2)) = some (.int .i64 c.nm) ∧
      W.cell? ⟨(a.add (i * 2)).block, (a.add (i * 2)).off + 1, none⟩ = some vm ∧ InSl W W.heap.size vm c.may) len (fun i hil => by
      obtain ⟨cs, hcs, ht⟩ := hi i (by omega)
      rw [hC] at hcs
      obtain ⟨_, hcl, hat⟩ := World.cells?_some hcs
      obtain ⟨ys, j, _, _, _, hyl, hf⟩ := DataW.trod_struct Tryz.underlying58 ht
      match cs, hcl, ys, hyl with
      | [c0, c1], _, [y0, y1], _ =>
        have g0 := hf 0 _ rfl
        have g1 := hf 1 _ rfl
        simp [hCi, hCs] at g0 g1
        obtain ⟨z, e0, _, _⟩ := DataW.trod_int Tryz.underlying3 g0
        simp only [List.cons.injEq, and_true] at e0
        subst e0
        obtain ⟨Lf, hLf⟩ := open_list g1
        have a0 := hat 0 (by decide)
        have a1 := hat 1 (by decide)
        simp only [List.getElem?_cons_zero, List.getElem?_cons_succ] at a0 a1
        rw [show ((a.add (i * 2)).add 0) = a.add (i * 2) from by simp [Addr.add]] at a0
        have hb := World.block_lt_of_cell? _ _ a0
        rw [add_block] at hb
        exact ⟨⟨z, Lf⟩, c1, hb, a0, a1, hLf⟩)
    refine ⟨L, _, cap, by rw [hl], fun i c hc => ?_⟩
    obtain ⟨vm, h1, h2⟩ := hL i c hc
    exact ⟨a, vm, rfl, h1, h2⟩
set_option maxRecDepth 100000 in
/-- a matrix that came in -/
theorem open_matrix {v : Value} {d : DataW H} {p : List MemPlace} {base : Nat} (hval : Value.okWide Tryz.prog W .any base 25 v) (h : DataW.Trod enc Tryz.prog W 0 (fun _ => true) true 25 v d p) : ∃ m, MxV W v m := by
  obtain ⟨v0, v1, y0, y1, n, rfl, _, _, g0, g1⟩ := open_agg2 Tryz.underlying25 (by kernel_rfl) (by kernel_rfl) hval h
  obtain ⟨F, hF⟩ := open_list g0
  obtain ⟨C, hC⟩ := open_rows g1
  exact ⟨⟨F, C⟩, v0, v1, rfl, hF, hC⟩
end
end Go.Proofs.YthfegbcbpeedbaaGreatDoor
namespace Go.Proofs.YthfegbcbpeedbaaGreatDoor
open Go.ChangeShapes Go.WideShapes Go.RowKit Go.Nm Go.Ky Go.Deep Go.Joins

section
variable {H : Type} {enc : TypeId × Value → H} {W : World}
set_option maxRecDepth 100000 in
theorem open_nodes {v : Value} {n : Nat} {x : DataW H × List MemPlace} (h : DataW.trod enc Tryz.prog W 0 (fun _ => true) true n 26 [v] = some x) : ∃ L, IlSl W W.heap.size v L := by
  rcases open_slice Tryz.underlying26 h with ⟨e, _⟩ | ⟨a, len, cap, m, k, D, Pl, e, _, hlc, _, hm, _, hi⟩
  · simp only [List.cons.injEq, and_true] at e
    subst e
    exact ⟨[], IlSl.nil _ _⟩
  · simp only [List.cons.injEq, and_true] at e
    subst e
    rw [if_pos rfl] at hm
    have hC : Tryz.prog.cellsOf 55 = 2 := by kernel_rfl
    have hCi : Tryz.prog.cellsOf 3 = 1 := by kernel_rfl
    have hCs : Tryz.prog.cellsOf 22 = 1 := by kernel_rfl
    obtain ⟨L, hl, hL⟩ := list_of (P := fun i (c : Rw) => ∃ vm, a.block < W.heap.size ∧ W.cell? (a.add (i * 2)) = some (.int .i64 c.nm) ∧
      W.cell? ⟨(a.add (i * 2)).block, (a.add (i * 2)).off + 1, none⟩ = some vm ∧ InSl W W.heap.size vm c.may) len (fun i hil => by
      obtain ⟨cs, hcs, ht⟩ := hi i (by omega)
      rw [hC] at hcs
      obtain ⟨_, hcl, hat⟩ := World.cells?_some hcs
      obtain ⟨ys, j, _, _, _, hyl, hf⟩ := DataW.trod_struct Tryz.underlying55 ht
      match cs, hcl, ys, hyl with
      | [c0, c1], _, [y0, y1], _ =>
        have g0 := hf 0 _ rfl
        have g1 := hf 1 _ rfl
        simp [hCi, hCs] at g0 g1
        obtain ⟨z, e0, _, _⟩ := DataW.trod_int Tryz.underlying3 g0
        simp only [List.cons.injEq, and_true] at e0
        subst e0
        obtain ⟨Lf, hLf⟩ := open_list g1
        have a0 := hat 0 (by decide)
        have a1 := hat 1 (by decide)
        simp only [List.getElem?_cons_zero, List.getElem?_cons_succ] at a0 a1
        rw [show ((a.add (i * 2)).add 0) = a.add (i * 2) from by simp [Addr.add]] at a0
        have hb := World.block_lt_of_cell? _ _ a0
        rw [add_block] at hb
        exact ⟨⟨z, Lf⟩, c1, hb, a0, a1, hLf⟩)
    refine ⟨L, _, cap, by rw [hl], fun i c hc => ?_⟩
    obtain ⟨vm, h1, h2⟩ := hL i c hc
    exact ⟨a, vm, rfl, h1, h2⟩
set_option maxRecDepth 100000 in
theorem open_leaves {v : Value} {n : Nat} {x : DataW H × List MemPlace} (h : DataW.trod enc Tryz.prog W 0 (fun _ => true) true n 27 [v] = some x) : ∃ L, VsSl W W.heap.size v L := by
  rcases open_slice Tryz.underlying27 h with ⟨e, _⟩ | ⟨a, len, cap, m, k, D, Pl, e, _, hlc, _, hm, _, hi⟩
  · simp only [List.cons.injEq, and_true] at e
    subst e
    exact ⟨[], none, 0, [], rfl, ⟨rfl, fun i v L h => by simp at h⟩, fun i u h => by simp at h⟩
  · simp only [List.cons.injEq, and_true] at e
    subst e
    rw [if_pos rfl] at hm
    have hCs : Tryz.prog.cellsOf 22 = 1 := by kernel_rfl
    obtain ⟨P, hl, hP⟩ := list_of (P := fun i (c : Value × List Int) => a.block < W.heap.size ∧ W.cell? (a.add i) = some c.1 ∧ InSl W W.heap.size c.1 c.2) len (fun i hil => by
      obtain ⟨cs, hcs, ht⟩ := hi i (by omega)
      rw [hCs] at hcs
      obtain ⟨_, hcl, hat⟩ := World.cells?_some hcs
      match cs, hcl with
      | [c0], _ =>
        obtain ⟨Lf, hLf⟩ := open_list ht
        have a0 := hat 0 (by decide)
        simp only [List.getElem?_cons_zero] at a0
        rw [show ((a.add (i * 1)).add 0) = a.add i from by simp [Addr.add]] at a0
        have hb := World.block_lt_of_cell? _ _ a0
        rw [add_block] at hb
        exact ⟨⟨c0, Lf⟩, hb, a0, hLf⟩)
    refine ⟨P.map (·.2), some a, cap, P.map (·.1), by rw [List.length_map, hl], ⟨by simp, fun i v L hv hL => ?_⟩, fun i u hu => ?_⟩
    · rw [List.getElem?_map] at hv hL
      cases hp : P[i]? with
      | none => rw [hp] at hv; cases hv
      | some p =>
        rw [hp] at hv hL
        simp only [Option.map_some, Option.some.injEq] at hv hL
        rw [← hv, ← hL]
        exact (hP i p hp).2.2
    · rw [List.getElem?_map] at hu
      cases hp : P[i]? with
      | none => rw [hp] at hu; cases hu
      | some p =>
        rw [hp] at hu
        simp only [Option.map_some, Option.some.injEq] at hu
        rw [← hu]
        exact ⟨a, rfl, (hP i p hp).1, (hP i p hp).2.1⟩
set_option maxRecDepth 100000 in
/-- a key that came in -/
theorem open_key {v : Value} {d : DataW H} {p : List MemPlace} {base : Nat} (hval : Value.okWide Tryz.prog W .any base 29 v) (h : DataW.Trod enc Tryz.prog W 0 (fun _ => true) true 29 v d p) : ∃ k, KyV W v k := by
  obtain ⟨v0, v1, y0, y1, n, rfl, _, _, g0, g1⟩ := open_agg2 Tryz.underlying29 (by kernel_rfl) (by kernel_rfl) hval h
  obtain ⟨F, hF⟩ := open_nodes g0
  obtain ⟨C, hC⟩ := open_leaves g1
  exact ⟨⟨F, C⟩, v0, v1, rfl, hF, hC⟩
end
end Go.Proofs.YthfegbcbpeedbaaGreatDoor
