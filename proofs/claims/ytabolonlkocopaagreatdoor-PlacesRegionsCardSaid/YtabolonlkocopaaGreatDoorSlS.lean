
/- A slice of squares that came in: opened, and shut again behind a call that keeps what lay. -/
import Derived.Test.YtabolonlkocopaaGreatDoorCvr
import Derived.Deep.Slices
import Derived.Deep.Strs
import Derived.ChangeSame
import Derived.OpenShut
namespace Go.Proofs.YtabolonlkocopaaGreatDoor
open Go.ChangeShapes Go.WideShapes Go.RowKit Go.Plc Go.Deep

theorem choose_sq {n : Nat} {p : Nat → Sq → Prop} (h : ∀ i, i < n → ∃ s, p i s) : ∃ f : Nat → Sq, ∀ i, i < n → p i (f i) := by
  refine ⟨fun i => if hi : i < n then Classical.choose (h i hi) else ⟨0, 0, 0⟩, fun i hi => ?_⟩
  simp only [dif_pos hi]
  exact Classical.choose_spec (h i hi)

theorem cells_same {W W' : World} {base n : Nat} {a : Addr} (h : ∀ j, W'.cell? (a.add j) = W.cell? (a.add j)) : W'.cells? base a n = W.cells? base a n := by
  unfold World.cells?
  simp only [h]

section
variable {H : Type} {enc : TypeId × Value → H} {W : World}
set_option maxRecDepth 100000 in
/-- three cells of a square, as data, in whatever world -/
theorem sq_data {f0 f1 f2 : Field} (hs : Tryz.prog.underlying 31 = some (.struct #[f0, f1, f2])) (o0 : f0.offset = 0) (o1 : f1.offset = 1) (o2 : f2.offset = 2) (t0 : f0.type = 3) (t1 : f1.type = 3) (t2 : f2.type = 3)
    {base : Nat} {sp : Nat → Bool} {hd : Bool} {n : Nat} {cs : List Value} {x : DataW H × List MemPlace} (h : DataW.trod enc Tryz.prog W base sp hd n 31 cs = some x) (hl : cs.length = 3) :
    ∃ s : Sq, cs = [.int .i64 s.l, .int .i64 s.x, .int .i64 s.y] ∧ ∀ (W' : World) (base' : Nat) (sp' : Nat → Bool) (hd' : Bool), ∃ m, DataW.trod enc Tryz.prog W' base' sp' hd' m 31 cs = some x := by
  have hc : Tryz.prog.cellsOf 3 = 1 := by kernel_rfl
  obtain ⟨ys, k, _, hx, _, hyl, hf⟩ := DataW.trod_struct hs h
  match cs, hl, ys, hyl with
  | [c0, c1, c2], _, [y0, y1, y2], _ =>
    have g0 := hf 0 f0 rfl
    have g1 := hf 1 f1 rfl
    have g2 := hf 2 f2 rfl
    simp [o0, o1, o2, t0, t1, t2, hc] at g0 g1 g2
    obtain ⟨a, e0, rfl, w0⟩ := DataW.trod_int Tryz.underlying3 g0
    obtain ⟨b, e1, rfl, w1⟩ := DataW.trod_int Tryz.underlying3 g1
    obtain ⟨c, e2, rfl, w2⟩ := DataW.trod_int Tryz.underlying3 g2
    simp only [List.cons.injEq, and_true] at e0 e1 e2
    subst e0; subst e1; subst e2
    refine ⟨⟨a, b, c⟩, rfl, fun W' base' sp' hd' => ⟨2, ?_⟩⟩
    rw [hx]
    exact trod_struct3_mk (n := 1) hs (by kernel_rfl) (by simp only [o0, t0, hc]; exact trod_int_mk 0 Tryz.underlying3 w0) (by simp only [o1, t1, hc]; exact trod_int_mk 0 Tryz.underlying3 w1) (by simp only [o2, t2, hc]; exact trod_int_mk 0 Tryz.underlying3 w2)

set_option maxRecDepth 100000 in
/-- A SLICE OF SQUARES AS AN ARGUMENT: the squares that it holds; and behind a call that keeps what lay it reads as it read. -/
theorem open_squares {f0 f1 f2 : Field} (hs : Tryz.prog.underlying 31 = some (.struct #[f0, f1, f2])) (o0 : f0.offset = 0) (o1 : f1.offset = 1) (o2 : f2.offset = 2) (t0 : f0.type = 3) (t1 : f1.type = 3) (t2 : f2.type = 3)
    {v : Value} {d : DataW H} {ps : List MemPlace} {base : Nat} (hval : Value.okWide Tryz.prog W .any base 22 v) (hd : DataW.Trod enc Tryz.prog W 0 (fun _ => true) true 22 v d ps) :
    ∃ L : List Sq, SqSl W W.heap.size v L ∧ ∀ W', Below W.heap.size W W' → DataW.Trod enc Tryz.prog W' 0 (fun b => decide (b < W.heap.size)) true 22 v d ps := by
  have ce : Tryz.prog.cellsOf 31 = 3 := by kernel_rfl
  obtain ⟨A0, n0, c0, rfl⟩ := okWide_slice Tryz.underlying22 hval
  obtain ⟨fuel, hf⟩ := hd
  rcases open_slice Tryz.underlying22 hf with ⟨hcs, hx⟩ | ⟨a, len, cap, m, n, D, Pl, hcs, hb, hl, hm, hmm, hx, hi⟩
  · simp [Value.cells] at hcs
    obtain ⟨rfl, rfl, rfl⟩ := hcs
    injection hx with h1 h2
    subst h1; subst h2
    exact ⟨[], ⟨none, 0, rfl, fun i s h => by simp at h⟩, fun W' _ => shut_slice_nil Tryz.underlying22⟩
  · simp [Value.cells] at hcs
    obtain ⟨rfl, rfl, rfl⟩ := hcs
    rw [if_pos rfl] at hmm
    subst hmm
    injection hx with h1 h2
    subst h1; subst h2
    have each : ∀ i, i < m → ∃ s : Sq, (∀ j v, [Value.int .i64 s.l, .int .i64 s.x, .int .i64 s.y][j]? = some v → W.cell? ((a.add (i * 3)).add j) = some v) ∧ W.cells? 0 (a.add (i * 3)) 3 = some [.int .i64 s.l, .int .i64 s.x, .int .i64 s.y] ∧
        ∀ (W' : World) (base' : Nat) (sp' : Nat → Bool) (hd' : Bool), ∃ k, DataW.trod enc Tryz.prog W' base' sp' hd' k 31 [.int .i64 s.l, .int .i64 s.x, .int .i64 s.y] = some (D i, Pl i) := fun i him => by
      obtain ⟨cs', g1, g2⟩ := hi i him
      rw [ce] at g1
      obtain ⟨_, hlen, hcell⟩ := World.cells?_some g1
      obtain ⟨s, e, hall⟩ := sq_data hs o0 o1 o2 t0 t1 t2 g2 hlen
      subst e
      exact ⟨s, fun j v hj => by
        have hj3 : j < 3 := by have := (List.getElem?_eq_some_iff.1 hj).1; simpa using this
        rw [hcell j hj3]; exact hj, g1, hall⟩
    obtain ⟨f, hfs⟩ := choose_sq each
    have hblk : 0 < m → a.block < W.heap.size := fun h => by
      have := World.block_lt_of_cell? _ _ ((hfs 0 h).1 0 _ rfl)
      rwa [add_block, add_block] at this
    refine ⟨(List.range n0).map f, ⟨some a, m, by simp, fun i s hs' => ?_⟩, fun W' hB => ?_⟩
    · have hil : i < n0 := by have := (List.getElem?_eq_some_iff.1 hs').1; simpa using this
      have es : f i = s := by simpa [hil] using hs'
      subst es
      obtain ⟨g, _, _⟩ := hfs i (by omega)
      exact ⟨a, rfl, hblk (by omega), g 0 _ rfl, g 1 _ rfl, g 2 _ rfl⟩
    · by_cases hm0 : 0 < m
      · have hlt := hblk hm0
        have h := shut_slice_whole (enc := enc) (P := Tryz.prog) (w := W') (base := 0) (spare := fun b => decide (b < W.heap.size)) (held := true) (a := a) (len := n0) (cap := m) Tryz.underlying22 (Nat.zero_le _) hl hm (by simpa using hlt) D Pl (fun i him => by
          obtain ⟨_, g, hall⟩ := hfs i him
          obtain ⟨k, hk⟩ := hall W' 0 (fun b => decide (b < W.heap.size)) true
          refine ⟨_, k, ?_, hk⟩
          rw [ce]
          rw [cells_same (W := W) (fun j => hB.cell (by rw [add_block, add_block]; exact hlt))]
          exact g)
        exact h
      · obtain rfl : m = 0 := by omega
        obtain rfl : n0 = 0 := by omega
        cases hd : decide (a.block < W.heap.size)
        · exact shut_slice (enc := enc) (P := Tryz.prog) (w := W') (base := 0) (spare := fun b => decide (b < W.heap.size)) (held := true) (a := a) (len := 0) (cap := 0) Tryz.underlying22 (Nat.zero_le _) hl hm hd D Pl (fun i him => absurd him (by omega))
        · exact shut_slice_whole (enc := enc) (P := Tryz.prog) (w := W') (base := 0) (spare := fun b => decide (b < W.heap.size)) (held := true) (a := a) (len := 0) (cap := 0) Tryz.underlying22 (Nat.zero_le _) hl hm hd D Pl (fun i him => absurd him (by omega))
end
end Go.Proofs.YtabolonlkocopaaGreatDoor
