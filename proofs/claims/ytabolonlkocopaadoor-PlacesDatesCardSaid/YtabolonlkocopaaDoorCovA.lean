/- Methods of a cover that only look: hasAround, covers, leads, size. -/
import Derived.Test.YtabolonlkocopaaDoorCovY
namespace Go.Proofs.YtabolonlkocopaaDoor
open Go.RowKit Go.Plc

theorem pow_split (a b c : Int) (h1 : a ≤ b) (h2 : b ≤ c) : (2 : Int) ^ (c - a).toNat = 2 ^ (c - b).toNat * 2 ^ (b - a).toNat := by
  rw [← Int.pow_add]; congr 1; omega
theorem blur_ok {s : Sq} (h : s.okB = true) {L : Int} (h1 : s.l ≤ L) (h2 : L ≤ 10) : (blurS s L).okB = true := by
  obtain ⟨a1, a2, a3, a4, a5, a6⟩ := (Sq.okB_iff s).1 h
  have hp : (0 : Int) < 2 ^ (L - s.l).toNat := Int.pow_pos (by decide)
  unfold sideOf at a4 a6
  rw [pow_split s.l L 10 h1 h2] at a4 a6
  refine (Sq.okB_iff _).2 ⟨by show 0 ≤ L; omega, h2, ?_, ?_, ?_, ?_⟩
  · exact Int.ediv_nonneg a3 (by omega)
  · exact Int.ediv_lt_of_lt_mul hp a4
  · exact Int.ediv_nonneg a5 (by omega)
  · exact Int.ediv_lt_of_lt_mul hp a6

theorem hasAround_iff {C : List Sq} {s : Sq} : hasAroundS C s = true ↔ ∃ i : Nat, i < 11 ∧ s.l < (i : Int) ∧ blurS s i ∈ C := by
  unfold hasAroundS
  simp [List.any_eq_true]
/-- the boxes of a method's receiver and of its square -/
structure Boxes (w : World) (g : Nat) (b : Nat → Nat) (s : Sq) (wr : World) : Prop where
  c : wr.heap[g]? = some (.cells (covA b) 84)
  s : wr.heap[g + 1]? = some (.cells #[.int .i64 s.l, .int .i64 s.x, .int .i64 s.y] 23)
  bel : Below g w wr
  sz : g + 2 ≤ wr.heap.size
theorem Boxes.start (w : World) (b : Nat → Nat) (s : Sq) : Boxes w w.heap.size b s ((w.alloc (.cells (covA b) 84)).alloc (.cells #[.int .i64 s.l, .int .i64 s.x, .int .i64 s.y] 23)) := by
  have e : (w.alloc (.cells (covA b) 84)).alloc (.cells #[.int .i64 s.l, .int .i64 s.x, .int .i64 s.y] 23) = Sort.grow w #[.cells (covA b) 84, .cells #[.int .i64 s.l, .int .i64 s.x, .int .i64 s.y] 23] := by
    simp only [Sort.alloc_eq_grow, Sort.grow_grow]; rfl
  rw [e]
  exact ⟨grow_at w _ 0, grow_at w _ 1, grow_below w _, by rw [grow_size]; simp⟩
theorem Boxes.step {w : World} {g : Nat} {b : Nat → Nat} {s : Sq} {wr w1 : World} (h : Boxes w g b s wr) (hb : Below wr.heap.size wr w1) : Boxes w g b s w1 :=
  ⟨(hb.block _ (by have := h.sz; omega)).trans h.c, (hb.block _ (by have := h.sz; omega)).trans h.s, h.bel.trans (hb.mono (by have := h.sz; omega)), Nat.le_trans h.sz hb.size⟩
theorem Boxes.drewN {w : World} {g : Nat} {b : Nat → Nat} {s : Sq} {wr : World} (h : Boxes w g b s wr) (n : Nat) : Boxes w g b s (wr.drewN n) := h.step (below_drewN (Below.refl _ _) n)
theorem sq_cells {w : World} {g : Nat} {s : Sq} {t : TypeId} (h : w.heap[g]? = some (.cells #[.int .i64 s.l, .int .i64 s.x, .int .i64 s.y] t)) :
    w.cell? ⟨g, 0, none⟩ = some (.int .i64 s.l) ∧ w.cell? ⟨g, 1, none⟩ = some (.int .i64 s.x) ∧ w.cell? ⟨g, 2, none⟩ = some (.int .i64 s.y) := by
  refine ⟨?_, ?_, ?_⟩ <;> exact cell_of_row w g _ _ t (0, 0) h

/-- A world in which all that lay in w lies as it lay. -/
structure Wb (w : World) where
  v : World
  h : Below w.heap.size w v
instance wbInhabited (w : World) : Inhabited (Wb w) := ⟨⟨w, Below.refl _ _⟩⟩
theorem wp_region_wb {P : Program} {id : Nat} {Q : Exit → Act → World → Prop} {a : Act} {w : World} {l : List Oper} (hm : P.follows .mixedOrders = true) (hB : Region.lexB .any l.toArray = true)
    (h : wpQuiet P l.toArray (fun w' => ∃ p : Wb w, w' = p.v) (fun a' => ∀ w', (∃ p : Wb w, w' = p.v) → Q .normal a' w') l a) : (Code.region id l.toArray true).wp P Q a w :=
  wp_region_quiet (C := fun w' => ∃ p : Wb w, w' = p.v) hm hB ⟨⟨w.drew, (Below.refl _ _).drew⟩, rfl⟩ (by simpa using h)
theorem Calls.wb {P : Program} {f : FuncId} {args : Array Value} {w : World} {p : Wb w} {v : Value}
    (h : Calls P f args p.v fun e w' => e = .returned v ∧ Below p.v.heap.size p.v w') : Calls P f args p.v fun e w'' => e = .returned v ∧ ∃ q : Wb w, w'' = q.v :=
  h.mono fun _ w' ⟨he, hb⟩ => ⟨he, ⟨w', p.h.trans (hb.mono p.h.size)⟩, rfl⟩
theorem Calls.wb0 {P : Program} {f : FuncId} {args : Array Value} {w : World} {p : Wb w} {v : Value}
    (h : Calls P f args p.v fun e w' => e = .returned v ∧ p.v = w') : Calls P f args p.v fun e w'' => e = .returned v ∧ ∃ q : Wb w, w'' = q.v :=
  h.mono fun _ _ ⟨he, hb⟩ => ⟨he, p, hb.symm⟩
theorem Wb.cell {w : World} {a : Addr} {u : Value} (h : w.cell? a = some u) (p : Wb w) : p.v.cell? a = some u := (p.h.cell (World.block_lt_of_cell? _ _ h)).trans h

set_option maxHeartbeats 1000000 in
theorem hasAround_any (b : Nat → Nat) (s : Sq) (C : List Sq) (w : World) (h : Cov w b C) (hs : s.okB = true) :
    Calls Tryd.prog 75 #[.agg (covA b), sqv s] w fun e w' => e = .returned (.bool (hasAroundS C s)) ∧ Below w.heap.size w w' := by
  obtain ⟨h1, h2, _⟩ := (Sq.okB_iff s).1 hs
  have HB := Lib.hid (Boxes.start w b s)
  have HCv := Lib.hid h
  have HO := Lib.hid hs
  clear h hs
  unfold sqv covA
  go_enter Tryd.func75, Tryd.ntmps75
  go_wp2_with fail
  change Code.wp _ _ _ _ ((w.alloc (.cells (covA b) 84)).alloc (.cells #[.int .i64 s.l, .int .i64 s.x, .int .i64 s.y] 23))
  generalize (w.alloc (.cells (covA b) 84)).alloc (.cells #[.int .i64 s.l, .int .i64 s.x, .int .i64 s.y] 23) = w0 at *
  go_loopw [5] (fun k wr => ∃ j : Int, k = .int .i64 j ∧ s.l < j ∧ j ≤ 11 ∧ (∀ i : Nat, i < 11 → s.l < (i : Int) → (i : Int) < j → blurS s i ∉ C) ∧ Boxes w w.heap.size b s wr) (fun k _ => (11 - intOf k).toNat)
  case atStart => exact ⟨s.l + 1, rfl, by omega, by omega, fun i _ a c => by omega, HB.out⟩
  case round =>
    obtain ⟨j, rfl, hj1, hj2, hno, hR⟩ := hrel
    have HNo := Lib.hid hno
    have HR := Lib.hid hR
    clear hno hR
    obtain ⟨q0, q1, q2, q3, q4, q5, q6, q7, q8, q9, q10⟩ := cov_cells HR.out.c
    obtain ⟨s0, s1, s2⟩ := sq_cells HR.out.s
    by_cases hlt : j ≤ 10
    · have qs := fun p => (⟨Wb.cell q0 p, Wb.cell q1 p, Wb.cell q2 p, Wb.cell q3 p, Wb.cell q4 p, Wb.cell q5 p, Wb.cell q6 p, Wb.cell q7 p, Wb.cell q8 p, Wb.cell q9 p, Wb.cell q10 p⟩ : _ ∧ _ ∧ _ ∧ _ ∧ _ ∧ _ ∧ _ ∧ _ ∧ _ ∧ _ ∧ _)
      have ss := fun p => (⟨Wb.cell s0 p, Wb.cell s1 p, Wb.cell s2 p⟩ : _ ∧ _ ∧ _)
      go_wp2_with fail
      refine wp_region_wb (by kernel_rfl) (by kernel_rfl) ?_; (repeat ((with_reducible refine wpQuiet_step ?_); intro K hK; go_simp; (try (refine ite_neg_of (by simp [undef]) ?_)); first | (with_reducible refine hK _ ?_; clear hK K) | (apply Exists.intro; (with_reducible refine ⟨fun _ => ?_, hK _ ?_⟩); (first | (go_at_call 52; exact Calls.wb (blur_any s j _ (by omega) (by omega) (by omega))) | (go_at_call 84; exact Calls.wb (hasOne_cov b (blurS s j) C _ ((HCv.out.below HR.out.bel).below (Wb.h _)) (blur_ok HO.out (by omega) (by omega))))); clear hK K))); (with_reducible refine wpQuiet_nil ?_); rintro w1 ⟨⟨_, hb1⟩, rfl⟩; (try dsimp only)
      by_cases hit : blurS s j ∈ C
      · have hret := Lib.hid (show hasAroundS C s = true from hasAround_iff.2 ⟨j.toNat, by omega, by omega, by rw [show ((j.toNat : Nat) : Int) = j by omega]; exact hit⟩)
        have hit' : memB (blurS s j) C = true := memB_iff.2 hit
        have hB := Lib.hid (HR.out.step hb1)
        clear hit
        rw [hit']
        clear hit'
        go_wp2_with fail
        go_ret
        exact ⟨ret_b (by rw [hret.out]), hB.out.bel⟩
      · have hit' : memB (blurS s j) C = false := memB_false.2 hit
        have hN := Lib.hid (show ∀ i : Nat, i < 11 → s.l < (i : Int) → (i : Int) < j + 1 → blurS s i ∉ C from fun i a1 a2 a3 => by
          by_cases e : (i : Int) = j
          · rw [e]; exact hit
          · exact HNo.out i a1 a2 (by omega))
        have hB := Lib.hid (HR.out.step hb1)
        clear hit
        rw [hit']
        clear hit'
        go_wp2_with fail
        go_roundw
        case rel => exact ⟨j + 1, rfl, by omega, by omega, hN.out, hB.out⟩
        case measure => simp [intOf]; omega
    · have hret := Lib.hid (show hasAroundS C s = false by
        cases hh : hasAroundS C s
        · rfl
        · obtain ⟨i, a1, a2, a3⟩ := hasAround_iff.1 hh
          exact absurd a3 (HNo.out i a1 a2 (by omega)))
      go_wp2_with fail
      go_ret
      exact ⟨ret_b (by rw [hret.out]), HR.out.bel⟩

end Go.Proofs.YtabolonlkocopaaDoor
