/- The small methods of a cover. -/
import Derived.Test.YtabolonlkocopaaDoorCovM
import Derived.StillTailTactics
namespace Go.Proofs.YtabolonlkocopaaDoor
open Go.RowKit Go.Plc

/-- the value of a cover whose maps lie in the blocks b 0 .. b 10 -/
def covA (b : Nat → Nat) : Array Value := #[.map (some (b 0)), .map (some (b 1)), .map (some (b 2)), .map (some (b 3)), .map (some (b 4)), .map (some (b 5)), .map (some (b 6)), .map (some (b 7)), .map (some (b 8)), .map (some (b 9)), .map (some (b 10))]

theorem lvl (l : Int) (h0 : 0 ≤ l) (h1 : l ≤ 10) : l = 0 ∨ l = 1 ∨ l = 2 ∨ l = 3 ∨ l = 4 ∨ l = 5 ∨ l = 6 ∨ l = 7 ∨ l = 8 ∨ l = 9 ∨ l = 10 := by omega
theorem lookQ {b : Nat} {L : List Sq} {w : World} (h : RowAt w b L) {s : Sq} (hs : SqFits s) (n : Nat) :
    Sem.run Tryd.prog (Instr.lookup 82 (.map (some b)) (.agg #[.int .i64 s.l, .int .i64 s.x, .int .i64 s.y]) false) (w.drewN n) = .ok (.bool (decide (s ∈ L))) (w.drewN n) :=
  (h.block (w' := w.drewN n) rfl).look hs
theorem RowAt.alloc {w : World} {b : Nat} {L : List Sq} (h : RowAt w b L) (o : Obj) : RowAt (w.alloc o) b L := h.block (Below.heap_alloc w o b h.lt)

set_option maxHeartbeats 400000 in
theorem hasOne_any (b : Nat → Nat) (s : Sq) (L : List Sq) (w : World) (h : RowAt w (b s.l.toNat) L) (hs : s.okB = true) :
    Calls Tryd.prog 84 #[.agg (covA b), sqv s] w fun e w' => e = .returned (.bool (decide (s ∈ L))) ∧ Below w.heap.size w w' := by
  obtain ⟨h1, h2, _⟩ := (Sq.okB_iff s).1 hs
  have hf := ok_fits hs
  have hq := fun o1 o2 n => lookQ ((h.alloc o1).alloc o2) hf n
  unfold sqv covA
  generalize decide (s ∈ L) = r at *
  clear h hs hf
  obtain ⟨l, x, y⟩ := s
  dsimp only at *
  rcases lvl l h1 h2 with rfl | rfl | rfl | rfl | rfl | rfl | rfl | rfl | rfl | rfl | rfl
  all_goals
    clear h1 h2
    (try simp only [Int.toNat_zero] at hq); (try simp only [Int.reduceToNat] at hq)
    go_enter Tryd.func84, Tryd.ntmps84
    go_wp2_with fail
    go_quiet (fail)
    go_wp2_with fail
    go_ret
    refine ⟨rfl, ?_⟩
    (repeat (first | exact Below.refl _ _ | refine Below.drew ?_ | refine below_drewN ?_ _ | refine Below.alloc ?_ (by simp; try omega) _ | refine Below.setCell ?_ (by simp; try omega) _))

theorem wp_region_tail {P : Program} {id : Nat} {Q : Exit → Act → World → Prop} {a : Act} {w : World} {l : List Oper} (n : Nat) (hm : P.follows .mixedOrders = true) (hB : Region.lexTailB .any l.toArray n = true)
    (h : wpStill P l.toArray w.drew (fun a' => wpList P l.toArray Q (l.drop n) a' w.drew) (l.take n) a) : (Code.region id l.toArray true).wp P Q a w := wp_region_still_tail n hm hB h

/-- Whatever lay when the call began lies as it lay, but for the map in block b. -/
structure But (b : Nat) (w w' : World) : Prop where
  os : w'.os = w.os
  tape : w'.tape = w.tape
  output : w'.output = w.output
  size : w.heap.size ≤ w'.heap.size
  block : ∀ k, k < w.heap.size → k ≠ b → w'.heap[k]? = w.heap[k]?

theorem But.refl (b : Nat) (w : World) : But b w w := ⟨rfl, rfl, rfl, Nat.le_refl _, fun _ _ _ => rfl⟩
theorem But.trans {b : Nat} {x y z : World} (h : But b x y) (k : But b y z) : But b x z :=
  ⟨k.os.trans h.os, k.tape.trans h.tape, k.output.trans h.output, Nat.le_trans h.size k.size, fun i hi hb => (k.block i (Nat.lt_of_lt_of_le hi h.size) hb).trans (h.block i hi hb)⟩
theorem But.of_below {b : Nat} {w w' : World} (h : Below w.heap.size w w') : But b w w' := ⟨h.os, h.tape, h.output, h.size, fun k hk _ => h.block k hk⟩
theorem But.turned {b : Nat} {w w' w'' : World} (h : Below w.heap.size w w') (ht : w'.mapTurned w'' b) : But b w w'' :=
  have g := ht.grown
  ⟨g.os.trans h.os, g.tape.trans h.tape, g.output.trans h.output, Nat.le_trans h.size g.size, fun k hk hb => (g.block k (Nat.lt_of_lt_of_le hk h.size) (by simpa using hb)).trans (h.block k hk)⟩

set_option maxRecDepth 100000 in
set_option maxHeartbeats 400000 in
theorem add_any (b : Nat → Nat) (s : Sq) (L : List Sq) (w : World) (h : RowAt w (b s.l.toNat) L) (hs : s.okB = true) (hlen : L.length < maxLen) :
    Calls Tryd.prog 85 #[.agg (covA b), sqv s] w fun e w' => e = .returned (.tuple #[]) ∧ RowAt w' (b s.l.toNat) (addS L s) ∧ But (b s.l.toNat) w w' := by
  obtain ⟨h1, h2, _⟩ := (Sq.okB_iff s).1 hs
  have hf := ok_fits hs
  obtain ⟨wE, hrun, hrow, hturn⟩ := ((h.alloc (.cells (covA b) 84)).alloc (.cells #[.int .i64 s.l, .int .i64 s.x, .int .i64 s.y] 23)).block (w' := ((w.alloc (.cells (covA b) 84)).alloc (.cells #[.int .i64 s.l, .int .i64 s.x, .int .i64 s.y] 23)).drew) rfl |>.store hf hlen
  have hfin := Lib.hid (show RowAt wE (b s.l.toNat) (addS L s) ∧ But (b s.l.toNat) w wE from ⟨hrow, But.turned (by (repeat (first | exact Below.refl _ _ | refine Below.drew ?_ | refine below_drewN ?_ _ | refine Below.alloc ?_ (by simp; try omega) _ | refine Below.setCell ?_ (by simp; try omega) _))) hturn⟩)
  unfold sqv covA at hrun ⊢
  clear h hrow hturn hs hf hlen
  obtain ⟨l, x, y⟩ := s
  dsimp only at *
  rcases lvl l h1 h2 with rfl | rfl | rfl | rfl | rfl | rfl | rfl | rfl | rfl | rfl | rfl
  all_goals
    clear h1 h2
    (try simp only [Int.toNat_zero] at hrun hfin ⊢); (try simp only [Int.reduceToNat] at hrun hfin ⊢)
    go_enter Tryd.func85, Tryd.ntmps85
    go_wp2_with fail
    refine wp_region_tail 5 (by kernel_rfl) (by kernel_rfl) ?_
    simp only [List.take_succ_cons, List.take_zero, List.drop_succ_cons, List.drop_zero]
    repeat still_step
    refine wpStill_nil ?_
    go_wp2_with fail
    go_end0
    exact ⟨rfl, hfin.out⟩

set_option maxRecDepth 100000 in
set_option maxHeartbeats 400000 in
theorem drop_any (b : Nat → Nat) (s : Sq) (L : List Sq) (w : World) (h : RowAt w (b s.l.toNat) L) (hs : s.okB = true) :
    Calls Tryd.prog 96 #[.agg (covA b), sqv s] w fun e w' => e = .returned (.tuple #[]) ∧ RowAt w' (b s.l.toNat) (dropS L s) ∧ But (b s.l.toNat) w w' := by
  obtain ⟨h1, h2, _⟩ := (Sq.okB_iff s).1 hs
  have hf := ok_fits hs
  obtain ⟨wE, hrun, hrow, hturn⟩ := ((h.alloc (.cells (covA b) 84)).alloc (.cells #[.int .i64 s.l, .int .i64 s.x, .int .i64 s.y] 23)).block (w' := ((w.alloc (.cells (covA b) 84)).alloc (.cells #[.int .i64 s.l, .int .i64 s.x, .int .i64 s.y] 23)).drew) rfl |>.drop hf 0
  have hfin := Lib.hid (show RowAt wE (b s.l.toNat) (dropS L s) ∧ But (b s.l.toNat) w wE from ⟨hrow, But.turned (by (repeat (first | exact Below.refl _ _ | refine Below.drew ?_ | refine below_drewN ?_ _ | refine Below.alloc ?_ (by simp; try omega) _ | refine Below.setCell ?_ (by simp; try omega) _))) hturn⟩)
  unfold sqv covA at hrun ⊢
  clear h hrow hturn hs hf
  obtain ⟨l, x, y⟩ := s
  dsimp only at *
  rcases lvl l h1 h2 with rfl | rfl | rfl | rfl | rfl | rfl | rfl | rfl | rfl | rfl | rfl
  all_goals
    clear h1 h2
    (try simp only [Int.toNat_zero] at hrun hfin ⊢); (try simp only [Int.reduceToNat] at hrun hfin ⊢)
    go_enter Tryd.func96, Tryd.ntmps96
    go_wp2_with fail
    refine wp_region_tail 5 (by kernel_rfl) (by kernel_rfl) ?_
    simp only [List.take_succ_cons, List.take_zero, List.drop_succ_cons, List.drop_zero]
    repeat still_step
    refine wpStill_nil ?_
    go_wp2_with fail
    go_end0
    exact ⟨rfl, hfin.out⟩

end Go.Proofs.YtabolonlkocopaaDoor
