
/- PlacesSquares: the walk. -/
import Derived.Test.YtabolonlkocopaaGreatDoorSqs
import Derived.Test.YtabolonlkocopaaGreatDoorAwk
namespace Go.Proofs.YtabolonlkocopaaGreatDoor
open Go.RowKit Go.Plc

/-- what lies in boxes, and what slices hold, through a long walk -/
structure KB (w : World) (L : List (Nat × Obj)) (S : List (Value × List Sq)) (X : World) : Prop where
  bel : Below w.heap.size w X
  mem : ∀ p ∈ L, X.heap[p.1]? = some p.2
  sl : ∀ q ∈ S, SqSl X X.heap.size q.1 q.2
theorem KB.step {w X Y : World} {L : List (Nat × Obj)} {S : List (Value × List Sq)} (h : KB w L S X) (hb : Below X.heap.size X Y) : KB w L S Y :=
  ⟨h.bel.trans (hb.mono h.bel.size), fun p hp => (hb.block _ (Array.getElem?_eq_some_iff.1 (h.mem p hp)).1).trans (h.mem p hp), fun q hq => ((h.sl q hq).below hb).mono hb.size⟩
theorem KB.new {w X : World} {L : List (Nat × Obj)} {S : List (Value × List Sq)} (h : KB w L S X) (o : Obj) : KB w ((X.heap.size, o) :: L) S (X.alloc o) := by
  have h2 := h.step (below_new o)
  refine ⟨h2.bel, fun p hp => ?_, h2.sl⟩
  rcases List.mem_cons.1 hp with rfl | hp
  · exact World.alloc_heap_new X o
  · exact h2.mem p hp
theorem KB.slice {w X : World} {L : List (Nat × Obj)} {S : List (Value × List Sq)} (h : KB w L S X) {v : Value} {R : List Sq} (hv : SqSl X X.heap.size v R) : KB w L ((v, R) :: S) X :=
  ⟨h.bel, h.mem, fun q hq => by
    rcases List.mem_cons.1 hq with rfl | hq
    · exact hv
    · exact h.sl q hq⟩
def sqO (s : Sq) : Obj := .cells #[.int .i64 s.l, .int .i64 s.x, .int .i64 s.y] 31
theorem KB.lt {w X : World} {L : List (Nat × Obj)} {S : List (Value × List Sq)} (h : KB w L S X) {g : Nat} {o : Obj} (hm : (g, o) ∈ L) : g < X.heap.size := (Array.getElem?_eq_some_iff.1 (h.mem _ hm)).1

theorem child_len (s : Sq) : (childOut s).1.length ≤ 1000000 := by
  unfold childOut
  split
  · split
    · simp
    · simp [kidsS]
  · simp
end Go.Proofs.YtabolonlkocopaaGreatDoor
