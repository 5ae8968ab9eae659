
/- The reference: its fates. -/
import Derived.Test.YtplpogonkfnafaaGreatNmFi
namespace Go.Proofs.YtplpogonkfnafaaGreat
open Go.RowKit Go.Nm

theorem map_one {l : List Int} {i : Nat} {x : Int} (h : l[i]? = some x) : (l.take (i + 1)).map (fun y => [y]) = (l.take i).map (fun y => [y]) ++ [[x]] := by
  rw [show l.take (i + 1) = l.take i ++ [x] from by rw [List.take_add_one, h]; rfl, List.map_append]; rfl
theorem heap_new2 (w : World) (o1 o2 : Obj) : ((w.alloc o1).alloc o2).heap[w.heap.size + 1]? = some o2 := two_new w o1 o2
end Go.Proofs.YtplpogonkfnafaaGreat
