/- PlacesCovering: the walk, all cases together. -/
import Derived.Test.YtabolonlkocopaaDoorCgB
import Derived.Test.YtabolonlkocopaaDoorCgC0
import Derived.Test.YtabolonlkocopaaDoorCgC1
import Derived.Test.YtabolonlkocopaaDoorCgC2
import Derived.Test.YtabolonlkocopaaDoorCgC3
import Derived.Test.YtabolonlkocopaaDoorCgC4
namespace Go.Proofs.YtabolonlkocopaaDoor
open Go.RowKit Go.Plc

theorem PlacesCovering_any (va : Value) (a : List Sq) (s : Sq) (L : Int) (w : World) (hM : MonthDays w) (hT : TabW w) (ha : SqSl w w.heap.size va a) :
    Calls Tryd.prog 9 #[va, sqv s, .int .i64 L] w fun e w' => e = .returned (.bool true) ∧ Below w.heap.size w w' := by
  by_cases hn : (∀ s ∈ a, s.okB = true) ∧ a.length ≤ 40
  · obtain ⟨l, hl, hll, hbad, hgood⟩ := cg_all hn.1 hn.2 s L
    by_cases hok : s.okB = true
    · obtain ⟨hb, mb, kids, ke, hD, hC⟩ := hgood hok
      rcases hC with ⟨hz, rfl, rfl, rfl⟩ | ⟨hz, rfl, rfl, rfl⟩ | ⟨hz, rfl, rfl, rfl⟩ | ⟨hz, rfl, rfl, rfl⟩ | ⟨hz, rfl, rfl, rfl⟩
      · exact PlacesCovering_c0 va a s L w hM hT ha fun _ _ => ⟨l, kids, hl, hD, hz⟩
      · exact PlacesCovering_c1 va a s L w hM hT ha fun _ _ => ⟨l, kids, hl, hD, hz⟩
      · exact PlacesCovering_c2 va a s L w hM hT ha fun _ _ => ⟨l, kids, hl, hD, hz⟩
      · exact PlacesCovering_c3 va a s L w hM hT ha fun _ _ => ⟨l, kids, hl, hD, hz⟩
      · exact PlacesCovering_c4 va a s L w hM hT ha fun _ _ => ⟨l, kids, hl, hD, hz⟩
    · exact PlacesCovering_bad va a s L w hM hT ha fun _ _ => ⟨l, hl, hll, fun b => hbad b hok⟩
  · exact PlacesCovering_bad va a s L w hM hT ha fun h1 h2 => absurd ⟨h1, h2⟩ hn
end Go.Proofs.YtabolonlkocopaaDoor
