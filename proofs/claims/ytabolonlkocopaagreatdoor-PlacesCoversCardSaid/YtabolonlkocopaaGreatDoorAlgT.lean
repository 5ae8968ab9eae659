
/- three; PlacesAlgebra: the walk. -/
import Derived.Test.YtabolonlkocopaaGreatDoorAlg
namespace Go.Proofs.YtabolonlkocopaaGreatDoor
open Go.RowKit Go.Plc

/-- a normal form, as a call gives it -/
theorem Normal_is (v : Value) (L : List Sq) (w : World) (hv : SqSl w w.heap.size v L) (hn : L.length ≤ 4096) :
    Calls Tryz.prog 8 #[v] w fun e w' => (∃ (u : Value) (er : Int), e = .returned (.tuple #[u, .int .i64 er]) ∧ ((er = 0 ∧ (∀ s ∈ L, s.okB = true) ∧ SqSl w' w'.heap.size u (nrm L)) ∨ (er = 10 ∧ ¬ ∀ s ∈ L, s.okB = true))) ∧ Below w.heap.size w w' := by
  have hout : (normalOut L = (nrm L, 0) ∧ ∀ s ∈ L, s.okB = true) ∨ (normalOut L = ([], 10) ∧ ¬ ∀ s ∈ L, s.okB = true) := by
    by_cases hok : ∀ s ∈ L, s.okB = true
    · left
      refine ⟨?_, hok⟩
      unfold normalOut nrm
      rw [if_pos hn, if_pos (List.all_eq_true.2 hok)]
    · right
      refine ⟨?_, hok⟩
      unfold normalOut
      rw [if_pos hn, if_neg (fun h => hok (List.all_eq_true.1 h))]
  have hN := Normal_any v L w hv (by omega)
  generalize normalOut L = o at *
  generalize nrm L = N at *
  refine hN.mono ?_
  rintro e w' ⟨⟨A, c, rfl, hA⟩, hb⟩
  rcases hout with ⟨rfl, hok⟩ | ⟨rfl, hok⟩
  · exact ⟨⟨_, _, rfl, .inl ⟨rfl, hok, A, c, rfl, hA⟩⟩, hb⟩
  · exact ⟨⟨_, _, rfl, .inr ⟨rfl, hok⟩⟩, hb⟩

/-- what three returns -/
def ThreeRes (a b c : List Sq) (w : World) (e : Ending) (w' : World) : Prop :=
  ((∃ u v t : Value, e = .returned (.tuple #[u, v, t, .bool true]) ∧ (a.length ≤ 40 ∧ b.length ≤ 40 ∧ c.length ≤ 40) ∧ ((∀ s ∈ a, s.okB = true) ∧ (∀ s ∈ b, s.okB = true) ∧ (∀ s ∈ c, s.okB = true)) ∧ SqSl w' w'.heap.size u (nrm a) ∧ SqSl w' w'.heap.size v (nrm b) ∧ SqSl w' w'.heap.size t (nrm c)) ∨
    (∃ u v t : Value, e = .returned (.tuple #[u, v, t, .bool false]))) ∧ Below w.heap.size w w'
theorem sl_form {w : World} {B : Nat} {v : Value} {L : List Sq} (h : SqSl w B v L) : ∃ A c, v = .slice A L.length c := by
  obtain ⟨A, c, h, _⟩ := h; exact ⟨A, c, h⟩
theorem SqSl.step {X Y : World} {v : Value} {L : List Sq} (h : SqSl X X.heap.size v L) (hb : Below X.heap.size X Y) : SqSl Y Y.heap.size v L := (h.below hb).mono hb.size

end Go.Proofs.YtabolonlkocopaaGreatDoor
