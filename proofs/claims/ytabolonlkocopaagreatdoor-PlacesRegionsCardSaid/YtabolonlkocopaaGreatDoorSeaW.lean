
/- Seasons: the functions of the program. -/
import Derived.Test.YtabolonlkocopaaGreatDoorNghts
import Derived.Test.YtabolonlkocopaaGreatDoorCld
import Derived.RangeFuncRecord
namespace Go.Proofs.YtabolonlkocopaaGreatDoor
open Go.RowKit Go.Plc

theorem two_cells {w : World} {g : Nat} {a b : Value} {t : TypeId} (h : w.heap[g]? = some (.cells #[a, b] t)) : w.cell? ⟨g, 0, none⟩ = some a ∧ w.cell? ⟨g, 1, none⟩ = some b := by simp [World.cell?, h]
theorem three_cells {w : World} {g : Nat} {a b c : Value} {t : TypeId} (h : w.heap[g]? = some (.cells #[a, b, c] t)) : w.cell? ⟨g, 0, none⟩ = some a ∧ w.cell? ⟨g, 1, none⟩ = some b ∧ w.cell? ⟨g, 2, none⟩ = some c := by simp [World.cell?, h]

theorem tdiv_wrap {n : Int} (h0 : -9223372036854775808 ≤ n) (h1 : n ≤ 9223372036854775807) : wrap64 (n.tdiv 100) = n.tdiv 100 := by
  have e := Int.tmod_add_mul_tdiv n 100
  have l1 := Int.tmod_lt_of_pos n (show (0 : Int) < 100 by decide)
  have l2 := Int.lt_tmod_of_pos n (show (0 : Int) < 100 by decide)
  unfold wrap64
  omega
/-- what InSeason returns -/
def SeaRes (f t n : Int) (w : World) (e : Ending) (w' : World) : Prop :=
  (((vday f && vday t) = true ∧ 0 ≤ n ∧ n ≤ 99999 ∧ ∃ y m d, e = .returned (.tuple #[.bool (inC f t (100 * m + d)), .int .i64 0]) ∧ vdate y m d = true ∧ num y m d = n) ∨
    (∃ er : Int, e = .returned (.tuple #[.bool false, .int .i64 er]) ∧ (er != 0) = true ∧ ((vday f && vday t) = false ∨ ¬ (0 ≤ n ∧ n ≤ 99999)) ∧ er = if (vday f && vday t) = true then 1 else 12)) ∧ Below w.heap.size w w'
end Go.Proofs.YtabolonlkocopaaGreatDoor
