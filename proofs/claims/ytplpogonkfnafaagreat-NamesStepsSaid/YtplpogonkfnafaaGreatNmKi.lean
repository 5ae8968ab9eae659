
/- Kind. -/
import Derived.Test.YtplpogonkfnafaaGreatNmBg
namespace Go.Proofs.YtplpogonkfnafaaGreat
open Go.RowKit Go.Nm

/-- what kind of change a change is -/
def kd (x : Ch) : Int := if x.fr.length = 1 ∧ x.to.length = 1 then 1 else if x.fr.length = 1 then 2 else if x.to.length = 1 then 3 else 4
def kindOut (b : Bk) (i : Int) : Int × Int :=
  if openE b [] = 0 then (if 0 ≤ i ∧ i < b.chs.length then (kd (b.chs.getD i.toNat ⟨0, [], []⟩), 0) else (0, 1)) else (0, openE b [])
end Go.Proofs.YtplpogonkfnafaaGreat
