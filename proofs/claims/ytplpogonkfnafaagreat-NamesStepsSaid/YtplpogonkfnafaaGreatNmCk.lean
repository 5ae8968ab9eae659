
/- Check. -/
import Derived.Test.YtplpogonkfnafaaGreatNmVo
namespace Go.Proofs.YtplpogonkfnafaaGreat
open Go.RowKit Go.Nm

def checkOut (b : Bk) : Int × Int := if b.chs.length ≤ 64 then (if b.chs.length < (vers b).length then (0, 0) else (20, ((vers b).length : Int))) else (2, 0)
end Go.Proofs.YtplpogonkfnafaaGreat
