/- What the rows share: the harness, the looks. -/
import Derived.Test.YtijidcigfdblaaaGreatDoorShRb
namespace Go.Proofs.YtijidcigfdblaaaGreatDoor
open Go.ChangeShapes Go.WideShapes Go.RowKit
theorem kMain : Tryz.prog.mainIs = some (true, "ab7181437f9aeaad4a59cd38734e662c3f2122e82a6799f02c1c5ed9aa67d71b".toList) := by kernel_rfl
theorem kLooks : true = Tryz.prog.looks [] := by kernel_rfl
end Go.Proofs.YtijidcigfdblaaaGreatDoor
