
/- VersionOf. -/
import Derived.Test.YtplpogonkfnafaaGreatNmKi
namespace Go.Proofs.YtplpogonkfnafaaGreat
open Go.RowKit Go.Nm

/-- how many changes are not behind a year -/
def upY (y : Int) : List Ch → Nat
  | [] => 0
  | x :: l => if x.yr ≤ y then upY y l + 1 else 0
theorem upY_le (y : Int) : ∀ l : List Ch, upY y l ≤ l.length
  | [] => Nat.le_refl _
  | x :: l => by
    unfold upY
    split
    · have := upY_le y l; simp only [List.length_cons]; omega
    · simp
theorem upY_get (y : Int) : ∀ (l : List Ch) (i : Nat) (x : Ch), i < upY y l → l[i]? = some x → x.yr ≤ y
  | [], i, x, h, _ => by simp [upY] at h
  | z :: l, i, x, h, hx => by
    unfold upY at h
    split at h
    · rename_i hz
      cases i with
      | zero => simp at hx; rw [← hx]; exact hz
      | succ i => exact upY_get y l i x (by omega) (by simpa using hx)
    · omega
theorem upY_next (y : Int) : ∀ (l : List Ch) (i : Nat) (x : Ch), i ≤ upY y l → l[i]? = some x → x.yr ≤ y → i + 1 ≤ upY y l
  | [], i, x, _, hx, _ => by simp at hx
  | z :: l, i, x, h, hx, hy => by
    unfold upY at h ⊢
    cases i with
    | zero => simp at hx; rw [if_pos (by rw [hx]; exact hy)]; omega
    | succ i =>
      split at h
      · rename_i hz
        rw [if_pos hz]
        have := upY_next y l i x (by omega) (by simpa using hx) hy
        omega
      · omega
def verOfOut (b : Bk) (y : Int) : Int × Int :=
  if openE b [] = 0 then (if 0 ≤ y ∧ y ≤ 273 then ((upY y b.chs : Int), 0) else (0, 1)) else (0, openE b [])
end Go.Proofs.YtplpogonkfnafaaGreat
