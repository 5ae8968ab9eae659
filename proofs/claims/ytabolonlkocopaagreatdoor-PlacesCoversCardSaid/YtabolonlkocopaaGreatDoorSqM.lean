
/- Squares and sets of squares as plain mathematics: no program, no memory. -/
namespace Go.Plc

structure Sq where
  l : Int
  x : Int
  y : Int
deriving DecidableEq, Repr

def sideOf (l : Int) : Int := 2 ^ (10 - l).toNat
def Sq.okB (s : Sq) : Bool := decide (0 ≤ s.l ∧ s.l ≤ 10 ∧ 0 ≤ s.x ∧ s.x < sideOf s.l ∧ 0 ≤ s.y ∧ s.y < sideOf s.l)
theorem Sq.okB_iff (s : Sq) : s.okB = true ↔ 0 ≤ s.l ∧ s.l ≤ 10 ∧ 0 ≤ s.x ∧ s.x < sideOf s.l ∧ 0 ≤ s.y ∧ s.y < sideOf s.l := by unfold Sq.okB; simp
def blurS (s : Sq) (L : Int) : Sq := ⟨L, s.x / 2 ^ (L - s.l).toNat, s.y / 2 ^ (L - s.l).toNat⟩
def withinS (a b : Sq) : Bool := decide (a.l ≤ b.l) && decide (blurS a b.l = b)
def kidsS (s : Sq) : List Sq := [⟨s.l - 1, 2 * s.x, 2 * s.y⟩, ⟨s.l - 1, 2 * s.x + 1, 2 * s.y⟩, ⟨s.l - 1, 2 * s.x, 2 * s.y + 1⟩, ⟨s.l - 1, 2 * s.x + 1, 2 * s.y + 1⟩]
def aheadB (a b : Sq) : Bool := if a.l ≠ b.l then decide (a.l < b.l) else if a.y ≠ b.y then decide (a.y < b.y) else decide (a.x < b.x)
def cmpS (a b : Sq) : Int := if a.l ≠ b.l then (if a.l < b.l then -1 else 1) else if a.y ≠ b.y then (if a.y < b.y then -1 else 1) else if a.x < b.x then -1 else if a.x = b.x then 0 else 1

theorem side_pos (l : Int) : 1 ≤ sideOf l := by
  unfold sideOf
  have : (0 : Int) < 2 ^ (10 - l).toNat := Int.pow_pos (by decide)
  omega
theorem side_eq (l : Int) (h0 : 0 ≤ l) (h1 : l ≤ 10) :
    sideOf l = if l = 0 then 1024 else if l = 1 then 512 else if l = 2 then 256 else if l = 3 then 128 else if l = 4 then 64 else if l = 5 then 32 else if l = 6 then 16 else if l = 7 then 8 else if l = 8 then 4 else if l = 9 then 2 else 1 := by
  have hl : l = 0 ∨ l = 1 ∨ l = 2 ∨ l = 3 ∨ l = 4 ∨ l = 5 ∨ l = 6 ∨ l = 7 ∨ l = 8 ∨ l = 9 ∨ l = 10 := by omega
  rcases hl with rfl | rfl | rfl | rfl | rfl | rfl | rfl | rfl | rfl | rfl | rfl <;> decide
theorem side_le (l : Int) (h0 : 0 ≤ l) : sideOf l ≤ 1024 := by
  by_cases h : l ≤ 10
  · rw [side_eq l h0 h]; repeat' split
    all_goals omega
  · unfold sideOf; rw [show (10 - l).toNat = 0 by omega]; decide
theorem cmp_lt (a b : Sq) : (cmpS a b < 0) ↔ aheadB a b = true := by
  unfold cmpS aheadB
  repeat' split
  all_goals simp_all
  all_goals omega
theorem cmp_bd (a b : Sq) : cmpS a b = -1 ∨ cmpS a b = 0 ∨ cmpS a b = 1 := by
  unfold cmpS; repeat' split
  all_goals simp
theorem Sq.ext3 {a b : Sq} (h1 : a.l = b.l) (h2 : a.x = b.x) (h3 : a.y = b.y) : a = b := by
  cases a; cases b; simp at *; exact ⟨h1, h2, h3⟩
theorem ahead_iff (a b : Sq) : aheadB a b = true ↔ a.l < b.l ∨ (a.l = b.l ∧ (a.y < b.y ∨ (a.y = b.y ∧ a.x < b.x))) := by
  unfold aheadB
  by_cases h1 : a.l = b.l <;> by_cases h2 : a.y = b.y <;> simp [h1, h2] <;> omega
theorem cmp_eq {a b : Sq} (h1 : ¬ cmpS a b < 0) (h2 : ¬ cmpS b a < 0) : a = b := by
  rw [cmp_lt, ahead_iff] at h1 h2
  apply Sq.ext3 <;> omega

/-! insertion sort: the one sorted list -/
def insS (s : Sq) : List Sq → List Sq
  | [] => [s]
  | t :: r => if aheadB t s then t :: insS s r else s :: t :: r
def sortS : List Sq → List Sq
  | [] => []
  | s :: r => insS s (sortS r)

/-! A set of squares is a list without repeats. -/
def addS (C : List Sq) (s : Sq) : List Sq := if s ∈ C then C else C ++ [s]
def dropS (C : List Sq) (s : Sq) : List Sq := C.filter fun t => !decide (t = s)
def ofList (l : List Sq) : List Sq := l.foldl addS []
def hasAroundS (C : List Sq) (s : Sq) : Bool := (List.range 11).any fun i => decide (s.l < (i : Int)) && decide (blurS s i ∈ C)
def coversS (C : List Sq) (s : Sq) : Bool := decide (s ∈ C) || hasAroundS C s
def parS (s : Sq) : Sq := blurS s (s.l + 1)
def leadsS (C : List Sq) (s : Sq) : Bool := !(decide (s.l = 10) || decide (s.x % 2 ≠ 0) || decide (s.y % 2 ≠ 0)) && (kidsS (parS s)).all fun k => decide (k ∈ C)
def joinStep (C : List Sq) (s : Sq) : List Sq := if leadsS C s then addS ((kidsS (parS s)).foldl dropS C) (parS s) else C
def rowS (C : List Sq) (i : Nat) : List Sq := sortS (C.filter fun s => decide (s.l = (i : Int)))
def joinS (C : List Sq) : List Sq := (List.range 11).foldl (fun C i => (rowS C i).foldl joinStep C) C
def regionS (C : List Sq) : List Sq := (List.range 11).flatMap (rowS C)
def normalS (l : List Sq) : List Sq := joinS (l.foldl (fun C s => if hasAroundS C s then dropS C s else C) (ofList l))
def aroundStep (i : Nat) (s : Sq) : Nat → List Sq → List Sq   -- i rounds are left; the level that comes next
  | 0, O => O
  | k + 1, O => if decide (blurS s ((i : Int)) ∈ O) then O else aroundStep (i + 1) s k (addS O (blurS s i))
def aroundS (C : List Sq) : List Sq := (regionS C).foldl (fun O s => aroundStep (s.l + 1).toNat s (10 - s.l).toNat O) []

example : regionS (normalS [⟨0,4,2⟩,⟨0,5,2⟩,⟨0,4,3⟩,⟨0,5,3⟩,⟨0,9,9⟩]) = [⟨0,9,9⟩,⟨1,2,1⟩] := by decide +kernel
end Go.Plc
