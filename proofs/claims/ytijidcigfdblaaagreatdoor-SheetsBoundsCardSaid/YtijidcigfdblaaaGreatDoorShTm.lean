/- Texts of sheets as mathematics. -/
import Derived.Test.YtijidcigfdblaaaGreatDoorShM
import Derived.Lib.Split
import Derived.Lib.SplitLaws
import Derived.Lib.AtoiAll
import Derived.Lib.ItoaLen
namespace Go.Sh
open Go Go.Plc Go.Nm
/-- a text parted at a byte -/
def splitC (c : UInt8) : List UInt8 → List (List UInt8)
  | [] => [[]]
  | b :: l => if b = c then [] :: splitC c l else match splitC c l with
    | [] => [[b]]
    | f :: r => (b :: f) :: r
theorem splitC_ne (c : UInt8) : ∀ l, splitC c l ≠ []
  | [] => by simp [splitC]
  | b :: l => by
    unfold splitC
    split
    · simp
    · split <;> simp
theorem split_ix {c : UInt8} : ∀ {s : List UInt8}, (Lib.index s [c] = -1 ∧ splitC c s = [s]) ∨ ∃ i : Nat, Lib.index s [c] = i ∧ i + 1 ≤ s.length ∧ splitC c s = s.take i :: splitC c (s.drop (i + 1))
  | [] => .inl ⟨rfl, rfl⟩
  | b :: l => by
    by_cases h : b = c
    · subst h
      refine .inr ⟨0, ?_, by simp, ?_⟩
      · unfold Lib.index; simp
      · rw [show splitC b (b :: l) = [] :: splitC b l from by rw [splitC]; simp]
        rfl
    · have hp : ([c].isPrefixOf (b :: l)) = false := by
        rw [List.isPrefixOf]
        simp only [Bool.and_eq_false_iff]
        exact .inl (beq_eq_false_iff_ne.2 (Ne.symm h))
      have hi : Lib.index (b :: l) [c] = if Lib.index l [c] == -1 then -1 else Lib.index l [c] + 1 := by rw [Lib.index, if_neg (by simp [hp])]
      rcases split_ix (c := c) (s := l) with ⟨h1, h2⟩ | ⟨i, h1, h2, h3⟩
      · refine .inl ⟨by rw [hi, h1]; rfl, ?_⟩
        rw [splitC, if_neg h, h2]
      · refine .inr ⟨i + 1, ?_, by simp; omega, ?_⟩
        · rw [hi, h1, if_neg (by simp only [beq_iff_eq]; omega)]; omega
        · rw [splitC, if_neg h, h3]; rfl
theorem split_all (c : UInt8) : ∀ (n : Nat) (s : List UInt8), s.length ≤ n → Lib.split s [c] = splitC c s
  | n, s, hn => by
    unfold Lib.split
    rcases split_ix (c := c) (s := s) with ⟨h1, h2⟩ | ⟨i, h1, h2, h3⟩
    · rw [Lib.count_miss h1, h2]; rfl
    · cases n with
      | zero => omega
      | succ n =>
        have hl : (s.drop (i + 1)).length ≤ n := by rw [List.length_drop]; omega
        have ih := split_all c n (s.drop (i + 1)) hl
        unfold Lib.split at ih
        have hc := Lib.count_hit (s := s) (sub := [c]) (i := i) (by simp) h1
        rw [hc, h3, Nat.add_comm, Lib.splitK, if_neg (by rw [h1]; simp only [beq_iff_eq]; omega), h1]
        simp only [List.length_singleton, Int.toNat_natCast, Nat.add_zero]
        rw [ih]
/-- the digits of a number, by fuel -/
def digN : Nat → Nat → List UInt8
  | 0, u => [UInt8.ofNat (48 + u)]
  | f + 1, u => if u < 10 then [UInt8.ofNat (48 + u)] else digN f (u / 10) ++ [UInt8.ofNat (48 + u % 10)]
theorem dec_dig : ∀ (f u : Nat), u < 10 ^ (f + 1) → Lib.decDigits u = digN f u
  | 0, u, h => by
    have h1 : u < 10 := by simpa using h
    rw [Lib.decDigits, dif_pos h1]; rfl
  | f + 1, u, h => by
    by_cases h1 : u < 10
    · rw [Lib.decDigits, dif_pos h1, digN, if_pos h1]
    · rw [Lib.decDigits, dif_neg h1, digN, if_neg h1, dec_dig f (u / 10) (by rw [Nat.pow_succ] at h; omega)]
def itT (n : Int) : List UInt8 := if n < 0 then 45 :: digN 18 n.natAbs else digN 18 n.toNat
def i64B (n : Int) : Prop := -9223372036854775808 ≤ n ∧ n ≤ 9223372036854775807
theorem itoa_it {n : Int} (h : i64B n) : Lib.itoa n = itT n := by
  obtain ⟨h1, h2⟩ := h
  have hp : (10 : Nat) ^ (18 + 1) = 10000000000000000000 := by decide
  unfold Lib.itoa itT
  split
  · rw [dec_dig 18 n.natAbs (by rw [hp]; omega)]
  · rw [dec_dig 18 n.toNat (by rw [hp]; omega)]
def hdW : List UInt8 := [115, 104, 101, 101, 116]
def lnW : List UInt8 := [108, 105, 110, 101]
def enW : List UInt8 := [101, 110, 100]
def numT (ns : List Int) : List UInt8 := ns.flatMap fun n => 32 :: itT n
def lineT (word : List UInt8) (ns : List Int) : List UInt8 := word ++ numT ns ++ [10]
def hdN (p : Pg) : List Int := [p.ob, p.yr, p.sx, p.sy, p.nt, p.lm, p.lo, p.hi]
def lnN (x : Ln) : List Int := x.nm :: x.lo :: x.hi :: x.sn
def lnsT (l : List Ln) : List UInt8 := l.flatMap fun x => lineT lnW (lnN x)
def textF (p : Pg) : List UInt8 := lineT hdW (hdN p) ++ lnsT p.ls ++ lineT enW []
def prtE (p : Pg) : Int := if okP p = true then (if 65536 < (textF p).length then 2 else 0) else 40
def prtT (p : Pg) : List UInt8 := if prtE p = 0 then textF p else []
/-- a number as Print writes it -/
def numR (f : List UInt8) : Option Int := match Lib.atoiAll f with
  | .ok n => if itT n = f then some n else none
  | _ => none
def numsR : List (List UInt8) → Option (List Int)
  | [] => some []
  | f :: r => match numR f with
    | none => none
    | some n => match numsR r with
      | none => none
      | some l => some (n :: l)
theorem numsR_len : ∀ {fs : List (List UInt8)} {l : List Int}, numsR fs = some l → l.length = fs.length
  | [], l, h => by simp only [numsR, Option.some.injEq] at h; subst h; rfl
  | f :: r, l, h => by
    unfold numsR at h
    split at h
    · cases h
    · split at h
      · cases h
      · rename_i l' h'
        simp only [Option.some.injEq] at h
        subst h
        rw [List.length_cons, List.length_cons, numsR_len h']
structure Rd where
  pg : Pg
  tk : Int
  dn : Bool
def pg0 : Pg := ⟨0, 0, 0, 0, 0, 0, 0, 0, 0, []⟩
def rd0 : Rd := ⟨pg0, 0, false⟩
/-- the numbers behind a word, n of them, and the fields behind these -/
def fldR (word : List UInt8) (n : Nat) (fs : List (List UInt8)) : Option (List Int × List (List UInt8)) := match fs with
  | [] => none
  | f :: r => if f = word then (if n ≤ r.length then match numsR (r.take n) with
    | none => none
    | some l => some (l, r.drop n) else none) else none
def pgOf (l : List Int) : Pg := ⟨l.getD 0 0, l.getD 1 0, 0, l.getD 2 0, l.getD 3 0, l.getD 4 0, l.getD 5 0, l.getD 6 0, l.getD 7 0, []⟩
def hdR (fs : List (List UInt8)) : Option Pg := match fldR hdW 8 fs with
  | none => none
  | some (l, r) => if r = [] ∧ faultF (pgOf l) = 0 then some (pgOf l) else none
def lnOf (l s : List Int) : Ln := ⟨l.getD 0 0, l.getD 1 0, l.getD 2 0, s⟩
def lnR (fs : List (List UInt8)) : Option Ln := match fldR lnW 3 fs with
  | none => none
  | some (l, r) => match numsR r with
    | none => none
    | some s => if lnB (lnOf l s) = true then some (lnOf l s) else none
def Pg.add (p : Pg) (x : Ln) : Pg := ⟨p.ob, p.yr, p.lv, p.sx, p.sy, p.nt, p.lm, p.lo, p.hi, p.ls ++ [x]⟩
def rdStep (r : Rd) (line : List UInt8) : Option Rd :=
  if r.dn = true then none
  else if r.tk = 0 then match hdR (splitC 32 line) with
    | none => none
    | some p => some ⟨p, r.tk + 1, r.dn⟩
  else if line = enW then some ⟨r.pg, r.tk + 1, true⟩
  else match lnR (splitC 32 line) with
    | none => none
    | some x => if r.pg.ls.length = 200 then none else some ⟨r.pg.add x, r.tk + 1, r.dn⟩
/-- the lines of a text, each with whether it is ended -/
def endsL : List (List UInt8) → List (List UInt8 × Bool)
  | [] => []
  | f :: r => match r with
    | [] => if f = [] then [] else [(f, false)]
    | _ :: _ => (f, true) :: endsL r
def linesL (s : List UInt8) : List (List UInt8 × Bool) := endsL (splitC 10 s)
def rdRun (r : Rd) : List (List UInt8 × Bool) → Rd × Bool
  | [] => (r, true)
  | x :: l => if x.2 = true then match rdStep r x.1 with
    | none => (r, false)
    | some r' => rdRun r' l else (r, false)
theorem rdRun_cons (r : Rd) (x : List UInt8 × Bool) (l : List (List UInt8 × Bool)) : rdRun r (x :: l) = if x.2 = true then (match rdStep r x.1 with
    | none => (r, false)
    | some r' => rdRun r' l) else (r, false) := rfl
theorem rdRun_app : ∀ {r r1 : Rd} {l : List (List UInt8 × Bool)} (m : List (List UInt8 × Bool)), rdRun r l = (r1, true) → rdRun r (l ++ m) = rdRun r1 m
  | r, r1, [], m, h => by
    simp only [rdRun, Prod.mk.injEq] at h
    rw [h.1]; rfl
  | r, r1, x :: l, m, h => by
    rw [List.cons_append, rdRun_cons]
    rw [rdRun_cons] at h
    split
    · rename_i hx
      rw [if_pos hx] at h
      split at h
      · simp at h
      · exact rdRun_app m h
    · rename_i hx
      rw [if_neg hx] at h
      simp at h
theorem rdRun_stop : ∀ {r r1 : Rd} {l : List (List UInt8 × Bool)} (m : List (List UInt8 × Bool)), rdRun r l = (r1, false) → rdRun r (l ++ m) = (r1, false)
  | r, r1, [], m, h => by simp [rdRun] at h
  | r, r1, x :: l, m, h => by
    rw [List.cons_append, rdRun_cons]
    rw [rdRun_cons] at h
    split
    · rename_i hx
      rw [if_pos hx] at h
      split at h
      · exact h
      · exact rdRun_stop m h
    · rename_i hx
      rw [if_neg hx] at h
      exact h
/-- what Parse answers -/
def prsE (s : List UInt8) : Int := if 65536 < s.length then 2 else if (rdRun rd0 (linesL s)).2 = true ∧ (rdRun rd0 (linesL s)).1.dn = true then 0 else 41
def prsN (s : List UInt8) : Int := if prsE s = 41 then (rdRun rd0 (linesL s)).1.tk + 1 else 0
def prsP (s : List UInt8) : Pg := if prsE s = 0 then (rdRun rd0 (linesL s)).1.pg else pg0
/-- the example of the document -/
def awkL : List UInt8 := [115, 104, 101, 101, 116, 32, 55, 32, 51, 32, 53, 32, 54, 32, 49, 48, 48, 32, 50, 32, 49, 48, 32, 50, 48, 10, 108, 105, 110, 101, 32, 52, 32, 51, 32, 57, 10, 108, 105, 110, 101, 32, 56, 32, 53, 32, 53, 32, 51, 32, 49, 10, 101, 110, 100, 10]
def awkP (lo hi : Int) : Pg := ⟨7, 3, 0, 5, 6, 100, 2, lo, hi, [⟨4, 3, 9, []⟩, ⟨8, 5, 5, [3, 1]⟩]⟩
theorem awk_parse : prsE (awkL ++ [32]) = 41 ∧ prsN (awkL ++ [32]) = 5 := by decide +kernel
theorem awk_print : prtE (awkP 10 20) = 0 ∧ prtT (awkP 10 20) = awkL := by decide +kernel
end Go.Sh
