/- Rules and doubts as mathematics. -/
import Derived.Test.YtijidcigfdblaaaGreatDoorShPb
import Derived.Test.YtijidcigfdblaaaGreatDoorShM
namespace Go.Plc
theorem cum_step (y a : Int) (h1 : 1 ≤ a) : ∀ k : Nat, a + k ≤ 13 → cum y a + 28 * k ≤ cum y (a + k)
  | 0, _ => by simp
  | k + 1, h => by
    have ih := cum_step y a h1 k (by omega)
    have s := cum_succ y (a + k) (by omega) (by omega)
    have b := dom_bd y (a + k)
    rw [show a + ((k + 1 : Nat) : Int) = a + k + 1 by omega, s]
    omega
theorem cum_mono (y : Int) {a b : Int} (h : a < b) (h1 : 1 ≤ a) (h2 : b ≤ 13) : cum y a + 28 ≤ cum y b := by
  have s := cum_step y a h1 (b - a).toNat (by omega)
  rw [show a + ((b - a).toNat : Int) = b by omega] at s
  omega

theorem day_lt (y m d : Int) (h1 : 1 ≤ m) (h2 : m ≤ 12) (hd : d ≤ dom y m) : d - 1 + cum y m < doy y := by
  have hs := cum_succ y m h1 h2
  have hl := cum_le y (m + 1)
  omega
theorem num_bd {y m d : Int} (h1 : 1 ≤ m) (h2 : m ≤ 12) (hd1 : 1 ≤ d) (hd : d ≤ dom y m) : dby y ≤ num y m d ∧ num y m d < dby (y + 1) := by
  have := day_lt y m d h1 h2 hd
  have := cum_le y m
  rw [dby_succ]; unfold num; omega
theorem num_inj {y m d y' m' d' : Int} (h1 : 1 ≤ m) (h2 : m ≤ 12) (hd1 : 1 ≤ d) (hd : d ≤ dom y m) (h1' : 1 ≤ m') (h2' : m' ≤ 12) (hd1' : 1 ≤ d') (hd' : d' ≤ dom y' m')
    (e : num y m d = num y' m' d') : y = y' ∧ m = m' ∧ d = d' := by
  have a := num_bd h1 h2 hd1 hd
  have b := num_bd h1' h2' hd1' hd'
  have hy : y = y' := by
    rcases Int.lt_trichotomy y y' with h | h | h
    · have := dby_mono (show y + 1 ≤ y' by omega); omega
    · exact h
    · have := dby_mono (show y' + 1 ≤ y by omega); omega
  subst hy
  have hm : m = m' := by
    rcases Int.lt_trichotomy m m' with h | h | h
    · have s := cum_succ y m h1 h2
      have : cum y (m + 1) ≤ cum y m' := by
        rcases Int.lt_or_eq_of_le (show m + 1 ≤ m' by omega) with h' | h'
        · have := cum_mono y h' (by omega) (by omega); omega
        · rw [h']; exact Int.le_refl _
      unfold num at e; omega
    · exact h
    · have s := cum_succ y m' h1' h2'
      have : cum y (m' + 1) ≤ cum y m := by
        rcases Int.lt_or_eq_of_le (show m' + 1 ≤ m by omega) with h' | h'
        · have := cum_mono y h' (by omega) (by omega); omega
        · rw [h']; exact Int.le_refl _
      unfold num at e; omega
  subst hm
  refine ⟨rfl, rfl, ?_⟩
  unfold num at e; omega
end Go.Plc
namespace Go.Sh
open Go.Plc Go.Nm Go.Proofs.YtijidcigfdblaaaGreatDoor
structure Rl where
  nm : Int
  rg : List Sq
  fr : Int
  to : Int
  mo : Int
def rlB (r : Rl) : Bool := (betB r.mo 0 100000 && (vday r.fr && vday r.to)) && regB r.rg
def idsF : Int → List Int → Bool
  | _, [] => true
  | a, x :: l => if x ≤ a ∨ 65535 < x then false else idsF x l
def rlN (l : List Rl) : List Int := l.map fun r => r.nm
def rlsB (l : List Rl) : Bool := (decide (l.length ≤ 400) && idsF 0 (rlN l)) && l.all rlB
def rlsE (l : List Rl) : Int := if rlsB l = true then 0 else 42
theorem ids_inc : ∀ {l : List Int} {a : Int}, idsF a l = true → (∀ x ∈ l, a < x ∧ x ≤ 65535) ∧ ∀ (i j : Nat) (x y : Int), i < j → l[i]? = some x → l[j]? = some y → x < y
  | [], a, _ => ⟨fun x h => (by cases h), fun i j x y _ _ h => (by simp at h)⟩
  | z :: l, a, h => by
    unfold idsF at h
    split at h
    · cases h
    · rename_i hz
      obtain ⟨h1, h2⟩ := ids_inc h
      refine ⟨fun x hx => ?_, fun i j x y hij hi hj => ?_⟩
      · rcases List.mem_cons.1 hx with rfl | hx
        · omega
        · have := h1 x hx; omega
      · cases j with
        | zero => omega
        | succ j =>
          rw [List.getElem?_cons_succ] at hj
          cases i with
          | zero =>
            simp only [List.getElem?_cons_zero, Option.some.injEq] at hi
            subst hi
            exact (h1 y (List.mem_of_getElem? hj)).1
          | succ i =>
            rw [List.getElem?_cons_succ] at hi
            exact h2 i j x y (by omega) hi hj
/-- where a name stands -/
def ixF (l : List Int) (n : Int) : Option Nat := l.findIdx? fun y => decide (y = n)
theorem ix_some {l : List Int} {n : Int} {i : Nat} (h : l[i]? = some n) (hb : ∀ (j : Nat) (y : Int), j < i → l[j]? = some y → y ≠ n) : ixF l n = some i := by
  unfold ixF
  rw [List.findIdx?_eq_some_iff_getElem]
  obtain ⟨hi, e⟩ := List.getElem?_eq_some_iff.1 h
  refine ⟨hi, by simp [e], fun j hj => ?_⟩
  have := hb j (l[j]'(by omega)) hj (List.getElem?_eq_getElem _)
  simpa using this
theorem ix_none {l : List Int} {n : Int} (h : ∀ y ∈ l, y ≠ n) : ixF l n = none := by
  unfold ixF
  rw [List.findIdx?_eq_none_iff]
  intro x hx
  simpa using h x hx
noncomputable section
open Classical
def seaB (f t n : Int) : Bool := decide (∃ y m d, vdate y m d = true ∧ num y m d = n ∧ inC f t (100 * m + d) = true)
theorem sea_is {f t n y m d : Int} (hv : vdate y m d = true) (hn : num y m d = n) : seaB f t n = inC f t (100 * m + d) := by
  unfold seaB
  cases hc : inC f t (100 * m + d) with
  | true => exact decide_eq_true ⟨y, m, d, hv, hn, hc⟩
  | false =>
    refine decide_eq_false ?_
    rintro ⟨y', m', d', hv', hn', hc'⟩
    obtain ⟨a1, a2, a3, a4, a5, a6⟩ := (vdate_iff _ _ _).1 hv
    obtain ⟨b1, b2, b3, b4, b5, b6⟩ := (vdate_iff _ _ _).1 hv'
    obtain ⟨e1, e2, e3⟩ := num_inj a3 a4 a5 a6 b3 b4 b5 b6 (hn.trans hn'.symm)
    subst e1; subst e2; subst e3
    rw [hc] at hc'
    cases hc'
/-- the kinds of doubt that a rule has about a line -/
def kdP (r : Rl) (s : Sq) : Bool := !hasS r.rg s
def kdS (r : Rl) (n : Int) : Bool := !seaB r.fr r.to n
def kdM (r : Rl) (c : Int) : Bool := decide (r.mo < c)
def nxF (a b c : Bool) (q : Int) : Int :=
  if q = 1 ∧ a = true then 1 else if (q = 1 ∨ q = 2) ∧ b = true then 2 else if (q = 1 ∨ q = 2 ∨ q = 3) ∧ c = true then 3 else 0
def kindsF (a b c : Bool) : List Int := (if a = true then [1] else []) ++ (if b = true then [2] else []) ++ (if c = true then [3] else [])
def pgSq (p : Pg) : Sq := ⟨p.lv, p.sx, p.sy⟩
def lnK (r : Rl) (p : Pg) (x : Ln) : List Int := kindsF (kdP r (pgSq p)) (kdS r p.nt) (kdM r x.lo)
def lnD (l : List Rl) (p : Pg) (i : Nat) (x : Ln) : List (Int × Int × Int) := match ixF (rlN l) x.nm with
  | none => []
  | some a => match l[a]? with
    | none => []
    | some r => (lnK r p x).map fun q => ((i : Int), (a : Int), q)
def dbTo (l : List Rl) (p : Pg) (n : Nat) : List (Int × Int × Int) := ((p.ls.take n).zipIdx).flatMap fun z => lnD l p z.2 z.1
def dbE (l : List Rl) (p : Pg) : Int := if rlsB l = true then (if okP p = true then 0 else 40) else 42
def dbF (l : List Rl) (p : Pg) : List (Int × Int × Int) := if dbE l p = 0 then dbTo l p p.ls.length else []
theorem db_next {l : List Rl} {p : Pg} {i : Nat} {x : Ln} (h : p.ls[i]? = some x) : dbTo l p (i + 1) = dbTo l p i ++ lnD l p i x := by
  unfold dbTo
  have hi := (List.getElem?_eq_some_iff.1 h).1
  rw [show p.ls.take (i + 1) = p.ls.take i ++ [x] from by rw [List.take_add_one, h]; rfl, List.zipIdx_append, List.flatMap_append]
  simp [List.length_take, Nat.min_eq_left (Nat.le_of_lt hi)]
end
end Go.Sh
