/- What is built: mathematics. -/
import Derived.Test.YthfegbcbpeedbaaDoorKyOb
namespace Go.Ky
open Go.Nm
open Go.Proofs.YthfegbcbpeedbaaDoor (updP)
def bitF (seen : List Int) (c : Int) (s : Nat) : Bool := decide (meetF (seen.getD c.toNat 0) (2 ^ s) ≠ 0)
/-- what was visited, in order -/
def walkF (k : Kx) (seen : List Int) : Nat → List Int → Int → List Int
  | 0, B, _ => B
  | d + 1, B, a => if a ∈ B then B else if a < 0 then B ++ [a] else
      (k.nd.getD a.toNat ⟨0, []⟩).may.zipIdx.foldl (fun B p => if bitF seen (k.nd.getD a.toNat ⟨0, []⟩).nm p.2 = true then walkF k seen d B p.1 else B) (B ++ [a])
def wkStep (k : Kx) (seen : List Int) (d : Nat) (c : Int) (B : List Int) (p : Int × Nat) : List Int := if bitF seen c p.2 = true then walkF k seen d B p.1 else B
theorem walk_mem {k : Kx} {seen : List Int} {d : Nat} {B : List Int} {a : Int} (h : a ∈ B) : walkF k seen d B a = B := by
  cases d with
  | zero => rfl
  | succ d => unfold walkF; rw [if_pos h]
theorem walk_leaf {k : Kx} {seen : List Int} {d : Nat} {B : List Int} {a : Int} (h : a ∉ B) (ha : a < 0) : walkF k seen (d + 1) B a = B ++ [a] := by
  unfold walkF; rw [if_neg h, if_pos ha]
theorem walk_node {k : Kx} {seen : List Int} {d : Nat} {B : List Int} {i : Nat} {r : Rw} (h : (i : Int) ∉ B) (hr : k.nd[i]? = some r) : walkF k seen (d + 1) B (i : Int) = r.may.zipIdx.foldl (wkStep k seen d r.nm) (B ++ [(i : Int)]) := by
  have e : k.nd.getD (i : Int).toNat ⟨0, []⟩ = r := by rw [Int.toNat_natCast, List.getD_eq_getElem?_getD, hr]; rfl
  unfold walkF
  rw [if_neg h, if_neg (by omega), e]
  rfl
theorem fold_next {α β : Type} {f : β → α → β} {L : List α} {i : Nat} {x : α} (h : L[i]? = some x) (b : β) : (L.take (i + 1)).foldl f b = f ((L.take i).foldl f b) x := by
  rw [List.take_add_one, h, List.foldl_append]; rfl
theorem idx_getI {L : List Int} {i : Nat} {x : Int} (h : L[i]? = some x) : L.zipIdx[i]? = some (x, i) := by
  rw [List.getElem?_zipIdx, h]; simp
theorem nodup_len : ∀ {l m : List Int}, l.Nodup → (∀ z ∈ l, z ∈ m) → l.length ≤ m.length
  | [], _, _, _ => by simp
  | x :: l, m, h, hs => by
    have h1 := List.nodup_cons.1 h
    have hx : x ∈ m := hs x (by simp)
    have h2 := nodup_len (l := l) (m := m.erase x) h1.2 (fun z hz => (List.mem_erase_of_ne (fun e => h1.1 (by rw [← e]; exact hz))).2 (hs z (by simp [hz])))
    rw [List.length_erase_of_mem hx] at h2
    have h3 : 0 < m.length := List.length_pos_of_mem hx
    simp only [List.length_cons]
    omega
theorem range_len {l : List Int} {a b : Nat} (h : l.Nodup) (hr : ∀ z ∈ l, -(b : Int) ≤ z ∧ z < a) : l.length ≤ a + b := by
  have := nodup_len (m := (List.range (a + b)).map fun i : Nat => (i : Int) - b) h (fun z hz => by
    have := hr z hz
    rw [List.mem_map]
    exact ⟨(z + b).toNat, by rw [List.mem_range]; omega, by omega⟩)
  simpa using this
def lvsF (k : Kx) (B : List Int) : List (List Int) := (B.filter fun z => decide (z < 0)).map fun z => k.lv.getD (-1 - z).toNat []
theorem lvs_nn {k : Kx} {B : List Int} {z : Int} (h : 0 ≤ z) : lvsF k (B ++ [z]) = lvsF k B := by
  unfold lvsF
  rw [List.filter_append]
  simp [show ¬ z < 0 by omega]
theorem lvs_neg {k : Kx} {B : List Int} {z : Int} {l : List Int} (h : z < 0) (hl : k.lv[(-1 - z).toNat]? = some l) : lvsF k (B ++ [z]) = lvsF k B ++ [l] := by
  unfold lvsF
  rw [List.filter_append, List.map_append]
  have e : k.lv.getD (-1 - z).toNat [] = l := by rw [List.getD_eq_getElem?_getD, hl]; rfl
  simp [h]
  exact e
def begF (k : Kx) : Int := if k.nd.length = 0 then -1 else 0
def reachF (k : Kx) (seen : List Int) : List (List Int) := lvsF k (walkF k seen (k.nd.length + 1) [] (begF k))
def misF (k : Kx) (name : Int) (seen : List Int) : Bool := (reachF k seen).any fun l => !decide (name ∈ l)
/-- the least state with which the key still misleads -/
def fmI (k : Kx) (name : Int) (n : Nat) (may : Int) (c : Nat) : Nat → Nat → (Nat → Int) → (Nat → Int) → (Nat → Int) × (Nat → Int)
  | 0, _, f, g => (f, g)
  | d + 1, s, f, g => if meetF may (2 ^ s) ≠ 0 ∧ misF k name ((List.range n).map (updP f c (meetF may (2 ^ s)))) = true then (updP f c (meetF may (2 ^ s)), updP g c (s : Int)) else fmI k name n may c d (s + 1) (updP f c (meetF may (2 ^ s))) g
def fmS (k : Kx) (r : Rw) : Nat → (Nat → Int) × (Nat → Int)
  | 0 => (fun i => r.may.getD i 0, fun _ => 0)
  | c + 1 => fmI k r.nm r.may.length (r.may.getD c 0) c 16 0 (fmS k r c).1 (fmS k r c).2
def firstF (k : Kx) (r : Rw) : List Int := (List.range r.may.length).map (fmS k r r.may.length).2
end Go.Ky
namespace Go.Ky
open Go.Nm
def notF (x y : Int) : Int := bits BinOp.andNot IntKind.i64 x y
def usefulF (L : List Rw) (c : Nat) (x : Int) : Bool := decide (1 < L.length) && L.any fun r => decide (notF x (r.may.getD c 0) ≠ 0)
def charF (L : List Rw) (l : List Int) : Int × Bool × Int := bestS L l (fun c => usefulF L c (l.getD c 0)) l.length
mutual
def growF (m : Mx) : Nat → List Rw → List Int → Kx → Kx × Int × Int
  | 0, _, _, k => (k, 0, 2)
  | d + 1, L, l, k =>
    if (charF L l).2.1 = true then
      let st := (List.range (m.st.getD (charF L l).1.toNat 0).toNat).foldl (fun (st : Kx × List Int × Int) s =>
        if st.2.2 = 0 then (let g := growF m d (remL L (l.set (charF L l).1.toNat (2 ^ s))) (l.set (charF L l).1.toNat (2 ^ s)) st.1; if g.2.2 = 0 then (g.1, st.2.1 ++ [g.2.1], 0) else (g.1, st.2.1, g.2.2)) else st) (⟨k.nd ++ [⟨(charF L l).1, []⟩], k.lv⟩, [], 0)
      if st.2.2 = 0 then (⟨st.1.nd.set k.nd.length ⟨(charF L l).1, st.2.1⟩, st.1.lv⟩, (k.nd.length : Int), 0) else (st.1, 0, st.2.2)
    else if k.lv.length = 1000 then (k, 0, 2) else (⟨k.nd, k.lv ++ [L.map (·.nm)]⟩, -1 - (k.lv.length : Int), 0)
end
end Go.Ky
