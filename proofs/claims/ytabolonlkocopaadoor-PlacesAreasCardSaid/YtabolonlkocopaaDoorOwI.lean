/- Rows of the call's own beside what lay before; calls by what they return. -/
import Derived.Test.YtabolonlkocopaaDoorArD
import Derived.Test.YtabolonlkocopaaDoorNrD
import Derived.Test.YtabolonlkocopaaDoorNum
namespace Go.Proofs.YtabolonlkocopaaDoor
open Go.RowKit Go.Plc

theorem OutSq.is {o : List Sq × Int} {r : List Sq} {er : Int} {w w' : World} {en : Ending} (h : o = (r, er)) (hO : OutSq o w en w') : (∃ x, en = .returned (.tuple #[x, .int .i64 er]) ∧ SqSl w' w'.heap.size x r) ∧ Below w.heap.size w w' := by
  subst h
  obtain ⟨⟨A, c, rfl, hA⟩, hb⟩ := hO
  exact ⟨⟨_, rfl, A, c, rfl, hA⟩, hb⟩
theorem Minus_is (u v : Value) (a b r : List Sq) (w : World) (hu : SqSl w w.heap.size u a) (hv : SqSl w w.heap.size v b) (hna : a.length ≤ 4096) (hnb : b.length ≤ 4096) (h : minusOut a b = (r, 0)) :
    Calls Tryd.prog 39 #[u, v] w fun e w' => (∃ x, e = .returned (.tuple #[x, .int .i64 0]) ∧ SqSl w' w'.heap.size x r) ∧ Below w.heap.size w w' :=
  (Minus_any u v a b w hu hv (by omega) (by omega)).mono fun _ _ hO => hO.is h
theorem NormalOut_is (u : Value) (a r : List Sq) (er : Int) (w : World) (hu : SqSl w w.heap.size u a) (hna : a.length ≤ 4096) (h : normalOut a = (r, er)) :
    Calls Tryd.prog 36 #[u] w fun e w' => (∃ x, e = .returned (.tuple #[x, .int .i64 er]) ∧ SqSl w' w'.heap.size x r) ∧ Below w.heap.size w w' :=
  (Normal_any u a w hu (by omega)).mono fun _ _ hO => hO.is h
theorem Area_is (v : Value) (a : List Sq) (n : Int) (w : World) (hv : SqSl w w.heap.size v a) (hn : a.length ≤ 4096) (h : areaOut a = (n, 0)) :
    Calls Tryd.prog 42 #[v] w fun e w' => e = .returned (.tuple #[.int .i64 n, .int .i64 0]) ∧ Below w.heap.size w w' := by
  have hU := Area_any v a w hv (by omega)
  rw [h] at hU
  exact hU
theorem Has_is (v : Value) (a : List Sq) (s : Sq) (b : Bool) (er : Int) (w : World) (hv : SqSl w w.heap.size v a) (hn : a.length ≤ 4096) (h : askOut a s (hasS a s) = (b, er)) :
    Calls Tryd.prog 38 #[v, .agg #[.int .i64 s.l, .int .i64 s.x, .int .i64 s.y]] w fun e w' => e = .returned (.tuple #[.bool b, .int .i64 er]) ∧ Below w.heap.size w w' := by
  have hU := Has_any v a s w hv (by omega)
  rw [h] at hU
  exact hU
theorem ValidRegion_is (v : Value) (a : List Sq) (b : Bool) (w : World) (hv : SqSl w w.heap.size v a) (hn : a.length ≤ 4096) (h : regB a = b) :
    Calls Tryd.prog 37 #[v] w fun e w' => e = .returned (.bool b) ∧ Below w.heap.size w w' := by
  have hU := ValidRegion_any v a w hv (by omega)
  rw [h] at hU
  exact hU
theorem SameSq_is (u v : Value) (a b : List Sq) (r : Bool) (w : World) (hu : SqSl w w.heap.size u a) (hv : SqSl w w.heap.size v b) (hna : a.length ≤ 4096) (h : decide (a = b) = r) :
    Calls Tryd.prog 24 #[u, v] w fun e w' => e = .returned (.bool r) ∧ Below w.heap.size w w' := by
  have hU := SameSquares_any u v a b w hu hv (by omega)
  rw [h] at hU
  exact hU
theorem nil_sq (w : World) (B : Nat) : SqSl w B (.slice none 0 0) [] := ⟨none, 0, rfl, fun i s h => by simp at h⟩
theorem own_step {w w' : World} {base n z : Nat} {t : TypeId} {v : Value} {xs : List Value} (h : w.ownsRow base t z v n xs) (hb : Below w.heap.size w w') : w'.ownsRow base t z v n xs :=
  h.kept (grown_of_below hb none) (by rcases Classical.em (v.ownBlock = none) with h | h; exact .inl h; exact .inr h)
/-- a row of the call's own, beside a world in which nothing is written -/
structure OwI (W : World) (t : TypeId) (z : Nat) (v : Value) (n : Nat) (xs : List Value) (X : World) : Prop where
  bel : Below W.heap.size W X
  own : X.ownsRow W.heap.size t z v n xs
theorem OwI.start (W : World) (t : TypeId) (z : Nat) : OwI W t z (.slice none 0 0) 0 [] W := ⟨Below.refl _ _, World.ownsRow_nil _ _ _ _⟩
theorem OwI.step {W X Y : World} {t : TypeId} {z n : Nat} {v : Value} {xs : List Value} (h : OwI W t z v n xs X) (hb : Below X.heap.size X Y) : OwI W t z v n xs Y := ⟨h.bel.trans (hb.mono h.bel.size), own_step h.own hb⟩
theorem OwI.grown {W X Y Z : World} {t : TypeId} {z n n' : Nat} {v v' : Value} {xs xs' : List Value} (h : OwI W t z v n xs X) (hb : Below X.heap.size X Y) (hg : Y.grownBy Z v.ownBlock) (ho : Z.ownsRow W.heap.size t z v' n' xs') : OwI W t z v' n' xs' Z :=
  ⟨(h.step hb).bel.grown hg (h.step hb).bel.size (fun r e => ((h.step hb).own.lt r e).1), ho⟩
theorem OwI.bound {W X : World} {t : TypeId} {z n : Nat} {v : Value} {xs : List Value} (h : OwI W t z v n xs X) : W.heap.size ≤ X.heap.size := h.bel.size
theorem sl_at {w : World} {A : Option Addr} {n c i : Nat} {L : List Sq} (h : SqSl w w.heap.size (.slice A n c) L) (hi : i < n) : ∃ s ad, L[i]? = some s ∧ s ∈ L ∧ A = some ad ∧ ad.block < w.heap.size ∧
    w.cell? (ad.add (i * 3)) = some (.int .i64 s.l) ∧ w.cell? ⟨(ad.add (i * 3)).block, (ad.add (i * 3)).off + 1, none⟩ = some (.int .i64 s.x) ∧ w.cell? ⟨(ad.add (i * 3)).block, (ad.add (i * 3)).off + 2, none⟩ = some (.int .i64 s.y) := by
  obtain ⟨A', c', e, hS⟩ := h
  injection e with e1 e2 e3
  subst e1
  exact hS.at_ rfl (by omega)
theorem sl_len {w : World} {B : Nat} {A : Option Addr} {n c : Nat} {L : List Sq} (h : SqSl w B (.slice A n c) L) : L.length = n := by
  obtain ⟨A', c', e, _⟩ := h
  injection e with _ e2 _
  exact e2.symm
end Go.Proofs.YtabolonlkocopaaDoor
