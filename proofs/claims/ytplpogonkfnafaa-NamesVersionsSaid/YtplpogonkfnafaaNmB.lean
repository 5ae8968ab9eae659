/- Lists of numbers in memory; rows of the call's own; books of names. -/
import Derived.Test.YtplpogonkfnafaaProg
import Derived.WalkKit
import Derived.WalkSpells
import Derived.WalkLawsBesides
import Derived.Deep.QuietTactic
import Derived.BigQuiet
import Derived.IntWalk
import Derived.Outline
import Derived.Lib.Hide
import Derived.Laws.OwnMore
import Derived.WalkMore
import Derived.Deep.LoopGhost
import Derived.Laws.AppendOwn
import Derived.Maps.AppendAt
import Derived.OwnWalk
import Derived.Test.YtplpogonkfnafaaNmM
namespace Go.Proofs.Ytplpogonkfnafaa
open Go.RowKit Go.Nm

theorem ret_b {a b : Bool} (h : a = b) : Ending.returned (.bool a) = .returned (.bool b) := by rw [h]
theorem ret_i {k : IntKind} {a b : Int} (h : a = b) : Ending.returned (.int k a) = .returned (.int k b) := by rw [h]
theorem ite_neg_of {c : Prop} [Decidable c] {a b : Prop} (hn : ¬ c) (hb : b) : if c then a else b := by rw [if_neg hn]; exact hb
theorem below_new {w : World} (o : Obj) : Below w.heap.size w (w.alloc o) := (Below.refl _ _).alloc (Nat.le_refl _) _
theorem below_drewN {B : Nat} {a w : World} (h : Below B a w) (n : Nat) : Below B a (w.drewN n) := ⟨h.os, h.tape, h.output, h.size, h.block⟩
theorem add_block (a : Addr) (n : Nat) : (a.add n).block = a.block := by unfold Addr.add; split <;> rfl
theorem add_addN (a : Addr) (i j : Nat) : (a.add i).add j = a.add (i + j) := by
  unfold Addr.add
  by_cases hi : i = 0 <;> by_cases hj : j = 0 <;> simp [hi, hj, Nat.add_assoc]

structure Wb (w : World) where
  v : World
  h : Below w.heap.size w v
instance wbInhabited (w : World) : Inhabited (Wb w) := ⟨⟨w, Below.refl _ _⟩⟩
theorem wp_region_wb {P : Program} {id : Nat} {Q : Exit → Act → World → Prop} {a : Act} {w : World} {l : List Oper} (hm : P.follows .mixedOrders = true) (hB : Region.lexB .any l.toArray = true)
    (h : wpQuiet P l.toArray (fun w' => ∃ p : Wb w, w' = p.v) (fun a' => ∀ w', (∃ p : Wb w, w' = p.v) → Q .normal a' w') l a) : (Code.region id l.toArray true).wp P Q a w :=
  wp_region_quiet (C := fun w' => ∃ p : Wb w, w' = p.v) hm hB ⟨⟨w.drew, (Below.refl _ _).drew⟩, rfl⟩ (by simpa using h)
theorem Calls.wb {P : Program} {f : FuncId} {args : Array Value} {w : World} {p : Wb w} {v : Value}
    (h : Calls P f args p.v fun e w' => e = .returned v ∧ Below p.v.heap.size p.v w') : Calls P f args p.v fun e w'' => e = .returned v ∧ ∃ q : Wb w, w'' = q.v :=
  h.mono fun _ w' ⟨he, hb⟩ => ⟨he, ⟨w', p.h.trans (hb.mono p.h.size)⟩, rfl⟩
theorem Calls.wb0 {P : Program} {f : FuncId} {args : Array Value} {w : World} {p : Wb w} {v : Value}
    (h : Calls P f args p.v fun e w' => e = .returned v ∧ p.v = w') : Calls P f args p.v fun e w'' => e = .returned v ∧ ∃ q : Wb w, w'' = q.v :=
  h.mono fun _ _ ⟨he, hb⟩ => ⟨he, p, hb.symm⟩
theorem Wb.cell {w : World} {a : Addr} {u : Value} (h : w.cell? a = some u) (p : Wb w) : p.v.cell? a = some u := (p.h.cell (World.block_lt_of_cell? _ _ h)).trans h


def intsV (L : List Int) : List Value := L.map (.int .i64)
theorem intsV_len (L : List Int) : (intsV L).length = L.length := by simp [intsV]
theorem intsV_append (a b : List Int) : intsV (a ++ b) = intsV a ++ intsV b := by simp [intsV]
theorem intsV_one (L : List Int) : ∀ u ∈ intsV L, u.oneCell' = true := by
  intro u hu
  obtain ⟨x, _, rfl⟩ := List.mem_map.1 hu
  rfl
theorem infoInt : (Try.prog.info? 3).map (fun i => (i.zero, i.size, i.bytes)) = some (some (.int .i64 0), 1, 8) := by kernel_rfl
theorem infoI : ∃ i, Try.prog.info? 3 = some i ∧ i.zero = some (.int .i64 0) ∧ i.size = 1 ∧ i.bytes = 8 := by
  have h := infoInt
  cases h2 : Try.prog.info? 3 with
  | none => rw [h2] at h; cases h
  | some i =>
    rw [h2] at h
    simp only [Option.map_some, Option.some.injEq, Prod.mk.injEq] at h
    exact ⟨i, rfl, h.1, h.2.1, h.2.2⟩

theorem run_append_nil {P : Program} {w : World} (base : Nat) (t ty e : TypeId) (i : TypeInfo) (size c : Nat) (ht : P.underlying t = some (.slice e)) (hi : P.info? e = some i)
    (v : Value) (n : Nat) (xs : List Value) (hown : w.ownsRow base e size v n xs) :
    (Builtin.append_ #[t, t] ty #[v, .slice none 0 c]).run P w = .ok v w := by
  rcases hown.2 with ⟨rfl, rfl⟩ | ⟨g, cap, cur, rfl, _, _, hnc, _⟩
  · simp [Builtin.append_, run_underlying ht, Go.sizeOf, typeInfo, hi, Builtin.lenOf, Builtin.firstCells]
  · simp [Builtin.append_, run_underlying ht, Go.sizeOf, typeInfo, hi, Builtin.lenOf, Builtin.firstCells, hnc, storeCells]
theorem wpList_append_nil {P : Program} {w : World} {ops : Array Oper} {rest : List Oper} {o : Oper} {a : Act} {Q : Exit → Act → World → Prop} (hgd : o.guard = none) (s x : Operand) (t : TypeId)
    (ho : o.op = .call { callee := .builtin .append, args := #[s, x], argTypes := #[t, t] })
    (base : Nat) (e : TypeId) (i : TypeInfo) (size c : Nat) (ht : P.underlying t = some (.slice e)) (hi : P.info? e = some i)
    (v : Value) (n : Nat) (xs : List Value) (hs : a.eval s = v) (hown : w.ownsRow base e size v n xs) (hx : a.eval x = .slice none 0 c)
    (h : wpList P ops Q rest (a.put o.dst v) w) : wpList P ops Q (o :: rest) a w := by
  refine wpList_plain hgd fun K hK => ?_
  have hrun := run_append_nil (P := P) (w := w) base t o.type e i size c ht hi v n xs hown
  unfold Oper.wp
  simp [execOp, ho, resolve, invoke, builtin, hs, hx, hrun, Result.andThen]
  exact hK _ _ h

/-- from the address on lie the numbers L, in memory below block B -/
def InA (w : World) (B : Nat) (A : Option Addr) (L : List Int) : Prop :=
  ∀ (i : Nat) (x : Int), L[i]? = some x → ∃ ad, A = some ad ∧ ad.block < B ∧ w.cell? (ad.add i) = some (.int .i64 x)
/-- the slice value holds the numbers L -/
def InSl (w : World) (B : Nat) (v : Value) (L : List Int) : Prop := ∃ A c, v = .slice A L.length c ∧ L.length ≤ c ∧ c ≤ maxLen ∧ InA w B A L
section
variable {w w' : World} {B B' : Nat} {A : Option Addr} {L : List Int} {v : Value}
theorem InA.keep (h : InA w B A L) (hk : ∀ p : Addr, p.block < B → w'.cell? p = w.cell? p) : InA w' B A L := by
  intro i x hx
  obtain ⟨ad, ha, hb, h1⟩ := h i x hx
  exact ⟨ad, ha, hb, (hk _ (by rw [add_block]; exact hb)).trans h1⟩
theorem InA.below (h : InA w B A L) (hb : Below B w w') : InA w' B A L := h.keep fun _ hp => hb.cell hp
theorem InA.mono (h : InA w B A L) (hB : B ≤ B') : InA w B' A L := fun i x hx => by
  obtain ⟨ad, ha, hb, h1⟩ := h i x hx
  exact ⟨ad, ha, by omega, h1⟩
theorem InA.nil (w : World) (B : Nat) (A : Option Addr) : InA w B A [] := fun i x h => by simp at h
theorem InSl.below (h : InSl w B v L) (hb : Below B w w') : InSl w' B v L := by
  obtain ⟨A, c, e, h1, h2, h⟩ := h; exact ⟨A, c, e, h1, h2, h.below hb⟩
theorem InSl.mono (h : InSl w B v L) (hB : B ≤ B') : InSl w B' v L := by
  obtain ⟨A, c, e, h1, h2, h⟩ := h; exact ⟨A, c, e, h1, h2, h.mono hB⟩
theorem InSl.step (h : InSl w w.heap.size v L) (hb : Below w.heap.size w w') : InSl w' w'.heap.size v L := (h.below hb).mono hb.size
theorem InSl.form (h : InSl w B v L) : ∃ A c, v = .slice A L.length c ∧ L.length ≤ c ∧ c ≤ maxLen := by
  obtain ⟨A, c, e, h1, h2, _⟩ := h; exact ⟨A, c, e, h1, h2⟩
theorem InSl.nil (w : World) (B : Nat) : InSl w B (.slice none 0 0) [] := ⟨none, 0, rfl, Nat.le_refl _, by unfold maxLen; omega, InA.nil _ _ _⟩
/-- the element that a round reads -/
theorem InA.at_ (h : InA w B A L) {n i : Nat} (hn : L.length = n) (hi : i < n) : ∃ x ad, L[i]? = some x ∧ A = some ad ∧ ad.block < B ∧ w.cell? (ad.add i) = some (.int .i64 x) := by
  have hl : i < L.length := by omega
  obtain ⟨ad, h'⟩ := h i L[i] (List.getElem?_eq_getElem hl)
  exact ⟨L[i], ad, List.getElem?_eq_getElem hl, h'⟩
theorem InA.first {x : Int} (h : InA w B A (x :: L)) : ∃ ad, A = some ad ∧ ad.block < B ∧ w.cell? ad = some (.int .i64 x) := by
  obtain ⟨ad, ha, hb, h1⟩ := h 0 x rfl
  exact ⟨ad, ha, hb, by simpa [Addr.add] using h1⟩
theorem InA.drop {ad : Addr} (h : InA w B (some ad) L) (m : Nat) : InA w B (some (ad.add m)) (L.drop m) := fun i x hx => by
  rw [List.getElem?_drop] at hx
  obtain ⟨ad', e, hb, h1⟩ := h (m + i) x hx
  injection e with e
  subst e
  exact ⟨_, rfl, by rw [add_block]; exact hb, by rw [add_addN]; exact h1⟩
theorem InA.take (h : InA w B A L) (m : Nat) : InA w B A (L.take m) := fun i x hx => by
  refine h i x ?_
  rw [List.getElem?_take] at hx
  split at hx
  · exact hx
  · cases hx
theorem InA.cells {ad : Addr} (h : InA w B (some ad) L) : ∀ j u, (intsV L)[j]? = some u → w.cell? (ad.add j) = some u := fun j u hu => by
  unfold intsV at hu
  rw [List.getElem?_map] at hu
  cases hx : L[j]? with
  | none => rw [hx] at hu; cases hu
  | some x =>
    rw [hx] at hu
    simp only [Option.map_some, Option.some.injEq] at hu
    obtain ⟨ad', e, _, h1⟩ := h j x hx
    injection e with e
    subst e
    rw [← hu]; exact h1
theorem InA.none_nil (h : InA w B none L) : L = [] := by
  cases L with
  | nil => rfl
  | cons x L => obtain ⟨ad, e, _⟩ := h 0 x rfl; cases e
end
theorem grown_of_below {W W' : World} (h : Below W.heap.size W W') (row : Option Nat) : W.grownBy W' row := ⟨h.os, h.tape, h.output, h.size, fun i hi _ => h.block i hi⟩
theorem own_step {w w' : World} {base n z : Nat} {t : TypeId} {v : Value} {xs : List Value} (h : w.ownsRow base t z v n xs) (hb : Below w.heap.size w w') : w'.ownsRow base t z v n xs :=
  h.kept (grown_of_below hb none) (by rcases Classical.em (v.ownBlock = none) with h | h; exact .inl h; exact .inr h)
/-- a row of numbers of the call's own -/
structure OwN (W : World) (v : Value) (L : List Int) (X : World) : Prop where
  bel : Below W.heap.size W X
  own : X.ownsRow W.heap.size 3 1 v L.length (intsV L)
theorem OwN.start (W : World) : OwN W (.slice none 0 0) [] W := ⟨Below.refl _ _, World.ownsRow_nil _ _ _ _⟩
theorem OwN.step {W X Y : World} {v : Value} {L : List Int} (h : OwN W v L X) (hb : Below X.heap.size X Y) : OwN W v L Y := ⟨h.bel.trans (hb.mono h.bel.size), own_step h.own hb⟩
theorem OwN.grown {W X Y Z : World} {v v' : Value} {L M : List Int} (h : OwN W v L X) (hb : Below X.heap.size X Y) (hg : Y.grownBy Z v.ownBlock) (ho : Z.ownsRow W.heap.size 3 1 v' (L.length + M.length) (intsV L ++ intsV M)) : OwN W v' (L ++ M) Z :=
  ⟨(h.step hb).bel.grown hg (h.step hb).bel.size (fun r e => ((h.step hb).own.lt r e).1), by rw [List.length_append, intsV_append]; exact ho⟩
theorem OwN.bound {W X : World} {v : Value} {L : List Int} (h : OwN W v L X) : W.heap.size ≤ X.heap.size := h.bel.size
theorem OwN.sl {W X : World} {v : Value} {L : List Int} (h : OwN W v L X) : InSl X X.heap.size v L := by
  rcases h.own.2 with ⟨rfl, h0⟩ | ⟨g, cap, cur, rfl, hb, hg, h1, h2, h3, h4⟩
  · have := List.length_eq_zero_iff.1 h0
    subst this
    exact InSl.nil _ _
  · refine ⟨_, _, rfl, h1, h2, fun i x hx => ⟨_, rfl, (Array.getElem?_eq_some_iff.1 hg).1, ?_⟩⟩
    exact h.own.cells (g := g) rfl i _ (by rw [intsV, List.getElem?_map, hx]; rfl)
end Go.Proofs.Ytplpogonkfnafaa
