
/- Iterators of fates. -/
import Derived.RangeFuncNested
import Derived.RangeFuncBound
import Derived.RangeFuncCalls
import Derived.RangeFuncLeaves
import Derived.WalkKit
import Derived.OwnWalkIn
import Derived.TacticsInMore
import Derived.LoopNIn
import Derived.LoopIn
import Derived.Test.YtplpogonkfnafaaGreatNmBe
import Derived.RangeFuncBox
import Derived.Maps.AppendAt
import Derived.Maps.OwnIn
import Derived.Shelf.Abstract
namespace Go.Proofs.YtplpogonkfnafaaGreat
open Go.RowKit

/-- all that lay from B on lies as it lay, but for the block ow -/
structure KA (B : Nat) (ow : Option Nat) (W W' : World) : Prop where
  size : W.heap.size ≤ W'.heap.size
  same : ∀ k o, B ≤ k → W.heap[k]? = some o → some k ≠ ow → W'.heap[k]? = some o
theorem KA.refl (B : Nat) (ow : Option Nat) (W : World) : KA B ow W W := ⟨Nat.le_refl _, fun _ _ _ h _ => h⟩
theorem KA.trans {B : Nat} {ow : Option Nat} {X Y Z : World} (h : KA B ow X Y) (k : KA B ow Y Z) : KA B ow X Z :=
  ⟨Nat.le_trans h.size k.size, fun i o hB hi hne => k.same i o hB (h.same i o hB hi hne) hne⟩
theorem KA.alloc (B : Nat) (ow : Option Nat) (W : World) (o : Obj) : KA B ow W (W.alloc o) :=
  ⟨by simp, fun k _ _ hk _ => (Below.heap_alloc W o k (Array.getElem?_eq_some_iff.1 hk).1).trans hk⟩
theorem KA.of_below {B : Nat} {ow : Option Nat} {W W' : World} (h : Below W.heap.size W W') : KA B ow W W' :=
  ⟨h.size, fun k _ _ hk _ => (h.block k (Array.getElem?_eq_some_iff.1 hk).1).trans hk⟩
theorem KA.set {B : Nat} {ow : Option Nat} (W : World) (b : Nat) (v : Value) (h : b < B) : KA B ow W (W.setCell ⟨b, 0, none⟩ v) :=
  ⟨by simp, fun k _ _ hko _ => (Below.heap_setCell _ _ _ k (by show k ≠ b; omega)).trans hko⟩
theorem KA.grown {B : Nat} {ow : Option Nat} {W W' : World} (h : W.grownBy W' ow) : KA B ow W W' := ⟨h.size, fun k _ _ hk hne => (h.block k (Array.getElem?_eq_some_iff.1 hk).1 hne).trans hk⟩
def Grows (ow ow' : Option Nat) (W : World) : Prop := ow' = ow ∨ ∃ k, ow' = some k ∧ W.heap.size ≤ k
theorem Grows.refl (ow : Option Nat) (W : World) : Grows ow ow W := .inl rfl
theorem Grows.trans {a b c : Option Nat} {W W' : World} (h : Grows a b W) (k : Grows b c W') (hs : W.heap.size ≤ W'.heap.size) : Grows a c W := by
  rcases k with rfl | ⟨k, rfl, hk⟩
  · exact h
  · exact .inr ⟨k, rfl, by omega⟩

/-- what an iterator is good for that writes a block g of its own laying -/
def IterP {α : Type} (B : Nat) (P : Program) (n : Nat) (gf : Nat) (lb : Array Value) (encs : α → Array Value) (I : Nat → List α → Option Nat → World → Prop) (Px : Nat → List α → α → Option Nat → World → Prop) (S : List α → Prop) : Prop :=
  ∀ (l : Nat) (J : Nat → List α → Option Nat → World → Prop) (ow : Option Nat) (W : World), B ≤ W.heap.size →
    (∀ g pre ow X X', W.heap.size ≤ g → J g pre ow X → X.grownBy X' (some g) → J g pre ow X') → (∀ g pre ow X, W.heap.size ≤ g → J g pre ow X → I g pre ow X) →
    (∀ g pre x ow X, W.heap.size ≤ g → J g pre ow X → Px g pre x ow X → YieldAt Fence.wide (n - 1) P l (encs x) X fun e X' =>
      e = .returned (.bool true) ∧ ∃ ow', J g (pre ++ [x]) ow' X' ∧ Grows ow ow' X ∧ KA B ow X X') →
    (∀ g, W.heap.size ≤ g → J g [] ow W) →
    CallsIn Fence.wide n P gf (#[.func (.yield l) #[] #[]] ++ lb) W fun e W' => (∃ v, e = .returned v) ∧ ∃ g xs ow', W.heap.size ≤ g ∧ S xs ∧ J g xs ow' W'

/-- how the body of a round may be left -/
def postP {α : Type} (B : Nat) (I : Nat → List α → Option Nat → World → Prop) (g : Nat) (xs : List α) (ow : Option Nat) (W : World) : Exit → Act → World → Prop
  | .normal, _, W' => KA B ow W W' ∧ ∃ ow', I g xs ow' W' ∧ Grows ow ow' W
  | _, _, _ => False

theorem wp_rangeP {α : Type} {P : Program} {n : Nat} {g : Operand} {ps : Array Tmp} {assign body : Code} {Q : Exit → Act → World → Prop} {a : Act} {w : World} (h1 : 1 ≤ n)
    {gf : Nat} {lb : Array Value} (hg : a.eval g = .func (.func gf) #[] lb) (eg : ∀ args w, (callFunc gf args).run P w = .ok (.enter gf args) w)
    {encs : α → Array Value} (hps : ∀ x, (encs x).size = ps.size) (I : Nat → List α → Option Nat → World → Prop)
    (hI : ∀ g pre ow X X' row, w.heap.size ≤ g → I g pre ow X → X.grownBy X' row → (∀ r, row = some r → w.heap.size ≤ r ∧ (r = g ∨ ∃ o : Obj, X.heap[r]? = some o ∧ o.isCells = false)) → I g pre ow X')
    (hIow : ∀ g pre ow W, w.heap.size ≤ g → I g pre ow W → ∀ k, ow = some k → ∃ cs t fr, W.heap[k]? = some (.cells cs t fr)) (ow0 : Option Nat) (h0 : ∀ g, w.heap.size ≤ g → I g [] ow0 w)
    {Px : Nat → List α → α → Option Nat → World → Prop} (hPx : ∀ g pre x ow X X' row, Px g pre x ow X → X.grownBy X' row → (∀ r, row = some r → ∃ o : Obj, X.heap[r]? = some o ∧ o.isCells = false) → Px g pre x ow X')
    {S : List α → Prop} (hseq : IterP w.heap.size P (n - 1) gf lb encs I Px S)
    (Ax : α → Act → World → Prop) (hAx : ∀ x a', OwnFrom w.heap.size (fun (_ : Unit) W => Ax x a' W))
    (hassign : ∀ (l : Nat) (g : Nat) (pre : List α) (x : α) (ow : Option Nat) (W : World) (K : Act → World → Prop), w.heap.size ≤ g → I g pre ow W → (∀ a' W', (W' = W ∨ ∃ o, W' = W.alloc o) → Ax x a' W' → K a' W') →
      assign.wpIn (Fence.wide.inRound l) (n - 1 - 1) P (Exit.then K (fun _ _ _ => False)) { tmps := (ps.zip (encs x)).foldl (fun t (p, v) => t.setIfInBounds p v) a.tmps, defers := [] } W)
    (hbody : ∀ (l : Nat) (g : Nat) (pre : List α) (x : α) (ow : Option Nat) (a' : Act) (W : World), w.heap.size ≤ l → (∃ r, W.heap[l]? = some (.loop r)) → w.heap.size ≤ g → I g pre ow W → Ax x a' W → Px g pre x ow W →
      body.wpIn (Fence.wide.inRound l) (n - 1 - 1) P (postP w.heap.size I g (pre ++ [x]) ow W) a' W)
    (hdone : ∀ (D : Nat) (g : Nat) (xs : List α) (ow : Option Nat) (W : World), w.heap.size ≤ D → w.heap.size ≤ g → S xs → I g xs ow W → W.heap[D]? = some (.deferred (some [])) → Q .normal { a with defers := { target := .collected D, args := #[] } :: a.defers } W) :
    (Code.rangeFunc g ps assign body).wpIn Fence.wide n P Q a w := by
  refine wpIn_rangeFunc fun fn hfn => ?_
  rw [show Fence.wide.round = none from rfl]
  obtain ⟨rc, hrc⟩ : ∃ rc : LoopState → Option Code → Loop, rc = fun st pe => { state := st, pending := pe, fn, tmps := a.tmps, params := ps, assign, body, defers := w.heap.size } := ⟨_, rfl⟩
  obtain ⟨V, hV⟩ : ∃ V, V = (w.alloc (.deferred (some []))).alloc (.loop (rc .ready none)) := ⟨_, rfl⟩
  have vL : V.heap[w.heap.size + 1]? = some (.loop (rc .ready none)) := by
    rw [hV]; have := World.alloc_heap_new (w.alloc (.deferred (some []))) (.loop (rc .ready none)); rwa [World.size_alloc] at this
  have vD : V.heap[w.heap.size]? = some (.deferred (some [])) := by rw [hV]; exact (Below.heap_alloc _ _ _ (by simp)).trans (World.alloc_heap_new w _)
  have iA : ∀ {g pre ow X} (o : Obj), w.heap.size ≤ g → I g pre ow X → I g pre ow (X.alloc o) := fun o hgb h => hI _ _ _ _ _ none hgb h (World.grownBy_alloc _ o none) (fun r e => by cases e)
  have iP : ∀ {g pre ow X} {l : Nat} {o : Obj} (o' : Obj), w.heap.size ≤ g → I g pre ow X → w.heap.size ≤ l → X.heap[l]? = some o → o.isCells = false → I g pre ow (X.putObj l o') :=
    fun o' hgb h hl ho hc => hI _ _ _ _ _ (some _) hgb h (grownBy_putObj' _ _ o') (fun r e => by cases e; exact ⟨hl, .inr ⟨_, ho, hc⟩⟩)
  have vI : ∀ g, w.heap.size ≤ g → I g [] ow0 V := fun g hgb => by rw [hV]; exact iA _ hgb (iA _ hgb (h0 g hgb))
  have vS : V.heap.size = w.heap.size + 2 := by rw [hV]; simp
  have notcell : ∀ {g pre ow X k o}, w.heap.size ≤ g → I g pre ow X → X.heap[k]? = some o → (∀ cs t fr, o ≠ .cells cs t fr) → some k ≠ ow := fun hgb hi hk hno e => by
    obtain ⟨cs, t, fr, h⟩ := hIow _ _ _ _ hgb hi _ e.symm
    rw [hk] at h; cases h; exact hno _ _ _ rfl
  refine ⟨w.heap.size + 1, [{ target := .collected w.heap.size, args := #[] }], V, { target := .fn (.func gf) lb, args := #[.func (.yield (w.heap.size + 1)) #[] #[]] }, V, gf, #[.func (.yield (w.heap.size + 1)) #[] #[]] ++ lb, V,
    by rw [hV, hrc]; exact run_enterLoop_outer _ _ _ _ _, by simp only [resolve, hg]; simp [go_sem], fun _ _ => trivial, by simp [invoke, go_sem, eg], fun _ => h1, ?_⟩
  refine (hseq (w.heap.size + 1)
    (fun g pre ow X => I g pre ow X ∧ X.heap[w.heap.size + 1]? = some (.loop (rc .ready none)) ∧ X.heap[w.heap.size]? = some (.deferred (some [])))
    ow0 V (by omega)
    (fun g pre ow A B hgb hs hgr => ⟨hI _ _ _ _ _ _ (by omega) hs.1 hgr (fun r e => by cases e; exact ⟨by omega, .inl rfl⟩), (hgr.block _ (Array.getElem?_eq_some_iff.1 hs.2.1).1 (fun e => by cases e; omega)).trans hs.2.1, (hgr.block _ (Array.getElem?_eq_some_iff.1 hs.2.2).1 (fun e => by cases e; omega)).trans hs.2.2⟩)
    (fun g pre ow X _ h => h.1) ?_ (fun g hgb => ⟨vI g (by omega), vL, vD⟩)).mono ?_
  · -- a round
    rintro g pre x ow X hgb ⟨hi, hl, hk⟩ hpx
    have hgw : w.heap.size ≤ g := by omega
    have hy := run_yield (P := P) (args := encs x) hl (by rw [hrc]; exact hps x)
    rw [hrc] at hy
    refine ⟨fn, _, assign, body, hy, roundIn_of_wpIn hfn (hassign _ g pre x ow X _ hgw hi ?_)⟩
    intro a' Y hY hax
    have kY : KA w.heap.size ow X Y := by
      rcases hY with rfl | ⟨o, rfl⟩
      · exact KA.refl _ _ _
      · exact KA.alloc _ _ _ _
    have iY : I g pre ow Y := by
      rcases hY with rfl | ⟨o, rfl⟩
      · exact hi
      · exact iA _ hgw hi
    have pY : Px g pre x ow Y := by
      rcases hY with rfl | ⟨o, rfl⟩
      · exact hpx
      · exact hPx _ _ _ _ _ _ none hpx (World.grownBy_alloc _ o none) (fun r e => by cases e)
    have nl : some (w.heap.size + 1) ≠ ow := notcell hgw hi hl (fun _ _ _ e => by cases e)
    have nd : some w.heap.size ≠ ow := notcell hgw hi hk (fun _ _ _ e => by cases e)
    have lY := kY.same _ _ (by omega) hl nl
    have dY := kY.same _ _ (Nat.le_refl _) hk nd
    have ltY : w.heap.size + 1 < Y.heap.size := (Array.getElem?_eq_some_iff.1 lY).1
    obtain ⟨Z, hZ⟩ : ∃ Z, Z = Y.putObj (w.heap.size + 1) (.loop { rc .ready none with state := .busy }) := ⟨_, rfl⟩
    have lZ : Z.heap[w.heap.size + 1]? = some (.loop { rc .ready none with state := .busy }) := by rw [hZ]; exact World.putObj_heap_same ltY
    have dZ : Z.heap[w.heap.size]? = some (.deferred (some [])) := by rw [hZ]; exact (World.putObj_heap_other (by omega)).trans dY
    have sZ : Z.heap.size = Y.heap.size := by rw [hZ]; simp
    have oZ : ∀ k, k ≠ w.heap.size + 1 → Z.heap[k]? = Y.heap[k]? := fun k hne => by rw [hZ]; exact World.putObj_heap_other hne
    have iZ : I g pre ow Z := by rw [hZ]; exact iP _ hgw iY (by omega) lY rfl
    have pZ : Px g pre x ow Z := by rw [hZ]; exact hPx _ _ _ _ _ _ (some _) pY (grownBy_putObj' _ _ _) (fun r e => by cases e; exact ⟨_, lY, rfl⟩)
    have aZ : Ax x a' Z := by rw [hZ]; exact (hAx x a').putObj (s := ()) _ hax (by omega) lY rfl
    refine ⟨Z, by rw [hZ]; exact run_beginRound lY (by rw [hrc]), ?_⟩
    refine wpIn_mono (hbody _ g pre x ow a' Z (by omega) ⟨_, lZ⟩ hgw iZ aZ pZ) ?_
    rintro e a3 T hp
    cases e with
    | normal =>
      obtain ⟨hT, ow', hi3, hgr⟩ := hp
      have lT := hT.same _ _ (by omega) lZ nl
      have hr := run_endRound (P := P) none lT
      rw [hrc] at hr
      refine ⟨_, _, hr, rfl, ow', ⟨iP _ hgw hi3 (by omega) lT rfl, ?_, ?_⟩, ?_, ?_⟩
      · rw [hrc]; exact World.putObj_heap_same (Array.getElem?_eq_some_iff.1 lT).1
      · exact (World.putObj_heap_other (by omega)).trans (hT.same _ _ (Nat.le_refl _) dZ nd)
      · rcases hgr with h | ⟨k, h, hk'⟩
        · exact .inl h
        · exact .inr ⟨k, h, by have := kY.size; omega⟩
      · refine ⟨by have := kY.size; have := hT.size; simp; omega, fun k o hB hko hne => ?_⟩
        by_cases ek : k = w.heap.size + 1
        · subst ek
          rw [hl] at hko; cases hko
          rw [hrc]; exact World.putObj_heap_same (Array.getElem?_eq_some_iff.1 lT).1
        · rw [World.putObj_heap_other ek]
          exact hT.same k o hB ((oZ k ek).trans (kY.same k o hB hko hne)) hne
    | _ => exact hp.elim
  · rintro e T ⟨⟨v, rfl⟩, g, xs, ow', hgb, hS, hi, hl, hk⟩
    exact ⟨none, _, by have := run_endLoop (P := P) hl (by rw [hrc]; simp); rw [hrc] at this; exact this, hdone _ g xs ow' _ (Nat.le_refl _) (by omega) hS (iP _ (by omega) hi (by omega) hl rfl) ((World.putObj_heap_other (by omega)).trans hk)⟩

/-- how many calls are left says nothing under the wide fence -/
theorem yieldAt_wide {m k : Nat} {P : Program} {l : Nat} {args : Array Value} {W : World} {R : Ending → World → Prop} (h : YieldAt Fence.wide m P l args W R) : YieldAt Fence.wide k P l args W R := by
  obtain ⟨fn, tmps, assign, body, hy, h1, h2⟩ := h
  exact ⟨fn, tmps, assign, body, hy, h1, fun c cs _ => h2 c cs (room_wide _)⟩
end Go.Proofs.YtplpogonkfnafaaGreat
namespace Go.Proofs.YtplpogonkfnafaaGreat
open Go.RowKit Go.Nm

/-- the fates that begin with some names, d names before the end -/
def fatesF (b : Bk) : Nat → List Int → List (List Int)
  | 0, g => [g]
  | d + 1, g => (furF b g).flatMap fun x => fatesF b d (g ++ [x])
/-- the value is a slice of these numbers, in none of two blocks -/
def InN (B g : Nat) (ow : Option Nat) (X : World) (u : Value) (L : List Int) : Prop :=
  ∃ A c, u = .slice A L.length c ∧ L.length ≤ c ∧ c ≤ maxLen ∧ ∀ (i : Nat) (x : Int), L[i]? = some x → ∃ ad, A = some ad ∧ ad.block < X.heap.size ∧ B ≤ ad.block ∧ ad.block ≠ g ∧ some ad.block ≠ ow ∧ X.cell? (ad.add i) = some (.int .i64 x)
theorem InN.sl {B g : Nat} {ow : Option Nat} {X : World} {u : Value} {L : List Int} (h : InN B g ow X u L) : InSl X X.heap.size u L := by
  obtain ⟨A, c, e, h1, h2, h3⟩ := h
  exact ⟨A, c, e, h1, h2, fun i x hx => by
    obtain ⟨ad, ha, hb, _, _, _, hc⟩ := h3 i x hx
    exact ⟨ad, ha, hb, hc⟩⟩
theorem InN.form {B g : Nat} {ow : Option Nat} {X : World} {u : Value} {L : List Int} (h : InN B g ow X u L) : ∃ A c, u = .slice A L.length c ∧ L.length ≤ c ∧ c ≤ maxLen := by
  obtain ⟨A, c, e, h1, h2, _⟩ := h; exact ⟨A, c, e, h1, h2⟩
theorem InN.grown {B g : Nat} {ow row : Option Nat} {X Y : World} {u : Value} {L : List Int} (h : InN B g ow X u L) (hg : X.grownBy Y row) (hr : ∀ r, row = some r → r = g ∨ some r = ow ∨ r < B ∨ ∃ o : Obj, X.heap[r]? = some o ∧ o.isCells = false) : InN B g ow Y u L := by
  obtain ⟨A, c, e, h1, h2, h3⟩ := h
  refine ⟨A, c, e, h1, h2, fun i x hx => ?_⟩
  obtain ⟨ad, ha, hb, hB, hn, ho, hc⟩ := h3 i x hx
  refine ⟨ad, ha, Nat.lt_of_lt_of_le hb hg.size, hB, hn, ho, ?_⟩
  refine (World.cell?_of_block (w := X) (by
    rw [add_block]
    refine hg.block _ hb fun e => ?_
    rcases hr _ e.symm with h | h | h | ⟨o, h, hc'⟩
    · exact hn h
    · exact ho h
    · omega
    · have hc2 := hc
      unfold World.cell? at hc2
      rw [add_block, h] at hc2
      cases o <;> simp_all [Obj.isCells])).trans hc
theorem InN.row {B g : Nat} {ow ow' : Option Nat} {X : World} {u : Value} {L : List Int} (h : InN B g ow X u L) (hg : Grows ow ow' X) : InN B g ow' X u L := by
  obtain ⟨A, c, e, h1, h2, h3⟩ := h
  refine ⟨A, c, e, h1, h2, fun i x hx => ?_⟩
  obtain ⟨ad, ha, hb, hB, hn, ho, hc⟩ := h3 i x hx
  refine ⟨ad, ha, hb, hB, hn, fun e => ?_, hc⟩
  rcases hg with h | ⟨k, h, hk⟩
  · rw [h] at e; exact ho e
  · rw [h] at e; cases e; omega
/-- what the yield of a fate may count on -/
def PxF (B N M : Nat) (g : Nat) (pre : List (List Int × Value)) (x : List Int × Value) (ow : Option Nat) (X : World) : Prop := x.1.length = N ∧ pre.length < M ∧ g < X.heap.size ∧ InN B g ow X x.2 x.1
/-- all that lay from B on lies as it lay, but for the blocks ow and g -/
structure KB (B : Nat) (ow : Option Nat) (g : Nat) (W W' : World) : Prop where
  size : W.heap.size ≤ W'.heap.size
  same : ∀ k o, B ≤ k → W.heap[k]? = some o → some k ≠ ow → k ≠ g → W'.heap[k]? = some o
theorem KB.refl (B : Nat) (ow : Option Nat) (g : Nat) (W : World) : KB B ow g W W := ⟨Nat.le_refl _, fun _ _ _ h _ _ => h⟩
theorem KA.kb {B : Nat} {ow : Option Nat} {W W' : World} (h : KA B ow W W') (g : Nat) : KB B ow g W W' := ⟨h.size, fun k o hB hk hne _ => h.same k o hB hk hne⟩
theorem KB.of_grown {B : Nat} {ow : Option Nat} {g : Nat} {W W' : World} (h : W.grownBy W' (some g)) : KB B ow g W W' :=
  ⟨h.size, fun k o _ hk _ hg => (h.block k (Array.getElem?_eq_some_iff.1 hk).1 (fun e => by cases e; exact hg rfl)).trans hk⟩
theorem KB.trans {B : Nat} {ow ow' : Option Nat} {g : Nat} {X Y Z : World} (h : KB B ow g X Y) (hg : Grows ow ow' X) (k : KB B ow' g Y Z) : KB B ow g X Z :=
  ⟨Nat.le_trans h.size k.size, fun i o hB hi hne hn => k.same i o hB (h.same i o hB hi hne hn) (fun e => by
    rcases hg with h' | ⟨j, h', hj⟩
    · rw [h'] at e; exact hne e
    · rw [h'] at e; cases e; have := (Array.getElem?_eq_some_iff.1 hi).1; omega) hn⟩
theorem KB.cell {B : Nat} {ow : Option Nat} {g : Nat} {W W' : World} (h : KB B ow g W W') {a : Addr} {v : Value} (hc : W.cell? a = some v) (hB : B ≤ a.block) (ho : some a.block ≠ ow) (hg : a.block ≠ g) : W'.cell? a = some v := by
  have hlt := World.block_lt_of_cell? _ _ hc
  exact (World.cell?_of_block (w := W) (by rw [h.same a.block _ hB (Array.getElem?_eq_getElem hlt) ho hg]; exact (Array.getElem?_eq_getElem hlt).symm)).trans hc
/-- what extend asks of the one who is given the fates -/
structure ExC (P : Program) (V0 : World) (B g l N M : Nat) (J : List (List Int × Value) → Option Nat → World → Prop) : Prop where
  keep : ∀ pre ow X X', J pre ow X → X.grownBy X' (some g) → J pre ow X'
  bel : ∀ pre ow X, J pre ow X → Below V0.heap.size V0 X
  low : ∀ pre ow X, J pre ow X → ∀ k, ow = some k → k < X.heap.size ∧ k ≠ g
  yld : ∀ pre x ow X, J pre ow X → PxF B N M g pre x ow X → YieldAt Fence.wide 4 P l #[x.2] X fun e X' => e = .returned (.bool true) ∧ ∃ ow', J (pre ++ [x]) ow' X' ∧ Grows ow ow' X ∧ KA B ow X X'
theorem ExC.below {P : Program} {V0 : World} {B g l N M : Nat} {J : List (List Int × Value) → Option Nat → World → Prop} (h : ExC P V0 B g l N M J) {pre : List (List Int × Value)} {ow : Option Nat} {X X' : World} (hj : J pre ow X) (hb : Below X.heap.size X X') : J pre ow X' :=
  h.keep _ _ _ _ hj (grown_of_below hb _)
/-- what extend has done: all fates have been yielded, and there may be a further one -/
def OutE (b : Bk) (B g N d : Nat) (g0 : List Int) (J : List (List Int × Value) → Option Nat → World → Prop) (pre : List (List Int × Value)) (ow : Option Nat) (X : World) (e : Ending) (X' : World) : Prop :=
  e = .returned (.bool true) ∧ ∃ us ow', us.map (·.1) = fatesF b d g0 ∧ J (pre ++ us) ow' X' ∧ Grows ow ow' X ∧ KB B ow g X X' ∧ X'.ownsRow B 3 1 (.slice (some ⟨g, 0, none⟩) g0.length N) g0.length (intsV g0)
theorem OutE.mk {b : Bk} {B g N d : Nat} {g0 : List Int} {J : List (List Int × Value) → Option Nat → World → Prop} {pre us : List (List Int × Value)} {ow ow' : Option Nat} {X X' : World}
    (h1 : us.map (·.1) = fatesF b d g0) (h2 : J (pre ++ us) ow' X') (h3 : Grows ow ow' X) (h4 : KB B ow g X X') (h5 : X'.ownsRow B 3 1 (.slice (some ⟨g, 0, none⟩) g0.length N) g0.length (intsV g0)) :
    OutE b B g N d g0 J pre ow X (.returned (.bool true)) X' := ⟨rfl, us, ow', h1, h2, h3, h4, h5⟩
theorem own_kept {X Y : World} {B g n N z : Nat} {t : TypeId} {xs : List Value} {row : Option Nat} (h : X.ownsRow B t z (.slice (some ⟨g, 0, none⟩) n N) n xs) (hg : X.grownBy Y row) (hne : some g ≠ row) : Y.ownsRow B t z (.slice (some ⟨g, 0, none⟩) n N) n xs :=
  h.kept hg (.inr hne)
theorem own_same {X Y : World} {B g n N z : Nat} {t : TypeId} {xs : List Value} (h : X.ownsRow B t z (.slice (some ⟨g, 0, none⟩) n N) n xs) (hk : ∀ o, X.heap[g]? = some o → Y.heap[g]? = some o) : Y.ownsRow B t z (.slice (some ⟨g, 0, none⟩) n N) n xs := by
  refine ⟨h.1, ?_⟩
  rcases h.2 with ⟨e, _⟩ | ⟨g', cap, cur, e, hb, hg, rest⟩
  · cases e
  · injection e with e1 e2 e3
    injection e1 with e1
    injection e1 with e1
    subst e1; subst e3
    exact .inr ⟨g, N, cur, rfl, hb, hk _ hg, rest⟩
theorem own_inA {X : World} {B g n N : Nat} {L : List Int} (h : X.ownsRow B 3 1 (.slice (some ⟨g, 0, none⟩) n N) n (intsV L)) : InA X X.heap.size (some ⟨g, 0, none⟩) L := by
  intro i x hx
  have hlt := (h.lt g rfl).2
  exact ⟨_, rfl, hlt, h.cells (g := g) rfl i _ (by rw [intsV, List.getElem?_map, hx]; rfl)⟩
set_option maxRecDepth 100000 in
set_option maxHeartbeats 8000000 in
theorem extend_end (V0 X : World) (v vc : Value) (b : Bk) (B g l N M n : Nat) (g0 : List Int) (J : List (List Int × Value) → Option Nat → World → Prop) (pre : List (List Int × Value)) (ow : Option Nat) (hv : HsV V0 v b vc)
    (C : ExC Tryz.prog V0 B g l N M J) (hj : J pre ow X) (ho : X.ownsRow B 3 1 (.slice (some ⟨g, 0, none⟩) g0.length N) g0.length (intsV g0)) (hN : (vers b).length = N) (hl : g0.length = N) (hM : pre.length < M) (hs : N ≤ 1000) :
    CallsIn Fence.wide n Tryz.prog 68 #[v, .slice (some ⟨g, 0, none⟩) g0.length N, .func (.yield l) #[] #[]] X (OutE b B g N 0 g0 J pre ow X) := by
  obtain ⟨vs, rfl, h1, h2⟩ := hv
  have e1 := h1.form
  rw [hN] at e1
  obtain ⟨Av, cv, rfl⟩ := e1
  obtain ⟨A2, c2, rfl⟩ := h2.form
  have hb0 := below_new (w := X) (.cells #[.slice Av N cv, .slice A2 b.chs.length c2] 55)
  have HN0 := Lib.hid (World.alloc_heap_new X (.cells #[.slice Av N cv, .slice A2 b.chs.length c2] 55))
  have HB0 := Lib.hid hb0
  have HJ0 := Lib.hid (C.below hj hb0)
  have HO0 := Lib.hid (own_step ho hb0)
  have HL := Lib.hid (And.intro (And.intro hl hM) (ho.lt g rfl))
  have HW := Lib.hid (C.low _ _ _ hj)
  have HC := Lib.hid C
  have HI := Lib.hid (show InSl (X.alloc (.cells #[.slice Av N cv, .slice A2 b.chs.length c2] 55)) (X.alloc (.cells #[.slice Av N cv, .slice A2 b.chs.length c2] 55)).heap.size (.slice (some ⟨g, 0, none⟩) N N) g0 from
    ⟨_, _, by rw [hl], by omega, by unfold maxLen; omega, own_inA HO0.out⟩)
  have hsz := HB0.out.size
  clear h1 h2 hb0 hj ho C
  obtain ⟨X1, hX1⟩ : ∃ X1, X.alloc (.cells #[.slice Av N cv, .slice A2 b.chs.length c2] 55) = X1 := ⟨_, rfl⟩
  rw [hX1] at HN0 HB0 HJ0 HO0 HI hsz
  obtain ⟨k0, k1⟩ := cells_two HN0.out
  have HCl := Lib.hid (callsIn_wide.2 (clone_any _ g0 X1 HI.out (by omega)) : CallsIn Fence.wide (n - 1) Tryz.prog 73 #[.slice (some ⟨g, 0, none⟩) N N] X1 _)
  rw [hl]
  refine callsIn_of_wp Tryz.func68 rfl trivial ?_ rfl
  simp only [Tryz.ntmps68, List.size_toArray, List.length_cons, List.length_nil, Nat.reduceAdd, Nat.reduceSub, Array.replicate_succ, Array.replicate_zero, List.push_toArray, List.append_toArray, List.nil_append, List.cons_append]
  gi_wp2_with fail
  refine ⟨trivial, (fun h => nomatch h), ?_⟩
  (with_reducible refine HCl.out.mono ?_)
  rintro e X2 ⟨r, rfl, hO⟩
  have HR := Lib.hid hO
  obtain ⟨A3, c3, rfl, _⟩ := hO.sl.form
  have HJ2 := Lib.hid (HC.out.below HJ0.out hO.bel)
  have HP := Lib.hid (show PxF B N M g pre (g0, .slice A3 g0.length c3) ow X2 from ⟨HL.out.1.1, HL.out.1.2, by have := HL.out.2.2; have := hO.bel.size; omega, by
    obtain ⟨A4, c4, e, h1, h2, h3⟩ := hO.sl
    refine ⟨A4, c4, e, h1, h2, fun i x hx => ?_⟩
    obtain ⟨ad, ha, hb, hc⟩ := h3 i x hx
    have hbk : X1.heap.size ≤ ad.block := by
      subst ha
      injection e with e
      subst e
      exact (hO.own.lt _ rfl).1
    exact ⟨ad, ha, hb, by have := HL.out.2; omega, by have := HL.out.2.2; omega, fun e => by have := (HW.out _ e.symm).1; omega, hc⟩⟩)
  obtain ⟨fn, tmps, assign, body, hy, hR⟩ := yieldAt_wide (k := n - 1) (HC.out.yld _ _ _ _ HJ2.out HP.out)
  have HR3 := Lib.hid hR
  have hO' := hO.bel
  clear hR hO HJ2 HJ0 HCl HI HP
  rw [hl] at hy ⊢
  gi_wp2_with fail
  refine ⟨(fun h => nomatch h), ?_⟩
  (with_reducible refine HR3.out.mono ?_)
  rintro e X3 ⟨rfl, ow', hJ3, hgr, hka⟩
  have hgr0 : Grows ow ow' X := by
    rcases hgr with h | ⟨k, h, hk⟩
    · exact .inl h
    · exact .inr ⟨k, h, Nat.le_trans (Nat.le_trans hsz hO'.size) hk⟩
  have HE := Lib.hid (OutE.mk (b := b) (B := B) (g := g) (N := N) (d := 0) (g0 := g0) (J := J) (pre := pre) (us := [(g0, .slice A3 N c3)]) (ow := ow) (ow' := ow') (X := X) (X' := X3) (by rfl) (by rw [← hl]; exact hJ3) hgr0
    (((KA.of_below (B := B) (ow := ow) HB0.out).trans (KA.of_below hO')).trans hka |>.kb g)
    (own_same (own_step HO0.out hO') fun o h => hka.same g o (HO0.out.lt g rfl).1 h (fun e => (HW.out g e.symm).2 rfl)))
  clear hgr hka hJ3
  gi_wp2_with fail
  go_ret
  exact HE.out
end Go.Proofs.YtplpogonkfnafaaGreat
namespace Go.Proofs.YtplpogonkfnafaaGreat
open Go.RowKit Go.Nm

/-- while a name is tried: what holds, by which operations are done -/
structure ExG (PreW MidW PostW : World → Prop) (hv bs bs2 yv : Value) (x : Int) (f0 : Nat → Value) (dn : Nat → Bool) (a : Act) (X : World) : Prop where
  sz : a.tmps.size = 36
  t0 : a.tmps.getD 0 undef = f0 0
  t1 : a.tmps.getD 1 undef = f0 1
  t2 : a.tmps.getD 2 undef = f0 2
  t3 : a.tmps.getD 3 undef = f0 3
  t4 : a.tmps.getD 4 undef = f0 4
  t5 : a.tmps.getD 5 undef = f0 5
  t6 : a.tmps.getD 6 undef = f0 6
  t7 : a.tmps.getD 7 undef = f0 7
  t8 : a.tmps.getD 8 undef = f0 8
  t9 : a.tmps.getD 9 undef = f0 9
  t10 : a.tmps.getD 10 undef = f0 10
  t11 : a.tmps.getD 11 undef = f0 11
  t12 : a.tmps.getD 12 undef = f0 12
  t13 : a.tmps.getD 13 undef = f0 13
  t14 : a.tmps.getD 14 undef = f0 14
  t15 : a.tmps.getD 15 undef = f0 15
  t16 : a.tmps.getD 16 undef = f0 16
  t17 : a.tmps.getD 17 undef = f0 17
  t18 : a.tmps.getD 18 undef = f0 18
  t19 : a.tmps.getD 19 undef = f0 19
  t20 : a.tmps.getD 20 undef = f0 20
  t21 : a.tmps.getD 21 undef = f0 21
  t22 : a.tmps.getD 22 undef = f0 22
  t23 : a.tmps.getD 23 undef = f0 23
  t24 : a.tmps.getD 24 undef = f0 24
  t25 : a.tmps.getD 25 undef = f0 25
  t26 : a.tmps.getD 26 undef = f0 26
  t35 : a.tmps.getD 35 undef = f0 35
  ds : a.defers = []
  pre : dn 4 = false → PreW X
  mid : dn 4 = true → dn 6 = false → MidW X
  fin : dn 6 = true → PostW X
  e0 : dn 0 = true → a.tmps.getD 27 undef = hv
  e1 : dn 1 = true → a.tmps.getD 28 undef = bs
  e2 : dn 2 = true → a.tmps.getD 29 undef = .int .i64 x
  e3 : dn 3 = true → dn 4 = false → ∃ q, a.tmps.getD 30 undef = .slice (some ⟨q, 0, none⟩) 1 1 ∧ X.heap[q]? = some (.cells #[.int .i64 x] 3)
  e4 : dn 4 = true → a.tmps.getD 31 undef = bs2
  e5 : dn 5 = true → a.tmps.getD 32 undef = yv
  e6 : dn 6 = true → a.tmps.getD 33 undef = .bool true
  e7 : dn 7 = true → a.tmps.getD 34 undef = .bool false
  o3 : dn 3 = true → dn 2 = true
  o4 : dn 4 = true → dn 1 = true ∧ dn 3 = true
  o6 : dn 6 = true → dn 0 = true ∧ dn 4 = true ∧ dn 5 = true
  o7 : dn 7 = true → dn 6 = true
theorem ExG.all {PreW MidW PostW : World → Prop} {hv bs bs2 yv : Value} {x : Int} {f0 : Nat → Value} {dn : Nat → Bool} {a : Act} {X : World} (h : ExG PreW MidW PostW hv bs bs2 yv x f0 dn a X) (hd : ∀ j, j < 8 → dn j = true) : ExG PreW MidW PostW hv bs bs2 yv x f0 (fun _ => true) a X :=
  ⟨h.sz, h.t0, h.t1, h.t2, h.t3, h.t4, h.t5, h.t6, h.t7, h.t8, h.t9, h.t10, h.t11, h.t12, h.t13, h.t14, h.t15, h.t16, h.t17, h.t18, h.t19, h.t20, h.t21, h.t22, h.t23, h.t24, h.t25, h.t26, h.t35, h.ds, (fun h => nomatch h), (fun _ h => nomatch h), fun _ => h.fin (hd 6 (by omega)), fun _ => h.e0 (hd 0 (by omega)), fun _ => h.e1 (hd 1 (by omega)), fun _ => h.e2 (hd 2 (by omega)), (fun _ h => nomatch h), fun _ => h.e4 (hd 4 (by omega)), fun _ => h.e5 (hd 5 (by omega)), fun _ => h.e6 (hd 6 (by omega)), fun _ => h.e7 (hd 7 (by omega)), fun _ => rfl, fun _ => ⟨rfl, rfl⟩, fun _ => ⟨rfl, rfl, rfl⟩, fun _ => rfl⟩
theorem append_in {o : Oper} {a : Act} {w : World} {K : Act → World → Prop} {Q : Exit → Act → World → Prop} (s x : Operand) (ho : o.op = .call { callee := .builtin .append, args := #[s, x], argTypes := #[22, 22] })
    (B g n N : Nat) (L : List Int) (y : Int) (hs : a.eval s = .slice (some ⟨g, 0, none⟩) n N) (hown : w.ownsRow B 3 1 (.slice (some ⟨g, 0, none⟩) n N) n (intsV L)) (q : Nat) (hx : a.eval x = .slice (some ⟨q, 0, none⟩) 1 1) (hc : w.heap[q]? = some (.cells #[.int .i64 y] 3)) (hn : n + 1 ≤ N)
    (h : ∀ w', w'.ownsRow B 3 1 (.slice (some ⟨g, 0, none⟩) (n + 1) N) (n + 1) (intsV (L ++ [y])) → w.grownBy w' (some g) → K (a.put o.dst (.slice (some ⟨g, 0, none⟩) (n + 1) N)) w') : o.wp Tryz.prog a w K Q := by
  obtain ⟨i0, hi0, hz0, hz1, hz2⟩ := infoI
  obtain ⟨w', hr, h2, h3⟩ := run_append_fits (P := Tryz.prog) (w := w) B 22 o.type 3 i0 1 Tryz.underlying22 hi0 hz1 g n N (intsV L) hown ⟨q, 0, none⟩ 1 1 [.int .i64 y] rfl
    (fun j u hj => by
      have e : (⟨q, 0, none⟩ : Addr).add j = ⟨q, j, none⟩ := by
        unfold Addr.add
        split
        · rename_i h; rw [h]
        · simp
      rw [e]
      simpa [World.cell?, hc] using hj) (fun u hu => by simp at hu; rw [hu]; rfl) hn
  unfold Oper.wp execOp
  simp only [ho, resolve, invoke, builtin, Sem.run_bind, Sem.run_pure, Result.andThen_ok, List.map_toArray, List.map_cons, List.map_nil, hs, hx, hr]
  refine h w' ?_ h3
  rw [intsV_append]; exact h2
theorem own_prefix {X : World} {B g n N : Nat} {L : List Int} {y : Int} (h : X.ownsRow B 3 1 (.slice (some ⟨g, 0, none⟩) (n + 1) N) (n + 1) (intsV (L ++ [y]))) (hn : L.length = n) : X.ownsRow B 3 1 (.slice (some ⟨g, 0, none⟩) n N) n (intsV L) := by
  refine ⟨by rw [intsV_len]; omega, ?_⟩
  rcases h.2 with ⟨e, _⟩ | ⟨g', cap, cur, e, hb, hg, h1, h2, h3, h4⟩
  · cases e
  · injection e with e1 e2 e3
    injection e1 with e1
    injection e1 with e1
    subst e1; subst e3
    refine .inr ⟨g, N, cur, rfl, hb, hg, by omega, h2, h3, ?_⟩
    have h5 : (cur.toList.take ((n + 1) * 1)).take n = intsV L := by
      rw [h4, intsV_append, List.take_append_of_le_length (by rw [intsV_len]; omega), List.take_of_length_le (by rw [intsV_len]; omega)]
    rw [List.take_take] at h5
    rw [← h5]
    congr 1
    omega
theorem furF_len {b : Bk} (hs : Sm b) (g : List Int) : (furF b g).length ≤ 1000 := by
  unfold furF
  split
  · exact hs.1
  · split
    · rename_i c hc
      split
      · exact (hs.2.2 c (List.mem_of_getElem? hc)).2
      · simp
    · simp
/-- what has been yielded when k names have been tried -/
def triedF (b : Bk) (d : Nat) (g : List Int) (k : Nat) : List (List Int) := ((furF b g).take k).flatMap fun x => fatesF b d (g ++ [x])
theorem triedF_next {b : Bk} {d : Nat} {g : List Int} {k : Nat} {x : Int} (h : (furF b g)[k]? = some x) : triedF b d g (k + 1) = triedF b d g k ++ fatesF b d (g ++ [x]) := by
  unfold triedF
  rw [List.take_add_one, h]
  simp
theorem triedF_all {b : Bk} {d : Nat} {g : List Int} : triedF b d g (furF b g).length = fatesF b (d + 1) g := by
  unfold triedF
  rw [List.take_length]; rfl
theorem triedF_len {b : Bk} {d : Nat} {g : List Int} {k : Nat} : (triedF b d g k).length ≤ (fatesF b (d + 1) g).length := by
  show (((furF b g).take k).flatMap _).length ≤ ((furF b g).flatMap fun x => fatesF b d (g ++ [x])).length
  conv => rhs; rw [← List.take_append_drop k (furF b g), List.flatMap_append, List.length_append]
  exact Nat.le_add_right _ _
set_option maxRecDepth 100000 in
set_option maxHeartbeats 16000000 in
theorem extend_any (V0 : World) (v vc : Value) (b : Bk) (B g l N M : Nat) (J : List (List Int × Value) → Option Nat → World → Prop) (hv : HsV V0 v b vc) (hsm : Sm b) (hval : Val b)
    (C : ExC Tryz.prog V0 B g l N M J) (hN : (vers b).length = N) (hs : N ≤ 1000) : ∀ (d : Nat) (g0 : List Int) (pre : List (List Int × Value)) (ow : Option Nat) (X : World), g0.length + d = N → J pre ow X → B ≤ X.heap.size →
    X.ownsRow B 3 1 (.slice (some ⟨g, 0, none⟩) g0.length N) g0.length (intsV g0) → pre.length + (fatesF b d g0).length ≤ M →
    Calls Tryz.prog 68 #[v, .slice (some ⟨g, 0, none⟩) g0.length N, .func (.yield l) #[] #[]] X (OutE b B g N d g0 J pre ow X) := by
  intro d
  induction d with
  | zero =>
    intro g0 pre ow X hl hj hB ho hM
    exact callsIn_wide.1 (extend_end V0 X v vc b B g l N M 4 g0 J pre ow hv C hj ho hN (by omega) (by simp [fatesF] at hM; omega) hs)
  | succ d ih =>
    intro g0 pre ow X hl hj hB ho hM
    have hvl := val_len hval
    have hlen : g0.length ≤ b.chs.length := by omega
    have HFu := Lib.hid (fun Y (hb : Below V0.heap.size V0 Y) (ho : Y.ownsRow B 3 1 (.slice (some ⟨g, 0, none⟩) g0.length N) g0.length (intsV g0)) =>
      further_any V0 Y v vc b g0 g N hv hsm hval hb (own_inA ho) hlen (by omega) (by omega))
    have IH := Lib.hid ih
    have HV := Lib.hid hv
    obtain ⟨vs, rfl, h1, h2⟩ := hv
    have e1 := h1.form
    rw [hN] at e1
    obtain ⟨Av, cv, rfl⟩ := e1
    obtain ⟨A2, c2, rfl⟩ := h2.form
    have hb0 := below_new (w := X) (.cells #[.slice Av N cv, .slice A2 b.chs.length c2] 55)
    have HN0 := Lib.hid (World.alloc_heap_new X (.cells #[.slice Av N cv, .slice A2 b.chs.length c2] 55))
    have HB0 := Lib.hid hb0
    have HJ0 := Lib.hid (C.below hj hb0)
    have HO0 := Lib.hid (own_step ho hb0)
    have HL := Lib.hid (And.intro hl (And.intro hM (ho.lt g rfl)))
    have HW := Lib.hid (C.low _ _ _ hj)
    have HC := Lib.hid C
    have HFl := Lib.hid (furF_len hsm g0)
    have hnN : g0.length < N := by omega
    have hsz := HB0.out.size
    clear h1 h2 hb0 hj ho C ih hl hM hvl hlen hval hsm
    obtain ⟨X1, hX1⟩ : ∃ X1, X.alloc (.cells #[.slice Av N cv, .slice A2 b.chs.length c2] 55) = X1 := ⟨_, rfl⟩
    rw [hX1] at HN0 HB0 HJ0 HO0 hsz
    obtain ⟨k0, k1⟩ := cells_two HN0.out
    have HF := Lib.hid (HFu.out X1 (HC.out.bel _ _ _ HJ0.out) HO0.out)
    obtain ⟨len, hlen⟩ : ∃ len, b.chs.length = len := ⟨_, rfl⟩
    rw [hlen] at hX1 HN0 k1 HF IH HV ⊢
    clear hlen HFu
    obtain ⟨n, hn⟩ : ∃ n, g0.length = n := ⟨_, rfl⟩
    have HGl := Lib.hid hn
    rw [hn] at HF HO0 HL hnN ⊢
    clear hn
    have hne : (n : Int) ≠ (N : Int) := by omega
    go_enter Tryz.func68, Tryz.ntmps68
    go_wp2_with fail
    (with_reducible refine HF.out.mono ?_)
    rintro e X2 ⟨⟨r, rfl, hr⟩, hb⟩
    have HRd := Lib.hid (show ∃ A m c, r = .slice A m c ∧ (furF b g0).length = m ∧ ∀ Y, Below V0.heap.size V0 Y → Y.ownsRow B 3 1 (.slice (some ⟨g, 0, none⟩) n N) n (intsV g0) → InA Y Y.heap.size A (furF b g0) from by
      rcases hr with ⟨A, c, e, _, _, h⟩ | ⟨k, c, x, hk, e, _, hF, hx⟩
      · exact ⟨A, _, c, e, rfl, fun Y hb _ => (h.below hb).mono hb.size⟩
      · refine ⟨_, _, c, e, by rw [hF]; rfl, fun Y _ ho => ?_⟩
        rw [hF]
        intro i y hy
        have hi : i = 0 := by have := (List.getElem?_eq_some_iff.1 hy).1; simp at this; omega
        subst hi
        simp at hy
        subst hy
        have hgY := (ho.lt g rfl).2
        refine ⟨_, rfl, hgY, ?_⟩
        have hc := (own_inA (L := g0) ho) k x hx
        obtain ⟨ad, ea, _, hc⟩ := hc
        injection ea with ea
        subst ea
        rw [off_add] at hc
        rw [add_zero']
        exact hc)
    obtain ⟨A, m, c, rfl, hm, HR⟩ := HRd.out
    have HR := Lib.hid HR
    have HJ2 := Lib.hid (HC.out.below HJ0.out hb)
    have HO2 := Lib.hid (own_step HO0.out hb)
    have HK2 := Lib.hid (show KB B ow g X X2 from ((KA.of_below (B := B) (ow := ow) HB0.out).trans (KA.of_below hb)).kb g)
    have HN2 := Lib.hid (And.intro (HB0.out.size) (And.intro hb.size (And.intro ((hb.cell (p := ⟨X.heap.size, 0, none⟩) (Array.getElem?_eq_some_iff.1 HN0.out).1).trans k0) ((hb.cell (p := ⟨X.heap.size, 1, none⟩) (Array.getElem?_eq_some_iff.1 HN0.out).1).trans k1))))
    have hm1 : m ≤ 1000 := by have := HFl.out; omega
    have hBX : B ≤ X.heap.size := by have := HL.out.2.2; omega
    have HXl := Lib.hid (Array.getElem?_eq_some_iff.1 HN0.out).1
    have HM := Lib.hid hm
    have hneb : ((n : Int) == (N : Int)) = false := by simpa using hne
    clear hr hb HRd k0 k1 HF HO0 HJ0 HN0 hX1 HFl hm hsz hne
    simp only [hneb]
    clear hneb
    go_wp2_with fail
    go_loopw [23] (fun iv wr => ∃ (k : Nat) (us : List (List Int × Value)) (ow' : Option Nat), iv = .int .i64 (k : Int) ∧ k ≤ m ∧ us.map (·.1) = triedF b d g0 k ∧ J (pre ++ us) ow' wr ∧ Grows ow ow' X2 ∧ KB B ow g X wr ∧ KB B ow g X2 wr ∧ wr.ownsRow B 3 1 (.slice (some ⟨g, 0, none⟩) n N) n (intsV g0)) (fun iv _ => m - (intOf iv).toNat)
    case atStart => exact ⟨0, [], ow, rfl, by omega, by simp [triedF], by rw [List.append_nil]; exact HJ2.out, Grows.refl _ _, HK2.out, KB.refl _ _ _ _, HO2.out⟩
    case round =>
      obtain ⟨k, us, ow', rfl, hkm, hus, hj, hgr, hkb, hkb2, ho⟩ := hrel
      have HI := Lib.hid (And.intro hus (And.intro hj (And.intro hgr (And.intro hkb (And.intro hkb2 ho)))))
      clear hus hj hgr hkb hkb2 ho
      by_cases hlt : k < m
      · obtain ⟨x, ad, hx, rfl, hbd, hcx⟩ := (HR.out wr (HC.out.bel _ _ _ HI.out.2.1) HI.out.2.2.2.2.2).at_ HM.out hlt
        have HX := Lib.hid hx
        have hk0 : wr.cell? ⟨X.heap.size, 0, none⟩ = some (.slice Av N cv) := HI.out.2.2.2.2.1.cell HN2.out.2.2.1 hBX (fun e => absurd (HW.out _ e.symm).1 (Nat.lt_irrefl _)) (by show X.heap.size ≠ g; have := HL.out.2.2.2; omega)
        have hk1 : wr.cell? ⟨X.heap.size, 1, none⟩ = some (.slice A2 len c2) := HI.out.2.2.2.2.1.cell HN2.out.2.2.2 hBX (fun e => absurd (HW.out _ e.symm).1 (Nat.lt_irrefl _)) (by show X.heap.size ≠ g; have := HL.out.2.2.2; omega)
        have HCx := Lib.hid (And.intro hk0 hk1)
        clear hx hbd hk0 hk1
        go_wp2_with fail
        obtain ⟨PreW, hPre⟩ : ∃ P : World → Prop, P = fun Y => wr.grownBy Y (some g) ∧ Y.ownsRow B 3 1 (.slice (some ⟨g, 0, none⟩) n N) n (intsV g0) := ⟨_, rfl⟩
        obtain ⟨MidW, hMid⟩ : ∃ P : World → Prop, P = fun Y => wr.grownBy Y (some g) ∧ Y.ownsRow B 3 1 (.slice (some ⟨g, 0, none⟩) (n + 1) N) (n + 1) (intsV (g0 ++ [x])) := ⟨_, rfl⟩
        obtain ⟨PostW, hPost⟩ : ∃ P : World → Prop, P = fun Y => ∃ us2 ow2, us2.map (·.1) = fatesF b d (g0 ++ [x]) ∧ J ((pre ++ us) ++ us2) ow2 Y ∧ Grows ow' ow2 wr ∧ KB B ow' g wr Y ∧ Y.ownsRow B 3 1 (.slice (some ⟨g, 0, none⟩) n N) n (intsV g0) := ⟨_, rfl⟩
        have hgs : wr.grownBy wr.drew (some g) := ⟨rfl, rfl, rfl, Nat.le_refl _, fun _ _ _ => rfl⟩
        have HPr0 := Lib.hid (show PreW wr.drew from by rw [hPre]; exact ⟨hgs, HI.out.2.2.2.2.2⟩)
        have HPw := Lib.hid (show ∀ Y, PreW Y → Y.ownsRow B 3 1 (.slice (some ⟨g, 0, none⟩) n N) n (intsV g0) from fun Y h => by rw [hPre] at h; exact h.2)
        have HAl := Lib.hid (show ∀ Y, PreW Y → ∀ o, PreW (Y.alloc o) from fun Y h o => by rw [hPre] at h ⊢; exact ⟨h.1.trans (World.grownBy_alloc _ o _), h.2.alloc o⟩)
        have HMd := Lib.hid (show ∀ Y Y', PreW Y → Y'.ownsRow B 3 1 (.slice (some ⟨g, 0, none⟩) (n + 1) N) (n + 1) (intsV (g0 ++ [x])) → Y.grownBy Y' (some g) → MidW Y' from fun Y Y' h ho hg => by rw [hPre] at h; rw [hMid]; exact ⟨h.1.trans hg, ho⟩)
        have hbne : X.heap.size ≠ g := by have := HL.out.2.2.2; omega
        have hbl : X.heap.size < wr.heap.size := by have := HI.out.2.2.2.2.1.size; have := HN2.out.2.1; have := HXl.out; omega
        have HBox := Lib.hid (show ∀ Y, PreW Y ∨ MidW Y → Y.cell? ⟨X.heap.size, 0, none⟩ = some (.slice Av N cv) ∧ Y.cell? ⟨X.heap.size, 1, none⟩ = some (.slice A2 len c2) from fun Y h => by
          have hg : wr.grownBy Y (some g) := by rcases h with h | h; exact (hPre ▸ h).1; exact (hMid ▸ h).1
          have hk : Y.heap[X.heap.size]? = wr.heap[X.heap.size]? := hg.block _ hbl (fun e => hbne (by cases e; rfl))
          exact ⟨(World.cell?_of_block (w := wr) hk).trans HCx.out.1, (World.cell?_of_block (w := wr) hk).trans HCx.out.2⟩)
        have HnN := Lib.hid (show n + 1 ≤ N from hnN)
        have HCall := Lib.hid (show ∀ Y, MidW Y → Calls Tryz.prog 68 #[.agg #[.slice Av N cv, .slice A2 len c2], .slice (some ⟨g, 0, none⟩) (n + 1) N, .func (.yield l) #[] #[]] Y (fun e Y' => e = .returned (.bool true) ∧ PostW Y') from fun Y h => by
          rw [hMid] at h
          obtain ⟨hg, ho⟩ := h
          have hl1 : (g0 ++ [x]).length = n + 1 := by rw [List.length_append, HGl.out]; rfl
          have hM1 : (pre ++ us).length + (fatesF b d (g0 ++ [x])).length ≤ M := by
            have h1 := triedF_next (d := d) HX.out
            have h2 := triedF_len (b := b) (d := d) (g := g0) (k := k + 1)
            rw [h1, List.length_append] at h2
            have h3 : us.length = (triedF b d g0 k).length := by rw [← HI.out.1, List.length_map]
            have := HL.out.2.1
            rw [List.length_append]; omega
          have hc := IH.out (g0 ++ [x]) (pre ++ us) ow' Y (by rw [hl1]; have := HL.out.1; omega) (HC.out.keep _ _ _ _ HI.out.2.1 hg) (by have := hg.size; omega) (by rw [hl1]; exact ho) hM1
          rw [hl1] at hc
          refine hc.mono ?_
          rintro e Y' ⟨rfl, us2, ow2, h1, h2, h3, h4, h5⟩
          refine ⟨rfl, ?_⟩
          rw [hPost]
          refine ⟨us2, ow2, h1, h2, ?_, (KB.of_grown hg).trans (Grows.refl _ _) h4, own_prefix (by rw [hl1] at h5; exact h5) HGl.out⟩
          rcases h3 with h | ⟨j, h, hj⟩
          · exact .inl h
          · exact .inr ⟨j, h, by have := hg.size; omega⟩)
        have HPost := Lib.hid hPost
        have HGX := Lib.hid (show Grows ow ow' X from by
          rcases HI.out.2.2.1 with h | ⟨j, h, hj⟩
          · exact .inl h
          · exact .inr ⟨j, h, by have := HN2.out.1; have := HN2.out.2.1; omega⟩)
        clear hMid hPre hgs hPost
        refine wp_mono (Q := onlyN (fun a' Y => ExG PreW MidW PostW (.agg #[.slice Av N cv, .slice A2 len c2]) (.slice (some ⟨g, 0, none⟩) n N) (.slice (some ⟨g, 0, none⟩) (n + 1) N) (.func (.yield l) #[] #[]) x (fun kk => (#[.agg #[.slice Av N cv, .slice A2 len c2], .slice (some ⟨g, 0, none⟩) n N, .func (.yield l) #[] #[], .pointer (some ⟨X.heap.size, 0, none⟩), undef, undef, u6, undef, .int .i64 x, .slice (some ⟨g, 0, none⟩) n N, .int .i64 (n : Int), .pointer (some ⟨X.heap.size, 0, none⟩), .slice Av N cv, .int .i64 (N : Int), .bool false, undef, undef, undef, undef, .agg #[.slice Av N cv, .slice A2 len c2], .slice (some ⟨g, 0, none⟩) n N, .slice (some ad) m c, .int .i64 (m : Int), .int .i64 (k : Int), .bool true, .pointer (some (ad.add k)), .int .i64 x, u27, u28, u29, u30, u31, u32, u33, u34, u35] : Array Value).getD kk undef) (fun _ => true) a' Y)) ?_ ?_
        · refine wp_region_done (ExG PreW MidW PostW (.agg #[.slice Av N cv, .slice A2 len c2]) (.slice (some ⟨g, 0, none⟩) n N) (.slice (some ⟨g, 0, none⟩) (n + 1) N) (.func (.yield l) #[] #[]) x (fun kk => (#[.agg #[.slice Av N cv, .slice A2 len c2], .slice (some ⟨g, 0, none⟩) n N, .func (.yield l) #[] #[], .pointer (some ⟨X.heap.size, 0, none⟩), undef, undef, u6, undef, .int .i64 x, .slice (some ⟨g, 0, none⟩) n N, .int .i64 (n : Int), .pointer (some ⟨X.heap.size, 0, none⟩), .slice Av N cv, .int .i64 (N : Int), .bool false, undef, undef, undef, undef, .agg #[.slice Av N cv, .slice A2 len c2], .slice (some ⟨g, 0, none⟩) n N, .slice (some ad) m c, .int .i64 (m : Int), .int .i64 (k : Int), .bool true, .pointer (some (ad.add k)), .int .i64 x, u27, u28, u29, u30, u31, u32, u33, u34, u35] : Array Value).getD kk undef)) (by kernel_rfl) (by kernel_rfl) ?_ ?_ ?_
          · exact ⟨rfl, rfl, rfl, rfl, rfl, rfl, rfl, rfl, rfl, rfl, rfl, rfl, rfl, rfl, rfl, rfl, rfl, rfl, rfl, rfl, rfl, rfl, rfl, rfl, rfl, rfl, rfl, rfl, rfl, rfl, (fun _ => HPr0.out), (fun h => nomatch h), (fun h => nomatch h), (fun h => nomatch h), (fun h => nomatch h), (fun h => nomatch h), (fun h => nomatch h), (fun h => nomatch h), (fun h => nomatch h), (fun h => nomatch h), (fun h => nomatch h), (fun h => nomatch h), (fun h => nomatch h), (fun h => nomatch h), (fun h => nomatch h)⟩
          · intro dn j o hi hd hD a Y hG
            obtain ⟨tm, ds⟩ := a
            obtain ⟨hsz, t0, t1, t2, t3, t4, t5, t6, t7, t8, t9, t10, t11, t12, t13, t14, t15, t16, t17, t18, t19, t20, t21, t22, t23, t24, t25, t26, t35, hds, pre, mid, fin, e0, e1, e2, e3, e4, e5, e6, e7, o3, o4, o6, o7⟩ := hG
            obtain ⟨fn, rfl⟩ := arr36 hsz
            have hj8 : j < 8 := by
              have := (Array.getElem?_eq_some_iff.1 hi).1
              simpa using this
            simp [Array.getD] at t0 t1 t2 t3 t4 t5 t6 t7 t8 t9 t10 t11 t12 t13 t14 t15 t16 t17 t18 t19 t20 t21 t22 t23 t24 t25 t26 t35
            rcases (show j = 0 ∨ j = 1 ∨ j = 2 ∨ j = 3 ∨ j = 4 ∨ j = 5 ∨ j = 6 ∨ j = 7 by omega) with rfl | rfl | rfl | rfl | rfl | rfl | rfl | rfl
            · obtain rfl := Option.some.inj hi
              have n6 : dn 6 = false := by
                cases h : dn 6
                · rfl
                · have := o6 h
                  simp_all
              have hbx : Y.cell? ⟨X.heap.size, 0, none⟩ = some (.slice Av N cv) ∧ Y.cell? ⟨X.heap.size, 1, none⟩ = some (.slice A2 len c2) := by
                cases h : dn 4
                · exact HBox.out Y (.inl (pre h))
                · exact HBox.out Y (.inr (mid h n6))
              obtain ⟨q0, q1⟩ := hbx
              refine wpOp_bare hi rfl ?_
              go_simp
              exact ⟨rfl, rfl, rfl, rfl, rfl, rfl, rfl, rfl, rfl, rfl, rfl, rfl, rfl, rfl, rfl, rfl, rfl, rfl, rfl, rfl, rfl, rfl, rfl, rfl, rfl, rfl, rfl, rfl, rfl, hds, pre, mid, fin, (fun _ => rfl), e1, e2, e3, e4, e5, e6, e7, o3, o4, (fun h => ⟨rfl, (o6 h).2⟩), o7⟩
            · obtain rfl := Option.some.inj hi
              refine wpOp_bare hi rfl ?_
              go_simp
              exact ⟨rfl, rfl, rfl, rfl, rfl, rfl, rfl, rfl, rfl, rfl, rfl, rfl, rfl, rfl, rfl, rfl, rfl, rfl, rfl, rfl, rfl, rfl, rfl, rfl, rfl, rfl, rfl, rfl, rfl, hds, pre, mid, fin, e0, (fun _ => rfl), e2, e3, e4, e5, e6, e7, o3, (fun h => ⟨rfl, (o4 h).2⟩), o6, o7⟩
            · obtain rfl := Option.some.inj hi
              refine wpOp_bare hi rfl ?_
              go_simp
              exact ⟨rfl, rfl, rfl, rfl, rfl, rfl, rfl, rfl, rfl, rfl, rfl, rfl, rfl, rfl, rfl, rfl, rfl, rfl, rfl, rfl, rfl, rfl, rfl, rfl, rfl, rfl, rfl, rfl, rfl, hds, pre, mid, fin, e0, e1, (fun _ => rfl), e3, e4, e5, e6, e7, (fun _ => rfl), o4, o6, o7⟩
            · obtain rfl := Option.some.inj hi
              have n4 : dn 4 = false := by
                cases h : dn 4
                · rfl
                · have := o4 h
                  simp_all
              have n6 : dn 6 = false := by
                cases h : dn 6
                · rfl
                · have := o6 h
                  simp_all
              have d2 := e2 (hD ⟨2, .data⟩ (by simp) rfl)
              simp [Array.getD] at d2
              refine wpOp_bare hi rfl ?_
              go_simp
              exact ⟨rfl, rfl, rfl, rfl, rfl, rfl, rfl, rfl, rfl, rfl, rfl, rfl, rfl, rfl, rfl, rfl, rfl, rfl, rfl, rfl, rfl, rfl, rfl, rfl, rfl, rfl, rfl, rfl, rfl, hds, (fun _ => HAl.out Y (pre n4) _), (fun h => absurd (n4.symm.trans h) (by decide)), (fun h => absurd (n6.symm.trans h) (by decide)), e0, e1, (fun _ => rfl), (fun _ _ => ⟨_, rfl, World.alloc_heap_new Y _⟩), e4, e5, e6, e7, (fun _ => hD ⟨2, .data⟩ (by simp) rfl), (fun h => ⟨(o4 h).1, rfl⟩), o6, o7⟩
            · obtain rfl := Option.some.inj hi
              have n6 : dn 6 = false := by
                cases h : dn 6
                · rfl
                · exact absurd (hd.symm.trans (o6 h).2.1) (by decide)
              have d1 := e1 (hD ⟨1, .data⟩ (by simp) rfl)
              simp [Array.getD] at d1
              obtain ⟨q3, d3, hq3⟩ := e3 (hD ⟨3, .data⟩ (by simp) rfl) hd
              simp [Array.getD] at d3
              refine wpOp_bare hi rfl ?_
              refine append_in (.tmp 28) (.tmp 30) rfl B g n N g0 x d1 (HPw.out Y (pre hd)) q3 d3 hq3 HnN.out ?_
              intro Y' ho hg
              exact ⟨rfl, t0, t1, t2, t3, t4, t5, t6, t7, t8, t9, t10, t11, t12, t13, t14, t15, t16, t17, t18, t19, t20, t21, t22, t23, t24, t25, t26, t35, hds, (fun h => nomatch h), (fun _ _ => HMd.out Y Y' (pre hd) ho hg), (fun h => absurd (n6.symm.trans h) (by decide)), e0, e1, e2, (fun _ h => nomatch h), (fun _ => rfl), e5, e6, e7, o3, (fun _ => ⟨hD ⟨1, .data⟩ (by simp) rfl, hD ⟨3, .data⟩ (by simp) rfl⟩), (fun h => ⟨(o6 h).1, rfl, (o6 h).2.2⟩), o7⟩
            · obtain rfl := Option.some.inj hi
              refine wpOp_bare hi rfl ?_
              go_simp
              exact ⟨rfl, rfl, rfl, rfl, rfl, rfl, rfl, rfl, rfl, rfl, rfl, rfl, rfl, rfl, rfl, rfl, rfl, rfl, rfl, rfl, rfl, rfl, rfl, rfl, rfl, rfl, rfl, rfl, rfl, hds, pre, mid, fin, e0, e1, e2, e3, e4, (fun _ => rfl), e6, e7, o3, o4, (fun h => ⟨(o6 h).1, (o6 h).2.1, rfl⟩), o7⟩
            · obtain rfl := Option.some.inj hi
              have y4 := hD ⟨4, .data⟩ (by simp) rfl
              have d0 := e0 (hD ⟨0, .data⟩ (by simp) rfl)
              simp [Array.getD] at d0
              have d4 := e4 (hD ⟨4, .data⟩ (by simp) rfl)
              simp [Array.getD] at d4
              have d5 := e5 (hD ⟨5, .data⟩ (by simp) rfl)
              simp [Array.getD] at d5
              have HC := Lib.hid (HCall.out Y (mid y4 hd))
              refine wpOp_bare hi rfl ?_
              go_simp
              (with_reducible refine HC.out.mono ?_)
              rintro e Y' ⟨rfl, hP⟩
              exact ⟨rfl, rfl, rfl, rfl, rfl, rfl, rfl, rfl, rfl, rfl, rfl, rfl, rfl, rfl, rfl, rfl, rfl, rfl, rfl, rfl, rfl, rfl, rfl, rfl, rfl, rfl, rfl, rfl, rfl, hds, (fun h => absurd (y4.symm.trans h) (by decide)), (fun _ h => nomatch h), (fun _ => hP), (fun _ => rfl), e1, e2, (fun _ h => absurd (y4.symm.trans h) (by decide)), (fun _ => rfl), (fun _ => rfl), (fun _ => rfl), (fun h => absurd (hd.symm.trans (o7 h)) (by decide)), o3, o4, (fun _ => ⟨hD ⟨0, .data⟩ (by simp) rfl, y4, hD ⟨5, .data⟩ (by simp) rfl⟩), (fun h => rfl)⟩
            · obtain rfl := Option.some.inj hi
              have d6 := e6 (hD ⟨6, .data⟩ (by simp) rfl)
              simp [Array.getD] at d6
              refine wpOp_bare hi rfl ?_
              go_simp
              exact ⟨rfl, rfl, rfl, rfl, rfl, rfl, rfl, rfl, rfl, rfl, rfl, rfl, rfl, rfl, rfl, rfl, rfl, rfl, rfl, rfl, rfl, rfl, rfl, rfl, rfl, rfl, rfl, rfl, rfl, hds, pre, mid, fin, e0, e1, e2, e3, e4, e5, (fun _ => rfl), (fun _ => rfl), o3, o4, o6, (fun _ => hD ⟨6, .data⟩ (by simp) rfl)⟩
          · intro dn a Y hdn hG
            exact hG.all fun j hj => hdn j (by simpa using hj)
        · rintro e ⟨tm, ds⟩ Y h
          cases e with
          | normal =>
            obtain ⟨hsz, t0, t1, t2, t3, t4, t5, t6, t7, t8, t9, t10, t11, t12, t13, t14, t15, t16, t17, t18, t19, t20, t21, t22, t23, t24, t25, t26, t35, hds, pre, mid, fin, e0, e1, e2, e3, e4, e5, e6, e7, o3, o4, o6, o7⟩ := h
            obtain ⟨fn, rfl⟩ := arr36 hsz
            have hds' : ds = [] := hds
            subst hds'
            have HP := Lib.hid (fin rfl)
            clear fin
            have t0' : fn 0 = .agg #[.slice Av N cv, .slice A2 len c2] := t0
            have t1' : fn 1 = .slice (some ⟨g, 0, none⟩) n N := t1
            have t2' : fn 2 = .func (.yield l) #[] #[] := t2
            have t3' : fn 3 = .pointer (some ⟨X.heap.size, 0, none⟩) := t3
            have t4' : fn 4 = undef := t4
            have t5' : fn 5 = undef := t5
            have t6' : fn 6 = u6 := t6
            have t7' : fn 7 = undef := t7
            have t8' : fn 8 = .int .i64 x := t8
            have t9' : fn 9 = .slice (some ⟨g, 0, none⟩) n N := t9
            have t10' : fn 10 = .int .i64 (n : Int) := t10
            have t11' : fn 11 = .pointer (some ⟨X.heap.size, 0, none⟩) := t11
            have t12' : fn 12 = .slice Av N cv := t12
            have t13' : fn 13 = .int .i64 (N : Int) := t13
            have t14' : fn 14 = .bool false := t14
            have t15' : fn 15 = undef := t15
            have t16' : fn 16 = undef := t16
            have t17' : fn 17 = undef := t17
            have t18' : fn 18 = undef := t18
            have t19' : fn 19 = .agg #[.slice Av N cv, .slice A2 len c2] := t19
            have t20' : fn 20 = .slice (some ⟨g, 0, none⟩) n N := t20
            have t21' : fn 21 = .slice (some ad) m c := t21
            have t22' : fn 22 = .int .i64 (m : Int) := t22
            have t23' : fn 23 = .int .i64 (k : Int) := t23
            have t24' : fn 24 = .bool true := t24
            have t25' : fn 25 = .pointer (some (ad.add k)) := t25
            have t26' : fn 26 = .int .i64 x := t26
            have t35' : fn 35 = u35 := t35
            have t33' : fn 33 = .bool true := e6 rfl
            have t34' : fn 34 = .bool false := e7 rfl
            rw [t33', t34', t0', t1', t2', t3', t4', t5', t6', t7', t8', t9', t10', t11', t12', t13', t14', t15', t16', t17', t18', t19', t20', t21', t22', t23', t24', t25', t26', t35']
            clear t0' t0 t1' t1 t2' t2 t3' t3 t4' t4 t5' t5 t6' t6 t7' t7 t8' t8 t9' t9 t10' t10 t11' t11 t12' t12 t13' t13 t14' t14 t15' t15 t16' t16 t17' t17 t18' t18 t19' t19 t20' t20 t21' t21 t22' t22 t23' t23 t24' t24 t25' t25 t26' t26 t35' t35 t33' t34' e0 e1 e2 e3 e4 e5 e6 e7 o3 o4 o6 o7 pre mid hsz hds
            simp only [Exit.then]
            rw [HPost.out] at HP
            obtain ⟨us2, ow2, q1, q2, q3, q4, q5⟩ := HP.out
            have HQ := Lib.hid (show (us ++ us2).map (·.1) = triedF b d g0 (k + 1) ∧ J (pre ++ (us ++ us2)) ow2 Y ∧ Grows ow ow2 X2 ∧ KB B ow g X Y ∧ KB B ow g X2 Y ∧ Y.ownsRow B 3 1 (.slice (some ⟨g, 0, none⟩) n N) n (intsV g0) from
              ⟨by rw [List.map_append, HI.out.1, q1, triedF_next HX.out], by rw [← List.append_assoc]; exact q2, HI.out.2.2.1.trans q3 HI.out.2.2.2.2.1.size, HI.out.2.2.2.1.trans HGX.out q4,
                HI.out.2.2.2.2.1.trans HI.out.2.2.1 q4, q5⟩)
            clear q1 q2 q3 q4 q5 HP HPost HPr0 HPw HAl HMd HBox HCall HCx HI
            go_wp2_with fail
            go_roundw
            case rel => exact ⟨k + 1, us ++ us2, ow2, by go_num, by omega, HQ.out⟩
            case measure => simp [intOf]; omega
          | _ => exact h.elim
      · have hk : k = m := by omega
        subst hk
        have HE := Lib.hid (show OutE b B g N (d + 1) g0 J pre ow X (.returned (.bool true)) wr from by
          refine OutE.mk (us := us) (ow' := ow') ?_ HI.out.2.1 (by
            rcases HI.out.2.2.1 with h | ⟨j, h, hj⟩
            · exact .inl h
            · exact .inr ⟨j, h, by have := HN2.out.1; have := HN2.out.2.1; omega⟩) HI.out.2.2.2.1 (by rw [HGl.out]; exact HI.out.2.2.2.2.2)
          rw [HI.out.1, ← HM.out]
          exact triedF_all)
        go_wp2_with fail
        go_ret
        exact HE.out
end Go.Proofs.YtplpogonkfnafaaGreat
namespace Go.Proofs.YtplpogonkfnafaaGreat
open Go.RowKit Go.Nm

theorem arr10 {t : Array Value} (h : t.size = 10) : ∃ f : Nat → Value, t = #[f 0, f 1, f 2, f 3, f 4, f 5, f 6, f 7, f 8, f 9] := by
  refine ⟨fun k => t.getD k undef, ?_⟩
  apply Array.ext
  · simpa using h
  · intro i h1 h2
    have : i < 10 := by omega
    have hi : i = 0 ∨ i = 1 ∨ i = 2 ∨ i = 3 ∨ i = 4 ∨ i = 5 ∨ i = 6 ∨ i = 7 ∨ i = 8 ∨ i = 9 := by omega
    rcases hi with rfl | rfl | rfl | rfl | rfl | rfl | rfl | rfl | rfl | rfl <;> simp [Array.getD, h1]
/-- while the iterator begins: what holds, by which operations are done -/
structure FtG (W : World) (PostW : World → Prop) (hv vs : Value) (hb N : Nat) (f0 : Nat → Value) (dn : Nat → Bool) (a : Act) (X : World) : Prop where
  sz : a.tmps.size = 10
  t0 : a.tmps.getD 0 undef = f0 0
  t1 : a.tmps.getD 1 undef = f0 1
  t2 : a.tmps.getD 2 undef = f0 2
  ds : a.defers = []
  pre : dn 4 = false → X = W
  mid : dn 4 = true → dn 6 = false → X = W.alloc (.cells (madeCells #[.int .i64 0] N) 3)
  fin : dn 6 = true → PostW X
  e0 : dn 0 = true → a.tmps.getD 3 undef = hv
  e1 : dn 1 = true → a.tmps.getD 4 undef = .pointer (some ⟨hb, 0, none⟩)
  e2 : dn 2 = true → a.tmps.getD 5 undef = vs
  e3 : dn 3 = true → a.tmps.getD 6 undef = .int .i64 (N : Int)
  e4 : dn 4 = true → a.tmps.getD 7 undef = .slice (some ⟨W.heap.size, 0, none⟩) 0 N
  e5 : dn 5 = true → a.tmps.getD 8 undef = f0 0
  e6 : dn 6 = true → True
  o3 : dn 3 = true → dn 2 = true ∧ dn 1 = true
  o2 : dn 2 = true → dn 1 = true
  o4 : dn 4 = true → dn 1 = true ∧ dn 2 = true ∧ dn 3 = true
  o6 : dn 6 = true → dn 0 = true ∧ dn 4 = true ∧ dn 5 = true
theorem FtG.all {W : World} {PostW : World → Prop} {hv vs : Value} {hb N : Nat} {f0 : Nat → Value} {dn : Nat → Bool} {a : Act} {X : World} (h : FtG W PostW hv vs hb N f0 dn a X) (hd : ∀ j, j < 7 → dn j = true) : FtG W PostW hv vs hb N f0 (fun _ => true) a X :=
  ⟨h.sz, h.t0, h.t1, h.t2, h.ds, (fun h => nomatch h), (fun _ h => nomatch h), fun _ => h.fin (hd 6 (by omega)), fun _ => h.e0 (hd 0 (by omega)), fun _ => h.e1 (hd 1 (by omega)), fun _ => h.e2 (hd 2 (by omega)), fun _ => h.e3 (hd 3 (by omega)), fun _ => h.e4 (hd 4 (by omega)), fun _ => h.e5 (hd 5 (by omega)), fun _ => trivial, fun _ => ⟨rfl, rfl⟩, fun _ => rfl, fun _ => ⟨rfl, rfl, rfl⟩, fun _ => ⟨rfl, rfl, rfl⟩⟩
theorem make_in {o : Oper} {a : Act} {w : World} {K : Act → World → Prop} {Q : Exit → Act → World → Prop} (l c : Operand) (ho : o.op = .makeSlice 22 l c) (N : Nat) (hl : a.eval l = .int .i64 0) (hc : a.eval c = .int .i64 (N : Int)) (hN : N ≤ 1000)
    (h : K (a.put o.dst (.slice (some ⟨w.heap.size, 0, none⟩) 0 N)) (w.alloc (.cells (madeCells #[.int .i64 0] N) 3))) : o.wp Tryz.prog a w K Q := by
  obtain ⟨i0, hi0, hz0, hz1, hz2⟩ := infoI
  have hr := run_make (P := Tryz.prog) w 22 3 i0 (.int .i64 0) Tryz.underlying22 hi0 hz0 .i64 .i64 0 (N : Int) (by omega) (by omega) (by rw [hz2]; omega) (by omega)
  rw [hz1, Nat.mul_one] at hr
  unfold Oper.wp execOp
  simp only [ho, hl, hc]
  have hr2 : (Instr.makeSlice 22 (Value.int IntKind.i64 0) (Value.int IntKind.i64 (N : Int))).run Tryz.prog w = .ok (.slice (some ⟨w.heap.size, 0, none⟩) 0 N) (w.alloc (.cells (madeCells #[.int .i64 0] N) 3)) := hr
  simp only [Sem.run_bind, Sem.run_pure, hr2, Result.andThen_ok]
  exact h
theorem fates_any (Av A2 : Option Addr) (n cv m c2 : Nat) (w : World) :
    Calls Tryz.prog 40 #[.agg #[.slice Av n cv, .slice A2 m c2]] w fun e w' => e = .returned (.func (.func 67) #[] #[.pointer (some ⟨w.heap.size, 0, none⟩)]) ∧ w' = w.alloc (.cells #[.slice Av n cv, .slice A2 m c2] 55) := by
  go_enter Tryz.func40, Tryz.ntmps40
  go_wp2_with fail
  go_ret
  exact ⟨rfl, rfl⟩
/-- what the iterator asks of its caller -/
def ItI (V0 : World) (Hb : Nat) (fs : Array Value) (g : Nat) (_ : List (List Int × Value)) (ow : Option Nat) (X : World) : Prop := Below V0.heap.size V0 X ∧ (∀ k, ow = some k → k < X.heap.size ∧ k ≠ g) ∧ X.heap[Hb]? = some (.cells fs 55)
set_option maxRecDepth 100000 in
set_option maxHeartbeats 8000000 in
theorem fates_iter (V0 : World) (v vc : Value) (fs : Array Value) (b : Bk) (B N M n Hb : Nat) (hv : HsV V0 v b vc) (hsm : Sm b) (hval : Val b) (hN : (vers b).length = N) (hs : N ≤ 1000) (hM : (fatesF b N []).length ≤ M) (hfs : v = .agg fs) :
    IterP B Tryz.prog n 67 #[.pointer (some ⟨Hb, 0, none⟩)] (fun x : List Int × Value => #[x.2]) (ItI V0 Hb fs) (PxF B N M) (fun xs => xs.map (·.1) = fatesF b N []) := by
  intro l J ow W hB hJ hI hY h0
  refine callsIn_wide.2 ?_
  have HV := Lib.hid hv
  obtain ⟨vs, rfl, h1, h2⟩ := hv
  have e1 := h1.form
  rw [hN] at e1
  obtain ⟨Av, cv, rfl⟩ := e1
  obtain ⟨A2, c2, rfl⟩ := h2.form
  injection hfs with hfs
  subst hfs
  obtain ⟨len, hlen⟩ : ∃ len, b.chs.length = len := ⟨_, rfl⟩
  rw [hlen] at HV hI
  have hJ0 := h0 W.heap.size (Nat.le_refl _)
  have hbW := (hI _ _ _ _ (Nat.le_refl _) hJ0).1
  have hbW0 : W.drew.heap[Hb]? = some (.cells #[.slice Av N cv, .slice A2 len c2] 55) := (hI _ _ _ _ (Nat.le_refl _) hJ0).2.2
  have hbl2 : Hb < W.drew.heap.size := (Array.getElem?_eq_some_iff.1 hbW0).1
  have HBox := Lib.hid (cells_two hbW0)
  have HBox2 := Lib.hid (cells_two (w := W.drew.alloc (.cells (madeCells #[.int .i64 0] N) 3)) ((Below.heap_alloc _ _ Hb hbl2).trans hbW0))
  have HnN := Lib.hid (show N ≤ 1000 from hs)
  obtain ⟨PostW, hPost⟩ : ∃ P : World → Prop, P = fun Y => ∃ xs ow', xs.map (·.1) = fatesF b N [] ∧ J W.heap.size xs ow' Y := ⟨_, rfl⟩
  have hgr : W.grownBy (W.drew.alloc (.cells (madeCells #[.int .i64 0] N) 3)) (some W.heap.size) := grown_of_below ((Below.refl _ _).drew.alloc (by simp) _) _
  have HCall := Lib.hid (show Calls Tryz.prog 68 #[.agg #[.slice Av N cv, .slice A2 len c2], .slice (some ⟨W.drew.heap.size, 0, none⟩) 0 N, .func (.yield l) #[] #[]] (W.drew.alloc (.cells (madeCells #[.int .i64 0] N) 3)) (fun e Y' => e = .returned (.bool true) ∧ PostW Y') from by
    have hc := extend_any V0 _ _ b B W.heap.size l N M (fun pre ow X => J W.heap.size pre ow X) HV.out hsm hval
      ⟨fun pre ow X X' h hg => hJ _ _ _ _ _ (Nat.le_refl _) h hg, fun pre ow X h => (hI _ _ _ _ (Nat.le_refl _) h).1, fun pre ow X h => (hI _ _ _ _ (Nat.le_refl _) h).2.1, fun pre x ow X h hp => yieldAt_wide (hY _ _ _ _ _ (Nat.le_refl _) h hp)⟩
      hN hs N [] [] ow (W.drew.alloc (.cells (madeCells #[.int .i64 0] N) 3)) (by simp) (hJ _ _ _ _ _ (Nat.le_refl _) hJ0 hgr) (by simp; omega)
      (World.ownsRow_made (base := B) (e := 3) (size := 1) W.drew (madeCells #[.int .i64 0] N) N (by simpa using hB) (by unfold maxLen; omega) (by rw [size_madeCells, Nat.mul_one])) (by simpa using hM)
    refine hc.mono ?_
    rintro e Y' ⟨rfl, us, ow', h1, h2, _⟩
    exact ⟨rfl, by rw [hPost]; exact ⟨us, ow', h1, by simpa using h2⟩⟩)
  have HPost := Lib.hid hPost
  clear hPost hgr HV h1 h2 hJ hI hY h0 hJ0 hbW hbW0 hbl2 hsm hval hM
  obtain ⟨Wd, hWd⟩ : ∃ X, W.drew = X := ⟨_, rfl⟩
  rw [hWd] at HBox HBox2 HCall
  have HWd := Lib.hid hWd
  clear hWd
  go_enter Tryz.func67, Tryz.ntmps67
  go_wp2_with fail
  refine wp_mono (Q := onlyN (fun a' Y => FtG Wd PostW (.agg #[.slice Av N cv, .slice A2 len c2]) (.slice Av N cv) Hb N (fun kk => (#[.func (.yield l) #[] #[], .pointer (some ⟨Hb, 0, none⟩), undef] : Array Value).getD kk undef) (fun _ => true) a' Y)) ?_ ?_
  · refine wp_region_done (FtG Wd PostW (.agg #[.slice Av N cv, .slice A2 len c2]) (.slice Av N cv) Hb N (fun kk => (#[.func (.yield l) #[] #[], .pointer (some ⟨Hb, 0, none⟩), undef] : Array Value).getD kk undef)) (by kernel_rfl) (by kernel_rfl) ?_ ?_ ?_
    · exact ⟨rfl, rfl, rfl, rfl, rfl, (fun _ => HWd.out), (fun h => nomatch h), (fun h => nomatch h), (fun h => nomatch h), (fun h => nomatch h), (fun h => nomatch h), (fun h => nomatch h), (fun h => nomatch h), (fun h => nomatch h), (fun h => nomatch h), (fun h => nomatch h), (fun h => nomatch h), (fun h => nomatch h), (fun h => nomatch h)⟩
    · intro dn j o hi hd hD a Y hG
      obtain ⟨tm, ds⟩ := a
      obtain ⟨hsz, t0, t1, t2, hds, pre, mid, fin, e0, e1, e2, e3, e4, e5, e6, o3, o2, o4, o6⟩ := hG
      obtain ⟨fn, rfl⟩ := arr10 hsz
      have hj7 : j < 7 := by
        have := (Array.getElem?_eq_some_iff.1 hi).1
        simpa using this
      simp [Array.getD] at t0 t1 t2
      rcases (show j = 0 ∨ j = 1 ∨ j = 2 ∨ j = 3 ∨ j = 4 ∨ j = 5 ∨ j = 6 by omega) with rfl | rfl | rfl | rfl | rfl | rfl | rfl
      · obtain rfl := Option.some.inj hi
        have n6 : dn 6 = false := by
          cases h : dn 6
          · rfl
          · have := o6 h
            simp_all
        have hbx : Y.cell? ⟨Hb, 0, none⟩ = some (.slice Av N cv) ∧ Y.cell? ⟨Hb, 1, none⟩ = some (.slice A2 len c2) := by
          cases h : dn 4
          · rw [pre h]; exact HBox.out
          · rw [mid h n6]; exact HBox2.out
        obtain ⟨q0, q1⟩ := hbx
        refine wpOp_bare hi rfl ?_
        go_simp
        exact ⟨rfl, rfl, rfl, rfl, hds, pre, mid, fin, (fun _ => rfl), e1, e2, e3, e4, e5, e6, o3, o2, o4, (fun h => ⟨rfl, (o6 h).2⟩)⟩
      · obtain rfl := Option.some.inj hi
        refine wpOp_bare hi rfl ?_
        go_simp
        exact ⟨rfl, rfl, rfl, rfl, hds, pre, mid, fin, e0, (fun _ => rfl), e2, e3, e4, e5, e6, (fun h => ⟨(o3 h).1, rfl⟩), (fun _ => rfl), (fun h => ⟨rfl, (o4 h).2⟩), o6⟩
      · obtain rfl := Option.some.inj hi
        have n4 : dn 4 = false := by
          cases h : dn 4
          · rfl
          · have := o4 h
            simp_all
        have n6 : dn 6 = false := by
          cases h : dn 6
          · rfl
          · have := o6 h
            simp_all
        have d1 := e1 (hD ⟨1, .data⟩ (by simp) rfl)
        simp [Array.getD] at d1
        have hbx : Y.cell? ⟨Hb, 0, none⟩ = some (.slice Av N cv) ∧ Y.cell? ⟨Hb, 1, none⟩ = some (.slice A2 len c2) := by
          rw [pre n4]; exact HBox.out
        obtain ⟨q0, q1⟩ := hbx
        clear n4 n6
        refine wpOp_bare hi rfl ?_
        go_simp
        exact ⟨rfl, rfl, rfl, rfl, hds, pre, mid, fin, e0, (fun _ => rfl), (fun _ => rfl), e3, e4, e5, e6, (fun h => ⟨rfl, (o3 h).2⟩), (fun _ => hD ⟨1, .data⟩ (by simp) rfl), (fun h => ⟨(o4 h).1, rfl, (o4 h).2.2⟩), o6⟩
      · obtain rfl := Option.some.inj hi
        have d2 := e2 (hD ⟨2, .data⟩ (by simp) rfl)
        simp [Array.getD] at d2
        refine wpOp_bare hi rfl ?_
        go_simp
        exact ⟨rfl, rfl, rfl, rfl, hds, pre, mid, fin, e0, e1, (fun _ => rfl), (fun _ => rfl), e4, e5, e6, (fun _ => ⟨hD ⟨2, .data⟩ (by simp) rfl, o2 (hD ⟨2, .data⟩ (by simp) rfl)⟩), o2, (fun h => ⟨(o4 h).1, (o4 h).2.1, rfl⟩), o6⟩
      · obtain rfl := Option.some.inj hi
        have y3 := hD ⟨3, .data⟩ (by simp) rfl
        obtain ⟨y2, y1⟩ : dn 2 = true ∧ dn 1 = true := o3 y3
        have n6 : dn 6 = false := by
          cases h : dn 6
          · rfl
          · exact absurd (hd.symm.trans (o6 h).2.1) (by decide)
        have d3 := e3 (hD ⟨3, .data⟩ (by simp) rfl)
        simp [Array.getD] at d3
        obtain rfl := pre hd
        refine wpOp_bare hi rfl ?_
        refine make_in _ _ rfl N rfl d3 HnN.out ?_
        exact ⟨rfl, t0, t1, t2, hds, (fun h => nomatch h), (fun _ _ => rfl), (fun h => absurd (n6.symm.trans h) (by decide)), e0, e1, e2, e3, (fun _ => rfl), e5, e6, o3, o2, (fun _ => ⟨y1, y2, hD ⟨3, .data⟩ (by simp) rfl⟩), (fun h => ⟨(o6 h).1, rfl, (o6 h).2.2⟩)⟩
      · obtain rfl := Option.some.inj hi
        refine wpOp_bare hi rfl ?_
        go_simp
        exact ⟨rfl, rfl, rfl, rfl, hds, pre, mid, fin, e0, e1, e2, e3, e4, (fun _ => rfl), e6, o3, o2, o4, (fun h => ⟨(o6 h).1, (o6 h).2.1, rfl⟩)⟩
      · obtain rfl := Option.some.inj hi
        have y4 := hD ⟨4, .data⟩ (by simp) rfl
        have d0 := e0 (hD ⟨0, .data⟩ (by simp) rfl)
        simp [Array.getD] at d0
        have d4 := e4 (hD ⟨4, .data⟩ (by simp) rfl)
        simp [Array.getD] at d4
        have d5 := e5 (hD ⟨5, .data⟩ (by simp) rfl)
        simp [Array.getD] at d5
        have HC := Lib.hid (HCall.out)
        obtain rfl := mid y4 hd
        refine wpOp_bare hi rfl ?_
        go_simp
        (with_reducible refine HC.out.mono ?_)
        rintro e Y' ⟨rfl, hP⟩
        exact ⟨rfl, rfl, rfl, rfl, hds, (fun h => absurd (y4.symm.trans h) (by decide)), (fun _ h => nomatch h), (fun _ => hP), (fun _ => rfl), e1, e2, e3, (fun _ => rfl), (fun _ => rfl), (fun _ => trivial), o3, o2, o4, (fun _ => ⟨hD ⟨0, .data⟩ (by simp) rfl, y4, hD ⟨5, .data⟩ (by simp) rfl⟩)⟩
    · intro dn a Y hdn hG
      exact hG.all fun j hj => hdn j (by simpa using hj)
  · rintro e ⟨tm, ds⟩ Y h
    cases e with
    | normal =>
      obtain ⟨hsz, t0, t1, t2, hds, pre, mid, fin, e0, e1, e2, e3, e4, e5, e6, o3, o2, o4, o6⟩ := h
      obtain ⟨fn, rfl⟩ := arr10 hsz
      have hds' : ds = [] := hds
      subst hds'
      have HP := Lib.hid (fin rfl)
      clear fin
      rw [HPost.out] at HP
      obtain ⟨xs, ow', q1, q2⟩ := HP.out
      refine bodyPost_end (results_none rfl _ _ _) rfl ?_
      exact ⟨⟨_, rfl⟩, W.heap.size, xs, ow', Nat.le_refl _, q1, q2⟩
    | _ => exact h.elim
end Go.Proofs.YtplpogonkfnafaaGreat
namespace Go.Proofs.YtplpogonkfnafaaGreat
open Go.RowKit Go.Nm Go.Shelf
attribute [local go_sem] Oper.semAt_some

theorem IterP.mono {α : Type} {B : Nat} {P : Program} {n gf : Nat} {lb : Array Value} {encs : α → Array Value} {I I' : Nat → List α → Option Nat → World → Prop} {Px : Nat → List α → α → Option Nat → World → Prop} {S : List α → Prop} (h : IterP B P n gf lb encs I' Px S)
    (hi : ∀ g pre ow X, B ≤ g → I g pre ow X → I' g pre ow X) : IterP B P n gf lb encs I Px S :=
  fun l J ow W hB hJ hI hY h0 => h l J ow W hB hJ (fun g pre ow X hg hj => hi g pre ow X (by omega) (hI g pre ow X hg hj)) hY h0
theorem infoS : ∃ i, Tryz.prog.info? 22 = some i ∧ i.zero = some (.slice none 0 0) ∧ i.size = 1 ∧ i.bytes = 24 := by
  have h : (Tryz.prog.info? 22).map (fun i => (i.zero, i.size, i.bytes)) = some (some (.slice none 0 0), 1, 24) := by kernel_rfl
  cases h2 : Tryz.prog.info? 22 with
  | none => rw [h2] at h; cases h
  | some i =>
    rw [h2] at h
    simp only [Option.map_some, Option.some.injEq, Prod.mk.injEq] at h
    exact ⟨i, rfl, h.1, h.2.1, h.2.2⟩
theorem InN.chg {B g : Nat} {ow ow' : Option Nat} {X Y : World} {u : Value} {L : List Int} (h1 : InN B g ow X u L) (h2 : InN B g ow Y u L) (hg : Grows ow ow' X) : InN B g ow' Y u L := by
  obtain ⟨A, c, e, a1, a2, a3⟩ := h2
  obtain ⟨A', c', e', _, _, b3⟩ := h1
  rw [e] at e'
  injection e' with e1 _ _
  subst e1
  refine ⟨A, c, e, a1, a2, fun i x hx => ?_⟩
  obtain ⟨ad, ha, hb, hB, hn, ho, hc⟩ := a3 i x hx
  obtain ⟨ad', ha', hb', _⟩ := b3 i x hx
  rw [ha] at ha'
  injection ha' with ha'
  subst ha'
  refine ⟨ad, ha, hb, hB, hn, fun e => ?_, hc⟩
  rcases hg with h | ⟨k, h, hk⟩
  · rw [h] at e; exact ho e
  · rw [h] at e; cases e; omega
theorem PxF.own (B N M g : Nat) (pre : List (List Int × Value)) (x : List Int × Value) (ow : Option Nat) (X X' : World) (row : Option Nat) (h : PxF B N M g pre x ow X) (hg : X.grownBy X' row) (hr : ∀ r, row = some r → ∃ o : Obj, X.heap[r]? = some o ∧ o.isCells = false) : PxF B N M g pre x ow X' :=
  ⟨h.1, h.2.1, Nat.lt_of_lt_of_le h.2.2.1 hg.size, h.2.2.2.grown hg fun r e => .inr (.inr (.inr (hr r e)))⟩
/-- a call's own row of slices, each with these numbers: what the loop of AppendSeq keeps -/
structure AppF (w V0 : World) (g : Nat) (pre : List (List Int × Value)) (ow : Option Nat) (X : World) : Prop where
  bel0 : Below V0.heap.size V0 X
  bel : Below w.heap.size w X
  row : ∃ v, Boxed X w.heap.size 28 v ∧ X.ownsRow (w.heap.size + 1) 22 1 v pre.length (pre.map (·.2)) ∧ ow = v.ownBlock
  els : ∀ x ∈ pre, InN (w.heap.size + 1) g ow X x.2 x.1
  ng : ∀ k, ow = some k → k ≠ g
theorem AppF.cellsAt {w V0 : World} {g : Nat} {pre : List (List Int × Value)} {ow : Option Nat} {X : World} (h : AppF w V0 g pre ow X) : ∀ k, ow = some k → ∃ cs t fr, X.heap[k]? = some (.cells cs t fr) := by
  intro k hk
  obtain ⟨v, h1, h2, h3⟩ := h.row
  rcases h2.2 with ⟨rfl, _⟩ | ⟨g', cap, cur, rfl, _, hg', _⟩
  · rw [h3] at hk; simp [Value.ownBlock] at hk
  · rw [h3] at hk; simp [Value.ownBlock] at hk
    subst hk; exact ⟨_, _, _, hg'⟩
theorem AppF.own {w V0 : World} (hb0 : V0.heap.size ≤ w.heap.size) (g : Nat) (pre : List (List Int × Value)) (ow : Option Nat) (X X' : World) (row : Option Nat) (h : AppF w V0 g pre ow X) (hg : X.grownBy X' row) (hr : ∀ r, row = some r → w.heap.size + 1 ≤ r ∧ (r = g ∨ ∃ o : Obj, X.heap[r]? = some o ∧ o.isCells = false)) : AppF w V0 g pre ow X' := by
  have hc := h.cellsAt
  obtain ⟨v, h1, h2, h3⟩ := h.row
  refine ⟨h.bel0.grown hg h.bel0.size (fun k e => by have := (hr k e).1; omega), h.bel.grown hg h.bel.size (fun k e => by have := (hr k e).1; omega), ⟨v, h1.kept hg (fun e => by have := (hr _ e.symm).1; omega), h2.kept hg ?_, h3⟩, fun x hx => (h.els x hx).grown hg fun r e => by
    rcases (hr r e).2 with h | h
    · exact .inl h
    · exact .inr (.inr (.inr h)), h.ng⟩
  cases ho : v.ownBlock with
  | none => exact .inl rfl
  | some k =>
    refine .inr (fun e => ?_)
    rcases (hr k e.symm).2 with h' | ⟨o, ho2, hcl⟩
    · exact h.ng k (h3.trans ho) h'
    · obtain ⟨cs, t, fr, h4⟩ := hc k (h3.trans ho)
      rw [h4] at ho2; cases ho2; cases hcl
/-- the value is a slice of slices of these numbers -/
theorem AppF.vs {w V0 : World} {g : Nat} {pre : List (List Int × Value)} {ow : Option Nat} {X : World} (h : AppF w V0 g pre ow X) {v : Value} (h2 : X.ownsRow (w.heap.size + 1) 22 1 v pre.length (pre.map (·.2))) : VsSl X X.heap.size v (pre.map (·.1)) := by
  have hv : VsA X X.heap.size (pre.map (·.2)) (pre.map (·.1)) := ⟨by simp, fun i u L hu hL => by
    rw [List.getElem?_map] at hu hL
    cases hp : pre[i]? with
    | none => rw [hp] at hu; cases hu
    | some p =>
      rw [hp] at hu hL
      simp only [Option.map_some, Option.some.injEq] at hu hL
      subst hu; subst hL
      exact (h.els p (List.mem_of_getElem? hp)).sl⟩
  rcases h2.2 with ⟨rfl, h0⟩ | ⟨g', cap, cur, rfl, hb, hg, h1, h4, h5, h6⟩
  · have := List.length_eq_zero_iff.1 h0
    subst this
    exact ⟨none, 0, [], rfl, hv, fun i u hu => by simp at hu⟩
  · refine ⟨some ⟨g', 0, none⟩, cap, _, by rw [List.length_map], hv, fun i u hu => ⟨_, rfl, (Array.getElem?_eq_some_iff.1 hg).1, h2.cells (g := g') rfl i u hu⟩⟩
theorem own_in {W : World} {B n z : Nat} {t : TypeId} {v : Value} {xs : List Value} (h : W.ownsRow B t z v n xs) {D : Nat} (hK : W.heap[D]? = some (.deferred (some []))) : (W.putObj D (.deferred none)).ownsRow B t z v n xs := ownsRow_putObj h (.deferred none) hK rfl
theorem VsSl.put {W : World} {v : Value} {LL : List (List Int)} (h : VsSl W W.heap.size v LL) {D : Nat} {o : Obj} (o' : Obj) (hK : W.heap[D]? = some o) (ho : o.isCells = false) : VsSl (W.putObj D o') (W.putObj D o').heap.size v LL := by
  have key : ∀ (ad : Addr) (u : Value), W.cell? ad = some u → (W.putObj D o').cell? ad = some u := fun ad u hc => by
    have hne : ad.block ≠ D := fun e => by
      have hc2 := hc
      unfold World.cell? at hc2
      rw [e, hK] at hc2
      cases o <;> simp_all [Obj.isCells]
    exact (World.cell?_of_block (World.putObj_heap_other hne)).trans hc
  have hsz : (W.putObj D o').heap.size = W.heap.size := by simp
  obtain ⟨A, c, vals, e, h1, h2⟩ := h
  refine ⟨A, c, vals, e, ⟨h1.1, fun i u L hu hL => ?_⟩, fun i u hu => ?_⟩
  · obtain ⟨A3, c3, e3, h3, h4, h5⟩ := h1.2 i u L hu hL
    refine ⟨A3, c3, e3, h3, h4, fun j x hx => ?_⟩
    obtain ⟨ad, ha, hb, hc⟩ := h5 j x hx
    exact ⟨ad, ha, by rw [hsz]; exact hb, key _ _ hc⟩
  · obtain ⟨ad, ha, hb, hc⟩ := h2 i u hu
    exact ⟨ad, ha, by rw [hsz]; exact hb, key _ _ hc⟩
set_option maxRecDepth 100000 in
set_option maxHeartbeats 4000000 in
theorem appendSeq_fates (n : Nat) (hn : 4 ≤ n) (V0 w : World) (v vc : Value) (b : Bk) (N Hb : Nat) (hv : HsV V0 v b vc) (hsm : Sm b) (hval : Val b) (hN : (vers b).length = N) (hs : N ≤ 1000) (hM : (fatesF b N []).length ≤ 100000) (hbox : ∃ fs, v = .agg fs ∧ V0.heap[Hb]? = some (.cells fs 55)) (hw : Below V0.heap.size V0 w) :
    CallsIn Fence.wide n Tryz.prog 66 #[.slice none 0 0, .func (.func 67) #[] #[.pointer (some ⟨Hb, 0, none⟩)]] w
      fun e w' => (∃ r, e = .returned r ∧ VsSl w' w'.heap.size r (fatesF b N [])) ∧ Below w.heap.size w w' := by
  obtain ⟨fs, hfs, hbx⟩ := hbox
  obtain ⟨i0, hi, hz0, hz1, hz2⟩ := infoS
  have hnew := below_new (w := w) (.cells #[.slice none 0 0] 28)
  have h0 : ∀ g, w.heap.size + 1 ≤ g → AppF w V0 g [] none (w.alloc (.cells #[.slice none 0 0] 28)) := fun g hg =>
    ⟨hw.trans (hnew.mono hw.size), hnew, ⟨.slice none 0 0, Boxed.new w _ _, World.ownsRow_nil _ _ _ _, rfl⟩, fun x hx => by simp at hx, fun k e => by cases e⟩
  have hsz := hw.size
  refine callsIn_of_wp_marks Tryz.func66 rfl trivial ?_ rfl
  simp only [Tryz.ntmps66, List.size_toArray, List.length_cons, List.length_nil, Nat.reduceAdd, Nat.reduceSub, Array.replicate_succ, Array.replicate_zero, List.push_toArray, List.append_toArray, List.nil_append, List.cons_append]
  gi_wp2_with fail
  have hsz0 : (w.alloc (.cells #[.slice none 0 0] 28)).heap.size = w.heap.size + 1 := by simp
  obtain ⟨W0, hW0⟩ : ∃ W0, w.alloc (.cells #[.slice none 0 0] 28) = W0 := ⟨_, rfl⟩
  rw [hW0] at h0 hsz0 ⊢
  clear hW0 hnew
  refine wp_rangeP (by omega) (gf := 67) (lb := #[.pointer (some ⟨Hb, 0, none⟩)]) rfl (enters_of Tryz.func67 (by kernel_rfl) rfl) (encs := fun x : List Int × Value => #[x.2]) (fun _ => rfl)
    (AppF w V0) (fun g pre ow X X' row hg h hgr hr => AppF.own hsz g pre ow X X' row h hgr (by rw [hsz0] at hr; exact hr)) (fun g pre ow W _ h => h.cellsAt) none (fun g hg => h0 g (by omega)) (PxF.own W0.heap.size N 100000)
    ((fates_iter V0 v vc fs b W0.heap.size N 100000 (n - 1) Hb hv hsm hval hN hs hM hfs).mono fun g pre ow X hg h => ⟨h.bel0, fun k e => ⟨by obtain ⟨cs, t, fr, hc⟩ := h.cellsAt k e; exact (Array.getElem?_eq_some_iff.1 hc).1, h.ng k e⟩, (h.bel0.block _ (Array.getElem?_eq_some_iff.1 hbx).1).trans hbx⟩)
    (fun x a' W => a' = { tmps := #[.slice none 0 0, .func (.func 67) #[] #[.pointer (some ⟨Hb, 0, none⟩)], .pointer (some ⟨w.heap.size, 0, none⟩), undef, .slice none 0 0, x.2, .func (.func 67) #[] #[.pointer (some ⟨Hb, 0, none⟩)], x.2, undef, undef, undef, undef, undef], defers := [] })
    (fun x a' _ X Y row hs hg hr => hs)
    ?assign ?body ?done
  case assign =>
    rintro l g pre ⟨f, u⟩ ow W K hgb hI hK
    gi_wp2_with fail
    exact hK _ _ (.inl rfl) rfl
  case body =>
    rintro l g pre ⟨f, u⟩ ow a' W hl ⟨r, hr⟩ hgb hI rfl ⟨hfl, hpl, hglt, hin⟩
    obtain ⟨Au, cu, e, _⟩ := hin.form
    dsimp only at e hin hfl
    subst e
    have HI := Lib.hid hI
    have HIn := Lib.hid hin
    obtain ⟨v', h1, h2, rfl⟩ := hI.row
    have c1 := h1.cell
    have f1 := h1.frozen
    have HN := Lib.hid (cell_one_new W (.slice Au f.length cu) 22)
    have H2 := Lib.hid (h2.alloc (.cells #[.slice Au f.length cu] 22))
    have HC := Lib.hid (show pre.length + 1 ≤ maxLen ∧ (pre.length + 1) * 24 ≤ 140737488355328 ∧ w.heap.size + 1 ≤ (W.alloc (.cells #[.slice Au f.length cu] 22)).heap.size from
      ⟨by unfold maxLen; omega, by omega, by have := hI.bel.size; have := h1.lt; simp; omega⟩)
    have HM := Lib.hid (show pre.map (·.2) ++ [Value.slice Au f.length cu] = (pre ++ [(f, Value.slice Au f.length cu)]).map (·.2) from by simp)
    clear hin hI hfl
    gi_wp2_with (gi_at_builtin; refine wpListIn_append_own_at _ rfl _ _ 28 rfl (w.heap.size + 1) 22 i0 (.slice none 0 0) 1 24 Tryz.underlying28 hi hz0 hz1 hz2 rfl (by decide) v' pre.length (pre.map (·.2)) rfl H2.out ⟨W.heap.size, 0, none⟩ 1 1 [.slice Au f.length cu] rfl rfl HN.out (by intro x hx; simp at hx; subst hx; rfl) HC.out.1 HC.out.2.1 HC.out.2.2 ?_; intro v3 w1 hown hg1 hnn hob; obtain ⟨g', cap', rfl⟩ := ownsRow_succ hown; have hv1 := (h1.alloc (.cells #[.slice Au f.length cu] 22)).kept hg1 (h1.not_row (by decide) h2); have c2 := hv1.cell; have f2 := hv1.frozen)
    have hne : ∀ k, k < w.heap.size + 1 → some k ≠ v'.ownBlock := fun k hk e => by have := (h2.lt k e.symm).1; omega
    have hs1 : W.heap.size + 1 ≤ w1.heap.size := by have := hg1.size; simpa using this
    have hI := HI.out
    have hgW : some g ≠ v'.ownBlock := fun e => hI.ng g e.symm rfl
    have hgro : Grows v'.ownBlock (Value.slice (some ⟨g', 0, none⟩) (pre.length + 1) cap').ownBlock W := by
      rcases hob with e | e
      · exact .inl e
      · exact .inr ⟨_, e, by simp⟩
    have hbx : (W.alloc (.cells #[.slice Au f.length cu] 22)).grownBy w1 v'.ownBlock := hg1
    refine ⟨(KA.alloc _ _ _ _).trans ((KA.grown hg1).trans (KA.set _ _ _ (by omega))), (Value.slice (some ⟨g', 0, none⟩) (pre.length + 1) cap').ownBlock, ⟨?_, ?_, ⟨_, hv1.set _, ?_, rfl⟩, ?_, ?_⟩, hgro⟩
    · have hb1 : Below V0.heap.size V0 w1 := ((hI.bel0).alloc hI.bel0.size _).grown hg1 (by have := hI.bel0.size; simp; omega) (fun k e => by have := (h2.lt k e).1; omega)
      exact hb1.setCell (p := ⟨_, _, none⟩) (by show V0.heap.size ≤ w.heap.size; exact hsz) _
    · have hb1 : Below w.heap.size w w1 := ((hI.bel).alloc hI.bel.size _).grown hg1 (by have := hI.bel.size; simp; omega) (fun k e => by have := (h2.lt k e).1; omega)
      exact hb1.setCell (p := ⟨_, _, none⟩) (Nat.le_refl _) _
    · rw [List.length_append, ← HM.out]
      exact hown.kept (grownBy_setCell' _ _ _) (.inr (hv1.not_row (by decide) hown).symm)
    · have step : ∀ (q : List Int) (z : Value), InN (w.heap.size + 1) g v'.ownBlock W z q → InN (w.heap.size + 1) g (Value.slice (some ⟨g', 0, none⟩) (pre.length + 1) cap').ownBlock (w1.setCell ⟨w.heap.size, 0, none⟩ (.slice (some ⟨g', 0, none⟩) (pre.length + 1) cap')) z q := by
        intro q z hq
        have q1 := hq.grown (World.grownBy_alloc W (.cells #[.slice Au f.length cu] 22) none) (fun r e => by cases e)
        have q2 := q1.grown hg1 (fun r e => .inr (.inl e.symm))
        have q3 := hq.chg q2 hgro
        exact q3.grown (grownBy_setCell' _ _ _) (fun r e => by cases e; exact .inr (.inr (.inl (by omega))))
      intro x hx
      rcases List.mem_append.1 hx with hx | hx
      · exact step _ _ (hI.els x hx)
      · simp at hx
        subst hx
        exact step _ _ (by rw [← hsz0]; exact HIn.out)
    · intro k e
      rcases hgro with h | ⟨j, h, hj⟩
      · exact hI.ng k (h.symm.trans e)
      · rw [h] at e
        injection e with e
        omega
  case done =>
    rintro D g xs ow W hD hgb hS hI hK
    obtain ⟨v', h1, h2, rfl⟩ := hI.row
    have c1 := h1.cell
    have hvs := hI.vs h2
    rw [hS] at hvs
    obtain ⟨A, c, rfl⟩ := hvs.form
    have HVs := Lib.hid hvs
    have HB := Lib.hid hI.bel
    clear hvs hI h2
    gi_wp2_with fail
    refine ⟨by simp, .inl ⟨_, _, rfl, run_takeDeferred hK, ?_⟩⟩
    exact ⟨_, results_tmp rfl _ _ _, ⟨_, rfl, HVs.out.put _ hK rfl⟩, HB.out.trans (belowK_b (w := w) (Nat.le_refl _) W D _ _ (by omega) hK rfl rfl)⟩
theorem collect_fates (V0 w : World) (v vc : Value) (b : Bk) (N Hb : Nat) (hv : HsV V0 v b vc) (hsm : Sm b) (hval : Val b) (hN : (vers b).length = N) (hs : N ≤ 1000) (hM : (fatesF b N []).length ≤ 100000) (hbox : ∃ fs, v = .agg fs ∧ V0.heap[Hb]? = some (.cells fs 55)) (hw : Below V0.heap.size V0 w) :
    Calls Tryz.prog 39 #[.func (.func 67) #[] #[.pointer (some ⟨Hb, 0, none⟩)]] w
      fun e w' => (∃ r, e = .returned r ∧ VsSl w' w'.heap.size r (fatesF b N [])) ∧ Below w.heap.size w w' := by
  have HA := Lib.hid ((callsIn_wide (n := 4)).1 (appendSeq_fates 4 (Nat.le_refl _) V0 w v vc b N Hb hv hsm hval hN hs hM hbox hw))
  clear hv hbox hw hsm hval hM
  go_enter Tryz.func39, Tryz.ntmps39
  go_wp2_with fail
  (with_reducible refine HA.out.mono ?_)
  rintro e w1 ⟨⟨r, rfl, hr⟩, hB⟩
  obtain ⟨A, c, rfl⟩ := hr.form
  have HR := Lib.hid (And.intro hr hB)
  clear hr hB
  go_wp2_with fail
  go_ret
  exact ⟨⟨_, rfl, HR.out.1⟩, HR.out.2⟩
end Go.Proofs.YtplpogonkfnafaaGreat
