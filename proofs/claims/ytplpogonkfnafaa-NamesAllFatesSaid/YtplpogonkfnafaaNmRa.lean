/- A range over a function whose iterator writes a block of cells that it lays itself, g: what the caller keeps may speak of g, and stands whatever becomes of it. -/
import Derived.RangeFuncNested
import Derived.RangeFuncBound
import Derived.RangeFuncCalls
import Derived.RangeFuncLeaves
import Derived.WalkKit
import Derived.OwnWalkIn
import Derived.TacticsInMore
import Derived.LoopNIn
import Derived.LoopIn
namespace Go.Proofs.Ytplpogonkfnafaa
open Go.RowKit

/-- all that lay from B on lies as it lay, but for the block ow -/
structure KA (B : Nat) (ow : Option Nat) (W W' : World) : Prop where
  size : W.heap.size ≤ W'.heap.size
  same : ∀ k o, B ≤ k → W.heap[k]? = some o → some k ≠ ow → W'.heap[k]? = some o
theorem KA.refl (B : Nat) (ow : Option Nat) (W : World) : KA B ow W W := ⟨Nat.le_refl _, fun _ _ _ h _ => h⟩
theorem KA.trans {B : Nat} {ow : Option Nat} {X Y Z : World} (h : KA B ow X Y) (k : KA B ow Y Z) : KA B ow X Z :=
  ⟨Nat.le_trans h.size k.size, fun i o hB hi hne => k.same i o hB (h.same i o hB hi hne) hne⟩
theorem KA.alloc (B : Nat) (ow : Option Nat) (W : World) (o : Obj) : KA B ow W (W.alloc o) :=
  ⟨by simp, fun k _ _ hk _ => (Below.heap_alloc W o k (Array.getElem?_eq_some_iff.1 hk).1).trans hk⟩
theorem KA.of_below {B : Nat} {ow : Option Nat} {W W' : World} (h : Below W.heap.size W W') : KA B ow W W' :=
  ⟨h.size, fun k _ _ hk _ => (h.block k (Array.getElem?_eq_some_iff.1 hk).1).trans hk⟩
theorem KA.set {B : Nat} {ow : Option Nat} (W : World) (b : Nat) (v : Value) (h : b < B) : KA B ow W (W.setCell ⟨b, 0, none⟩ v) :=
  ⟨by simp, fun k _ _ hko _ => (Below.heap_setCell _ _ _ k (by show k ≠ b; omega)).trans hko⟩
theorem KA.grown {B : Nat} {ow : Option Nat} {W W' : World} (h : W.grownBy W' ow) : KA B ow W W' := ⟨h.size, fun k _ _ hk hne => (h.block k (Array.getElem?_eq_some_iff.1 hk).1 hne).trans hk⟩
def Grows (ow ow' : Option Nat) (W : World) : Prop := ow' = ow ∨ ∃ k, ow' = some k ∧ W.heap.size ≤ k
theorem Grows.refl (ow : Option Nat) (W : World) : Grows ow ow W := .inl rfl
theorem Grows.trans {a b c : Option Nat} {W W' : World} (h : Grows a b W) (k : Grows b c W') (hs : W.heap.size ≤ W'.heap.size) : Grows a c W := by
  rcases k with rfl | ⟨k, rfl, hk⟩
  · exact h
  · exact .inr ⟨k, rfl, by omega⟩

/-- what an iterator is good for that writes a block g of its own laying -/
def IterP {α : Type} (B : Nat) (P : Program) (n : Nat) (gf : Nat) (lb : Array Value) (encs : α → Array Value) (I : Nat → List α → Option Nat → World → Prop) (Px : Nat → List α → α → Option Nat → World → Prop) (S : List α → Prop) : Prop :=
  ∀ (l : Nat) (J : Nat → List α → Option Nat → World → Prop) (ow : Option Nat) (W : World), B ≤ W.heap.size →
    (∀ g pre ow X X', W.heap.size ≤ g → J g pre ow X → X.grownBy X' (some g) → J g pre ow X') → (∀ g pre ow X, W.heap.size ≤ g → J g pre ow X → I g pre ow X) →
    (∀ g pre x ow X, W.heap.size ≤ g → J g pre ow X → Px g pre x ow X → YieldAt Fence.wide (n - 1) P l (encs x) X fun e X' =>
      e = .returned (.bool true) ∧ ∃ ow', J g (pre ++ [x]) ow' X' ∧ Grows ow ow' X ∧ KA B ow X X') →
    (∀ g, W.heap.size ≤ g → J g [] ow W) →
    CallsIn Fence.wide n P gf (#[.func (.yield l) #[] #[]] ++ lb) W fun e W' => (∃ v, e = .returned v) ∧ ∃ g xs ow', W.heap.size ≤ g ∧ S xs ∧ J g xs ow' W'

/-- how the body of a round may be left -/
def postP {α : Type} (B : Nat) (I : Nat → List α → Option Nat → World → Prop) (g : Nat) (xs : List α) (ow : Option Nat) (W : World) : Exit → Act → World → Prop
  | .normal, _, W' => KA B ow W W' ∧ ∃ ow', I g xs ow' W' ∧ Grows ow ow' W
  | _, _, _ => False

theorem wp_rangeP {α : Type} {P : Program} {n : Nat} {g : Operand} {ps : Array Tmp} {assign body : Code} {Q : Exit → Act → World → Prop} {a : Act} {w : World} (h1 : 1 ≤ n)
    {gf : Nat} {lb : Array Value} (hg : a.eval g = .func (.func gf) #[] lb) (eg : ∀ args w, (callFunc gf args).run P w = .ok (.enter gf args) w)
    {encs : α → Array Value} (hps : ∀ x, (encs x).size = ps.size) (I : Nat → List α → Option Nat → World → Prop)
    (hI : ∀ g pre ow X X' row, w.heap.size ≤ g → I g pre ow X → X.grownBy X' row → (∀ r, row = some r → w.heap.size ≤ r ∧ (r = g ∨ ∃ o : Obj, X.heap[r]? = some o ∧ o.isCells = false)) → I g pre ow X')
    (hIow : ∀ g pre ow W, w.heap.size ≤ g → I g pre ow W → ∀ k, ow = some k → ∃ cs t fr, W.heap[k]? = some (.cells cs t fr)) (ow0 : Option Nat) (h0 : ∀ g, w.heap.size ≤ g → I g [] ow0 w)
    {Px : Nat → List α → α → Option Nat → World → Prop} (hPx : ∀ g pre x ow X X' row, Px g pre x ow X → X.grownBy X' row → (∀ r, row = some r → ∃ o : Obj, X.heap[r]? = some o ∧ o.isCells = false) → Px g pre x ow X')
    {S : List α → Prop} (hseq : IterP w.heap.size P (n - 1) gf lb encs I Px S)
    (Ax : α → Act → World → Prop) (hAx : ∀ x a', OwnFrom w.heap.size (fun (_ : Unit) W => Ax x a' W))
    (hassign : ∀ (l : Nat) (g : Nat) (pre : List α) (x : α) (ow : Option Nat) (W : World) (K : Act → World → Prop), w.heap.size ≤ g → I g pre ow W → (∀ a' W', (W' = W ∨ ∃ o, W' = W.alloc o) → Ax x a' W' → K a' W') →
      assign.wpIn (Fence.wide.inRound l) (n - 1 - 1) P (Exit.then K (fun _ _ _ => False)) { tmps := (ps.zip (encs x)).foldl (fun t (p, v) => t.setIfInBounds p v) a.tmps, defers := [] } W)
    (hbody : ∀ (l : Nat) (g : Nat) (pre : List α) (x : α) (ow : Option Nat) (a' : Act) (W : World), w.heap.size ≤ l → (∃ r, W.heap[l]? = some (.loop r)) → w.heap.size ≤ g → I g pre ow W → Ax x a' W → Px g pre x ow W →
      body.wpIn (Fence.wide.inRound l) (n - 1 - 1) P (postP w.heap.size I g (pre ++ [x]) ow W) a' W)
    (hdone : ∀ (D : Nat) (g : Nat) (xs : List α) (ow : Option Nat) (W : World), w.heap.size ≤ D → w.heap.size ≤ g → S xs → I g xs ow W → W.heap[D]? = some (.deferred (some [])) → Q .normal { a with defers := { target := .collected D, args := #[] } :: a.defers } W) :
    (Code.rangeFunc g ps assign body).wpIn Fence.wide n P Q a w := by
  refine wpIn_rangeFunc fun fn hfn => ?_
  rw [show Fence.wide.round = none from rfl]
  obtain ⟨rc, hrc⟩ : ∃ rc : LoopState → Option Code → Loop, rc = fun st pe => { state := st, pending := pe, fn, tmps := a.tmps, params := ps, assign, body, defers := w.heap.size } := ⟨_, rfl⟩
  obtain ⟨V, hV⟩ : ∃ V, V = (w.alloc (.deferred (some []))).alloc (.loop (rc .ready none)) := ⟨_, rfl⟩
  have vL : V.heap[w.heap.size + 1]? = some (.loop (rc .ready none)) := by
    rw [hV]; have := World.alloc_heap_new (w.alloc (.deferred (some []))) (.loop (rc .ready none)); rwa [World.size_alloc] at this
  have vD : V.heap[w.heap.size]? = some (.deferred (some [])) := by rw [hV]; exact (Below.heap_alloc _ _ _ (by simp)).trans (World.alloc_heap_new w _)
  have iA : ∀ {g pre ow X} (o : Obj), w.heap.size ≤ g → I g pre ow X → I g pre ow (X.alloc o) := fun o hgb h => hI _ _ _ _ _ none hgb h (World.grownBy_alloc _ o none) (fun r e => by cases e)
  have iP : ∀ {g pre ow X} {l : Nat} {o : Obj} (o' : Obj), w.heap.size ≤ g → I g pre ow X → w.heap.size ≤ l → X.heap[l]? = some o → o.isCells = false → I g pre ow (X.putObj l o') :=
    fun o' hgb h hl ho hc => hI _ _ _ _ _ (some _) hgb h (grownBy_putObj' _ _ o') (fun r e => by cases e; exact ⟨hl, .inr ⟨_, ho, hc⟩⟩)
  have vI : ∀ g, w.heap.size ≤ g → I g [] ow0 V := fun g hgb => by rw [hV]; exact iA _ hgb (iA _ hgb (h0 g hgb))
  have vS : V.heap.size = w.heap.size + 2 := by rw [hV]; simp
  have notcell : ∀ {g pre ow X k o}, w.heap.size ≤ g → I g pre ow X → X.heap[k]? = some o → (∀ cs t fr, o ≠ .cells cs t fr) → some k ≠ ow := fun hgb hi hk hno e => by
    obtain ⟨cs, t, fr, h⟩ := hIow _ _ _ _ hgb hi _ e.symm
    rw [hk] at h; cases h; exact hno _ _ _ rfl
  refine ⟨w.heap.size + 1, [{ target := .collected w.heap.size, args := #[] }], V, { target := .fn (.func gf) lb, args := #[.func (.yield (w.heap.size + 1)) #[] #[]] }, V, gf, #[.func (.yield (w.heap.size + 1)) #[] #[]] ++ lb, V,
    by rw [hV, hrc]; exact run_enterLoop_outer _ _ _ _ _, by simp only [resolve, hg]; simp [go_sem], fun _ _ => trivial, by simp [invoke, go_sem, eg], fun _ => h1, ?_⟩
  refine (hseq (w.heap.size + 1)
    (fun g pre ow X => I g pre ow X ∧ X.heap[w.heap.size + 1]? = some (.loop (rc .ready none)) ∧ X.heap[w.heap.size]? = some (.deferred (some [])))
    ow0 V (by omega)
    (fun g pre ow A B hgb hs hgr => ⟨hI _ _ _ _ _ _ (by omega) hs.1 hgr (fun r e => by cases e; exact ⟨by omega, .inl rfl⟩), (hgr.block _ (Array.getElem?_eq_some_iff.1 hs.2.1).1 (fun e => by cases e; omega)).trans hs.2.1, (hgr.block _ (Array.getElem?_eq_some_iff.1 hs.2.2).1 (fun e => by cases e; omega)).trans hs.2.2⟩)
    (fun g pre ow X _ h => h.1) ?_ (fun g hgb => ⟨vI g (by omega), vL, vD⟩)).mono ?_
  · -- a round
    rintro g pre x ow X hgb ⟨hi, hl, hk⟩ hpx
    have hgw : w.heap.size ≤ g := by omega
    have hy := run_yield (P := P) (args := encs x) hl (by rw [hrc]; exact hps x)
    rw [hrc] at hy
    refine ⟨fn, _, assign, body, hy, roundIn_of_wpIn hfn (hassign _ g pre x ow X _ hgw hi ?_)⟩
    intro a' Y hY hax
    have kY : KA w.heap.size ow X Y := by
      rcases hY with rfl | ⟨o, rfl⟩
      · exact KA.refl _ _ _
      · exact KA.alloc _ _ _ _
    have iY : I g pre ow Y := by
      rcases hY with rfl | ⟨o, rfl⟩
      · exact hi
      · exact iA _ hgw hi
    have pY : Px g pre x ow Y := by
      rcases hY with rfl | ⟨o, rfl⟩
      · exact hpx
      · exact hPx _ _ _ _ _ _ none hpx (World.grownBy_alloc _ o none) (fun r e => by cases e)
    have nl : some (w.heap.size + 1) ≠ ow := notcell hgw hi hl (fun _ _ _ e => by cases e)
    have nd : some w.heap.size ≠ ow := notcell hgw hi hk (fun _ _ _ e => by cases e)
    have lY := kY.same _ _ (by omega) hl nl
    have dY := kY.same _ _ (Nat.le_refl _) hk nd
    have ltY : w.heap.size + 1 < Y.heap.size := (Array.getElem?_eq_some_iff.1 lY).1
    obtain ⟨Z, hZ⟩ : ∃ Z, Z = Y.putObj (w.heap.size + 1) (.loop { rc .ready none with state := .busy }) := ⟨_, rfl⟩
    have lZ : Z.heap[w.heap.size + 1]? = some (.loop { rc .ready none with state := .busy }) := by rw [hZ]; exact World.putObj_heap_same ltY
    have dZ : Z.heap[w.heap.size]? = some (.deferred (some [])) := by rw [hZ]; exact (World.putObj_heap_other (by omega)).trans dY
    have sZ : Z.heap.size = Y.heap.size := by rw [hZ]; simp
    have oZ : ∀ k, k ≠ w.heap.size + 1 → Z.heap[k]? = Y.heap[k]? := fun k hne => by rw [hZ]; exact World.putObj_heap_other hne
    have iZ : I g pre ow Z := by rw [hZ]; exact iP _ hgw iY (by omega) lY rfl
    have pZ : Px g pre x ow Z := by rw [hZ]; exact hPx _ _ _ _ _ _ (some _) pY (grownBy_putObj' _ _ _) (fun r e => by cases e; exact ⟨_, lY, rfl⟩)
    have aZ : Ax x a' Z := by rw [hZ]; exact (hAx x a').putObj (s := ()) _ hax (by omega) lY rfl
    refine ⟨Z, by rw [hZ]; exact run_beginRound lY (by rw [hrc]), ?_⟩
    refine wpIn_mono (hbody _ g pre x ow a' Z (by omega) ⟨_, lZ⟩ hgw iZ aZ pZ) ?_
    rintro e a3 T hp
    cases e with
    | normal =>
      obtain ⟨hT, ow', hi3, hgr⟩ := hp
      have lT := hT.same _ _ (by omega) lZ nl
      have hr := run_endRound (P := P) none lT
      rw [hrc] at hr
      refine ⟨_, _, hr, rfl, ow', ⟨iP _ hgw hi3 (by omega) lT rfl, ?_, ?_⟩, ?_, ?_⟩
      · rw [hrc]; exact World.putObj_heap_same (Array.getElem?_eq_some_iff.1 lT).1
      · exact (World.putObj_heap_other (by omega)).trans (hT.same _ _ (Nat.le_refl _) dZ nd)
      · rcases hgr with h | ⟨k, h, hk'⟩
        · exact .inl h
        · exact .inr ⟨k, h, by have := kY.size; omega⟩
      · refine ⟨by have := kY.size; have := hT.size; simp; omega, fun k o hB hko hne => ?_⟩
        by_cases ek : k = w.heap.size + 1
        · subst ek
          rw [hl] at hko; cases hko
          rw [hrc]; exact World.putObj_heap_same (Array.getElem?_eq_some_iff.1 lT).1
        · rw [World.putObj_heap_other ek]
          exact hT.same k o hB ((oZ k ek).trans (kY.same k o hB hko hne)) hne
    | _ => exact hp.elim
  · rintro e T ⟨⟨v, rfl⟩, g, xs, ow', hgb, hS, hi, hl, hk⟩
    exact ⟨none, _, by have := run_endLoop (P := P) hl (by rw [hrc]; simp); rw [hrc] at this; exact this, hdone _ g xs ow' _ (Nat.le_refl _) (by omega) hS (iP _ (by omega) hi (by omega) hl rfl) ((World.putObj_heap_other (by omega)).trans hk)⟩

/-- how many calls are left says nothing under the wide fence -/
theorem yieldAt_wide {m k : Nat} {P : Program} {l : Nat} {args : Array Value} {W : World} {R : Ending → World → Prop} (h : YieldAt Fence.wide m P l args W R) : YieldAt Fence.wide k P l args W R := by
  obtain ⟨fn, tmps, assign, body, hy, h1, h2⟩ := h
  exact ⟨fn, tmps, assign, body, hy, h1, fun c cs _ => h2 c cs (room_wide _)⟩
end Go.Proofs.Ytplpogonkfnafaa
