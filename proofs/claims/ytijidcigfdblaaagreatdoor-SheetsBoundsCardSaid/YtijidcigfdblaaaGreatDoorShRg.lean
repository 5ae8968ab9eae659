/- A range over a function whose iterator reads what the body writes: the caller's invariant may be read by the iterator. One block of cells, ow, may be the body's to write. -/
import Derived.Test.YtijidcigfdblaaaGreatDoorShPb
import Derived.RangeFuncNested
import Derived.RangeFuncBound
import Derived.RangeFuncCalls
import Derived.RangeFuncLeaves
import Derived.WalkKit
import Derived.OwnWalkIn
import Derived.TacticsInMore
import Derived.LoopNIn
import Derived.LoopIn
namespace Go.Proofs.YtijidcigfdblaaaGreatDoor
open Go.RowKit

/-- all that lay from B on lies as it lay, but for the block ow -/
def Grows (ow ow' : Option Nat) (W : World) : Prop := ow' = ow ∨ ∃ k, ow' = some k ∧ W.heap.size ≤ k

/-- what an iterator is good for, for whatever loop keeps the invariant I -/
def IterG {α : Type} (B : Nat) (P : Program) (n : Nat) (gf : Nat) (lb : Array Value) (encs : α → Array Value) (I : List α → Option Nat → World → Prop) (Px : List α → α → Prop) (S Sp : List α → Prop) : Prop :=
  ∀ (l : Nat) (J : List α → Option Nat → World → Prop) (Jx : List α → World → Prop) (ow : Option Nat) (W : World), B ≤ W.heap.size →
    (∀ ow, AbidesFrom W.heap.size (fun pre => J pre ow)) → AbidesFrom W.heap.size Jx → (∀ pre ow X, J pre ow X → I pre ow X) →
    (∀ pre x ow X, J pre ow X → Px pre x → YieldAt Fence.wide (n - 1) P l (encs x) X fun e X' =>
      (e = .returned (.bool true) ∧ ∃ ow', J (pre ++ [x]) ow' X' ∧ Grows ow ow' X ∧ KA B ow X X') ∨ (e = .returned (.bool false) ∧ Jx (pre ++ [x]) X')) →
    J [] ow W →
    CallsIn Fence.wide n P gf (#[.func (.yield l) #[] #[]] ++ lb) W fun e W' => (∃ v, e = .returned v) ∧ ((∃ xs ow', S xs ∧ J xs ow' W') ∨ ∃ pre, Sp pre ∧ Jx pre W')

/-- how the body of a round may be left -/
def postG {α : Type} (B : Nat) (I : List α → Option Nat → World → Prop) (Ix : Code → List α → World → Prop) (xs : List α) (ow : Option Nat) (W : World) : Exit → Act → World → Prop
  | .normal, _, W' => KA B ow W W' ∧ ∃ ow', I xs ow' W' ∧ Grows ow ow' W
  | .ret, _, W' => KA B ow W W' ∧ Ix .ret xs W'
  | .exit id, _, W' => KA B ow W W' ∧ Ix (.exit id) xs W'
  | .goto t, _, W' => KA B ow W W' ∧ Ix (.goto t) xs W'
  | .panic _, _, _ => False
  | .outgrown, _, _ => False

theorem wp_rangeG {α : Type} {P : Program} {n : Nat} {g : Operand} {ps : Array Tmp} {assign body : Code} {Q : Exit → Act → World → Prop} {a : Act} {w : World} (h1 : 1 ≤ n)
    {gf : Nat} {lb : Array Value} (hg : a.eval g = .func (.func gf) #[] lb) (eg : ∀ args w, (callFunc gf args).run P w = .ok (.enter gf args) w)
    {encs : α → Array Value} (hps : ∀ x, (encs x).size = ps.size) (I : List α → Option Nat → World → Prop) (Ix : Code → List α → World → Prop) (hI : ∀ ow, OwnFrom w.heap.size (fun pre => I pre ow)) (hIx : ∀ c, OwnFrom w.heap.size (Ix c))
    (hIow : ∀ pre ow W, I pre ow W → ∀ k, ow = some k → ∃ cs t fr, W.heap[k]? = some (.cells cs t fr)) (ow0 : Option Nat) (h0 : I [] ow0 w) {Px : List α → α → Prop} {S Sp : List α → Prop} (hseq : IterG w.heap.size P (n - 1) gf lb encs I Px S Sp)
    (Ax : α → Act → World → Prop) (hAx : ∀ x a', OwnFrom w.heap.size (fun (_ : Unit) W => Ax x a' W))
    (hassign : ∀ (l : Nat) (pre : List α) (x : α) (ow : Option Nat) (W : World) (K : Act → World → Prop), I pre ow W → (∀ a' W', (W' = W ∨ ∃ o, W' = W.alloc o) → Ax x a' W' → K a' W') →
      assign.wpIn (Fence.wide.inRound l) (n - 1 - 1) P (Exit.then K (fun _ _ _ => False)) { tmps := (ps.zip (encs x)).foldl (fun t (p, v) => t.setIfInBounds p v) a.tmps, defers := [] } W)
    (hbody : ∀ (l : Nat) (pre : List α) (x : α) (ow : Option Nat) (a' : Act) (W : World), w.heap.size ≤ l → (∃ r, W.heap[l]? = some (.loop r)) → I pre ow W → Ax x a' W → Px pre x →
      body.wpIn (Fence.wide.inRound l) (n - 1 - 1) P (postG w.heap.size I Ix (pre ++ [x]) ow W) a' W)
    (hdone : ∀ (D : Nat) (xs : List α) (ow : Option Nat) (W : World), w.heap.size ≤ D → S xs → I xs ow W → W.heap[D]? = some (.deferred (some [])) → Q .normal { a with defers := { target := .collected D, args := #[] } :: a.defers } W)
    (hstop : ∀ (D : Nat) (c : Code) (pre : List α) (W : World), w.heap.size ≤ D → Sp pre → Ix c pre W → W.heap[D]? = some (.deferred (some [])) → c.wpIn Fence.wide n P Q { a with defers := { target := .collected D, args := #[] } :: a.defers } W) :
    (Code.rangeFunc g ps assign body).wpIn Fence.wide n P Q a w := by
  refine wpIn_rangeFunc fun fn hfn => ?_
  rw [show Fence.wide.round = none from rfl]
  -- the record of the loop, by its state and its pending jump
  obtain ⟨rc, hrc⟩ : ∃ rc : LoopState → Option Code → Loop, rc = fun st pe => { state := st, pending := pe, fn, tmps := a.tmps, params := ps, assign, body, defers := w.heap.size } := ⟨_, rfl⟩
  obtain ⟨V, hV⟩ : ∃ V, V = (w.alloc (.deferred (some []))).alloc (.loop (rc .ready none)) := ⟨_, rfl⟩
  have vL : V.heap[w.heap.size + 1]? = some (.loop (rc .ready none)) := by
    rw [hV]; have := World.alloc_heap_new (w.alloc (.deferred (some []))) (.loop (rc .ready none)); rwa [World.size_alloc] at this
  have vD : V.heap[w.heap.size]? = some (.deferred (some [])) := by rw [hV]; exact (Below.heap_alloc _ _ _ (by simp)).trans (World.alloc_heap_new w _)
  have vI : I [] ow0 V := by rw [hV]; exact (hI ow0).alloc (s := []) _ ((hI ow0).alloc (s := []) _ h0)
  have vS : V.heap.size = w.heap.size + 2 := by rw [hV]; simp
  have notcell : ∀ {pre ow X k o}, I pre ow X → X.heap[k]? = some o → (∀ cs t fr, o ≠ .cells cs t fr) → some k ≠ ow := fun hi hk hno e => by
    obtain ⟨cs, t, fr, h⟩ := hIow _ _ _ hi _ e.symm
    rw [hk] at h; cases h; exact hno _ _ _ rfl
  refine ⟨w.heap.size + 1, [{ target := .collected w.heap.size, args := #[] }], V, { target := .fn (.func gf) lb, args := #[.func (.yield (w.heap.size + 1)) #[] #[]] }, V, gf, #[.func (.yield (w.heap.size + 1)) #[] #[]] ++ lb, V,
    by rw [hV, hrc]; exact run_enterLoop_outer _ _ _ _ _, by simp only [resolve, hg]; simp [go_sem], fun _ _ => trivial, by simp [invoke, go_sem, eg], fun _ => h1, ?_⟩
  have walk : ∀ {A B : World} {row : Option Nat}, (∀ r, row = some r → V.heap.size ≤ r ∧ ∃ o : Obj, A.heap[r]? = some o ∧ o.isWalk = true) → ∀ r, row = some r → w.heap.size ≤ r ∧ ∃ o : Obj, A.heap[r]? = some o ∧ o.isCells = false :=
    fun hr r e => by obtain ⟨hB, o, ho, hw⟩ := hr r e; exact ⟨by omega, o, ho, Obj.not_cells_of_walk hw⟩
  refine (hseq (w.heap.size + 1)
    (fun pre ow X => I pre ow X ∧ X.heap[w.heap.size + 1]? = some (.loop (rc .ready none)) ∧ X.heap[w.heap.size]? = some (.deferred (some [])))
    (fun pre X => ∃ c, Ix c pre X ∧ X.heap[w.heap.size + 1]? = some (.loop (rc .done (some c))) ∧ X.heap[w.heap.size]? = some (.deferred (some [])))
    ow0 V (by omega)
    (fun ow s A B row hs hgr hr => ⟨hI ow s A B row hs.1 hgr (walk (B := B) hr), (grownBy_keeps hgr (fun r e => (hr r e).2) hs.2.1 rfl).trans hs.2.1, (grownBy_keeps hgr (fun r e => (hr r e).2) hs.2.2 rfl).trans hs.2.2⟩)
    (fun s A B row hs hgr hr => by
      obtain ⟨c, hc, hl, hk⟩ := hs
      exact ⟨c, hIx c s A B row hc hgr (walk (B := B) hr), (grownBy_keeps hgr (fun r e => (hr r e).2) hl rfl).trans hl, (grownBy_keeps hgr (fun r e => (hr r e).2) hk rfl).trans hk⟩)
    (fun pre ow X h => h.1) ?_ ⟨vI, vL, vD⟩).mono ?_
  · -- a round
    rintro pre x ow X ⟨hi, hl, hk⟩ hpx
    have hy := run_yield (P := P) (args := encs x) hl (by rw [hrc]; exact hps x)
    rw [hrc] at hy
    refine ⟨fn, _, assign, body, hy, roundIn_of_wpIn hfn (hassign _ pre x ow X _ hi ?_)⟩
    intro a' Y hY hax
    have kY : KA w.heap.size ow X Y := by
      rcases hY with rfl | ⟨o, rfl⟩
      · exact KA.refl _ _ _
      · exact KA.alloc _ _ _ _
    have iY : I pre ow Y := by
      rcases hY with rfl | ⟨o, rfl⟩
      · exact hi
      · exact (hI ow).alloc (s := pre) _ hi
    have nl : some (w.heap.size + 1) ≠ ow := notcell hi hl (fun _ _ _ e => by cases e)
    have nd : some w.heap.size ≠ ow := notcell hi hk (fun _ _ _ e => by cases e)
    have lY := kY.same _ _ (by omega) hl nl
    have dY := kY.same _ _ (Nat.le_refl _) hk nd
    have ltY : w.heap.size + 1 < Y.heap.size := (Array.getElem?_eq_some_iff.1 lY).1
    obtain ⟨Z, hZ⟩ : ∃ Z, Z = Y.putObj (w.heap.size + 1) (.loop { rc .ready none with state := .busy }) := ⟨_, rfl⟩
    have lZ : Z.heap[w.heap.size + 1]? = some (.loop { rc .ready none with state := .busy }) := by rw [hZ]; exact World.putObj_heap_same ltY
    have dZ : Z.heap[w.heap.size]? = some (.deferred (some [])) := by rw [hZ]; exact (World.putObj_heap_other (by omega)).trans dY
    have sZ : Z.heap.size = Y.heap.size := by rw [hZ]; simp
    have oZ : ∀ k, k ≠ w.heap.size + 1 → Z.heap[k]? = Y.heap[k]? := fun k hne => by rw [hZ]; exact World.putObj_heap_other hne
    have iZ : I pre ow Z := by rw [hZ]; exact (hI ow).putObj (s := pre) _ iY (by omega) lY rfl
    have aZ : Ax x a' Z := by rw [hZ]; exact (hAx x a').putObj (s := ()) _ hax (by omega) lY rfl
    refine ⟨Z, by rw [hZ]; exact run_beginRound lY (by rw [hrc]), ?_⟩
    refine wpIn_mono (hbody _ pre x ow a' Z (by omega) ⟨_, lZ⟩ iZ aZ hpx) ?_
    -- behind the body: the record is there, and is written once more
    have fin : ∀ (jump : Option Code) (T : World), KA w.heap.size ow Z T →
        (Instr.endRound (w.heap.size + 1) jump).run P T = .ok (.bool jump.isNone) (T.putObj (w.heap.size + 1) (.loop (rc (if jump.isNone then .ready else .done) jump))) ∧ T.heap[w.heap.size + 1]? = some (.loop { rc .ready none with state := .busy }) ∧
        (T.putObj (w.heap.size + 1) (.loop (rc (if jump.isNone then .ready else .done) jump))).heap[w.heap.size + 1]? = some (.loop (rc (if jump.isNone then .ready else .done) jump)) ∧
        (T.putObj (w.heap.size + 1) (.loop (rc (if jump.isNone then .ready else .done) jump))).heap[w.heap.size]? = some (.deferred (some [])) := fun jump T hT => by
      have lT := hT.same _ _ (by omega) lZ nl
      have r := run_endRound (P := P) jump lT
      rw [hrc] at r lT ⊢
      exact ⟨r, lT, World.putObj_heap_same (Array.getElem?_eq_some_iff.1 lT).1, (World.putObj_heap_other (by omega)).trans (hT.same _ _ (Nat.le_refl _) dZ nd)⟩
    rintro e a3 T hp
    cases e with
    | normal =>
      obtain ⟨hT, ow', hi3, hgr⟩ := hp
      obtain ⟨hr, lT, l4, d4⟩ := fin none T hT
      refine ⟨_, _, hr, .inl ⟨rfl, ow', ⟨(hI ow').putObj (s := pre ++ [x]) _ hi3 (by omega) lT rfl, l4, d4⟩, ?_, ?_⟩⟩
      · rcases hgr with h | ⟨k, h, hk'⟩
        · exact .inl h
        · exact .inr ⟨k, h, by have := kY.size; omega⟩
      · refine ⟨by have := kY.size; have := hT.size; simp; omega, fun k o hB hko hne => ?_⟩
        by_cases ek : k = w.heap.size + 1
        · subst ek
          rw [hl] at hko; cases hko
          exact l4
        · rw [World.putObj_heap_other ek]
          exact hT.same k o hB ((oZ k ek).trans (kY.same k o hB hko hne)) hne
    | ret =>
      obtain ⟨hT, hi3⟩ := hp
      obtain ⟨hr, lT, l4, d4⟩ := fin (some .ret) T hT
      exact ⟨_, _, hr, .inr ⟨rfl, .ret, (hIx _).putObj _ hi3 (by omega) lT rfl, l4, d4⟩⟩
    | exit id =>
      obtain ⟨hT, hi3⟩ := hp
      obtain ⟨hr, lT, l4, d4⟩ := fin (some (.exit id)) T hT
      exact ⟨_, _, hr, .inr ⟨rfl, .exit id, (hIx _).putObj _ hi3 (by omega) lT rfl, l4, d4⟩⟩
    | goto t =>
      obtain ⟨hT, hi3⟩ := hp
      obtain ⟨hr, lT, l4, d4⟩ := fin (some (.goto t)) T hT
      exact ⟨_, _, hr, .inr ⟨rfl, .goto t, (hIx _).putObj _ hi3 (by omega) lT rfl, l4, d4⟩⟩
    | panic ch => exact hp.elim
    | outgrown => exact hp.elim
  · -- behind the iterator
    rintro e T ⟨⟨v, rfl⟩, (⟨xs, ow', hS, hi, hl, hk⟩ | ⟨pre, hSp, c, hi, hl, hk⟩)⟩
    · exact ⟨none, _, by have := run_endLoop (P := P) hl (by rw [hrc]; simp); rw [hrc] at this; exact this, hdone _ xs ow' _ (Nat.le_refl _) hS ((hI ow').putObj (s := xs) _ hi (by omega) hl rfl) ((World.putObj_heap_other (by omega)).trans hk)⟩
    · exact ⟨some c, _, by have := run_endLoop (P := P) hl (by rw [hrc]; simp); rw [hrc] at this; exact this, hstop _ c pre _ (Nat.le_refl _) hSp ((hIx c).putObj _ hi (by omega) hl rfl) ((World.putObj_heap_other (by omega)).trans hk)⟩
end Go.Proofs.YtijidcigfdblaaaGreatDoor
