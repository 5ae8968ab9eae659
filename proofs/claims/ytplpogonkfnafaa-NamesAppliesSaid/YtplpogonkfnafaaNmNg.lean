/- The reference: Apply. -/
import Derived.Test.YtplpogonkfnafaaNmNf
namespace Go.Proofs.Ytplpogonkfnafaa
open Go.RowKit Go.Nm

def EI (W : World) (x : Ch) (vf vt : Value) : Prop := InSl W W.heap.size vf x.fr ∧ InSl W W.heap.size vt x.to
theorem add_add_one (ad : Addr) (i k : Nat) (h : k < 3) : ad.add (i * 3 + k) = if k = 0 then ad.add (i * 3) else ⟨(ad.add (i * 3)).block, (ad.add (i * 3)).off + k, none⟩ := by
  by_cases h0 : k = 0
  · subst h0; simp
  · rw [if_neg h0]
    unfold Addr.add
    by_cases hi : i = 0
    · subst hi
      simp [h0]
    · rw [if_neg (show ¬ i * 3 + k = 0 by omega), if_neg (show ¬ i * 3 = 0 by omega)]
      simp [Nat.add_assoc]
/-- the cells of a slice of changes -/
theorem ch_vals {W : World} {ad : Addr} {n c : Nat} {L : List Ch} (h : ChSl W W.heap.size (.slice (some ad) n c) L) : ∃ vals, Els (EI W) L vals ∧ (∀ j u, vals[j]? = some u → W.cell? (ad.add j) = some u) ∧ ∀ u ∈ vals, u.oneCell' = true := by
  obtain ⟨A, c', e, hA⟩ := h
  injection e with e1 e2 e3
  subst e1
  have key : ∀ k, k ≤ L.length → ∃ vals, Els (EI W) (L.take k) vals ∧ (∀ j u, vals[j]? = some u → W.cell? (ad.add j) = some u) ∧ ∀ u ∈ vals, u.oneCell' = true := by
    intro k
    induction k with
    | zero => intro _; exact ⟨[], by simpa using Els.nil (EI W), fun j u h => by simp at h, fun u h => by simp at h⟩
    | succ k ih =>
      intro hk
      obtain ⟨vals, h1, h2, h3⟩ := ih (by omega)
      have hx := List.getElem?_eq_getElem (show k < L.length by omega)
      obtain ⟨ad', vf, vt, e, _, c0, c1, c2, hf, ht⟩ := hA k _ hx
      injection e with e
      subst e
      have hl : vals.length = k * 3 := by rw [h1.1, List.length_take]; congr 1; omega
      refine ⟨vals ++ [.int .i64 L[k].yr, vf, vt], ?_, fun j u hj => ?_, fun u hu => ?_⟩
      · rw [show L.take (k + 1) = L.take k ++ [L[k]] from by rw [List.take_add_one, hx]; rfl]
        exact h1.snoc ⟨hf, ht⟩
      · by_cases hjl : j < vals.length
        · rw [List.getElem?_append_left hjl] at hj
          exact h2 j u hj
        · rw [List.getElem?_append_right (by omega), hl] at hj
          rcases (show j - k * 3 = 0 ∨ j - k * 3 = 1 ∨ j - k * 3 = 2 by have := (List.getElem?_eq_some_iff.1 hj).1; simp at this; omega) with e | e | e
          · rw [e] at hj; simp at hj; subst hj
            rw [show j = k * 3 by omega]; exact c0
          · rw [e] at hj; simp at hj; subst hj
            rw [show j = k * 3 + 1 by omega, add_add_one ad k 1 (by omega)]; exact c1
          · rw [e] at hj; simp at hj; subst hj
            rw [show j = k * 3 + 2 by omega, add_add_one ad k 2 (by omega)]; exact c2
      · rcases List.mem_append.1 hu with hu | hu
        · exact h3 u hu
        · simp at hu
          obtain ⟨_, _, rfl, _⟩ := hf.form
          obtain ⟨_, _, rfl, _⟩ := ht.form
          rcases hu with rfl | rfl | rfl <;> rfl
  have := key L.length (Nat.le_refl _)
  rwa [List.take_length] at this
/-- an append of some changes to an own row -/
theorem run_append_chs {o : Oper} {a : Act} {w W : World} {K : Act → World → Prop} {Q : Exit → Act → World → Prop} {B : Nat} {vs u : Value} {L : List Ch} (s x : Operand) (ho : o.op = .call { callee := .builtin .append, args := #[s, x], argTypes := #[23, 23] })
    (hs : a.eval s = vs) (h : w.ownsRow B 52 3 vs 0 []) (hB : B ≤ w.heap.size) (hx : a.eval x = u) (hu : ChSl W W.heap.size u L) (hw : Below W.heap.size W w) (hn : L.length ≤ 100000)
    (hK : ∀ v' w' vals, w'.ownsRow B 52 3 v' L.length vals → Els (EI W) L vals → w.grownBy w' vs.ownBlock → (v'.ownBlock = vs.ownBlock ∨ v'.ownBlock = some w.heap.size) → K (a.put o.dst v') w') : o.wp Try.prog a w K Q := by
  obtain ⟨i0, hi0, hz0, hz1, hz2⟩ := infoC
  obtain ⟨A, c, rfl, hA⟩ := id hu
  cases A with
  | none =>
    have h0 : L = [] := by
      cases L with
      | nil => rfl
      | cons y L => obtain ⟨_, _, _, e, _⟩ := hA 0 y rfl; cases e
    subst h0
    have hrun := run_append_nil (P := Try.prog) (w := w) B 23 o.type 52 i0 3 c Try.underlying23 hi0 vs 0 [] h
    unfold Oper.wp
    simp [execOp, ho, resolve, invoke, builtin, hs, hx, hrun, Result.andThen]
    exact hK vs w [] h (Els.nil _) (grown_of_below (Below.refl _ _) _) (.inl rfl)
  | some ad =>
    obtain ⟨vals, h1, h2, h3⟩ := ch_vals hu
    have hcell : ∀ j u, vals[j]? = some u → w.cell? (ad.add j) = some u := fun j u hj => by
      have hb := World.block_lt_of_cell? _ _ (h2 j u hj)
      exact (hw.cell hb).trans (h2 j u hj)
    obtain ⟨v', w', hr', g2, g3, _, g5⟩ := run_append_own_at (P := Try.prog) (w := w) B 23 o.type 52 i0 _ 3 56 Try.underlying23 hi0 hz0 hz1 hz2 rfl (by decide) vs 0 [] h ad L.length c vals h1.1 hcell h3 (by unfold maxLen; omega) (by omega) hB
    unfold Oper.wp execOp
    simp only [ho, resolve, invoke, builtin, Sem.run_bind, Sem.run_pure, Result.andThen_ok, List.map_toArray, List.map_cons, List.map_nil, hs, hx, hr']
    rw [Nat.zero_add, List.nil_append] at g2
    exact hK v' w' vals g2 h1 g3 g5
def Rw (B : Nat) (W : World) (L : List Ch) (X : World) (v : Value) : Prop := ∃ vals, X.ownsRow B 52 3 v L.length vals ∧ Els (EI W) L vals
theorem Rw.step {B : Nat} {W X Y : World} {L : List Ch} {v : Value} (h : Rw B W L X v) (hb : Below X.heap.size X Y) : Rw B W L Y v := by
  obtain ⟨vals, h1, h2⟩ := h; exact ⟨vals, own_step h1 hb, h2⟩
/-- a row of one change -/
def C1 (x : Ch) (B : Nat) (vf vt : Value) (X : World) (r : Value) : Prop := ∃ g, r = .slice (some ⟨g, 0, none⟩) 1 1 ∧ B ≤ g ∧ X.heap[g]? = some (.cells #[.int .i64 x.yr, vf, vt] 52)
theorem C1.step {x : Ch} {B : Nat} {vf vt : Value} {X Y : World} {r : Value} (h : C1 x B vf vt X r) (hb : Below X.heap.size X Y) : C1 x B vf vt Y r := by
  obtain ⟨g, e, h0, h1⟩ := h; exact ⟨g, e, h0, (hb.block _ (Array.getElem?_eq_some_iff.1 h1).1).trans h1⟩
theorem C1.keep {x : Ch} {B : Nat} {vf vt : Value} {X Y : World} {r u : Value} (h : C1 x B vf vt X r) (hs : Sep u r) (hg : X.grownBy Y u.ownBlock) : C1 x B vf vt Y r := by
  obtain ⟨g, e, h0, h1⟩ := h
  exact ⟨g, e, h0, (hg.block _ (Array.getElem?_eq_some_iff.1 h1).1 (fun e2 => hs g e2.symm (by rw [e]; rfl))).trans h1⟩
structure RqI (V W : World) (L : List Ch) (x : Ch) (R : World → Prop) (bp cs ov op vf vt : Value) (dn : Nat → Bool) (val : Nat → Value) (X : World) : Prop where
  s1 : dn 1 = true → val 1 = bp
  s2 : dn 2 = true → val 2 = cs
  s4 : dn 4 = true → val 4 = ov
  s7 : dn 7 = true → val 7 = op
  bel : dn 8 = false → Below V.heap.size V X
  e0 : dn 0 = true → dn 3 = false → X.ownsRow V.heap.size 52 3 (val 0) 0 []
  e3 : dn 3 = true → dn 6 = false → Rw V.heap.size W L X (val 3)
  e5 : dn 5 = true → dn 6 = false → C1 x V.heap.size vf vt X (val 5)
  p05 : dn 0 = true → dn 3 = false → dn 5 = true → Sep (val 0) (val 5)
  e6 : dn 6 = true → dn 8 = false → Rw V.heap.size W (L ++ [x]) X (val 6)
  e8 : dn 8 = true → R X
section
variable {V W : World} {L : List Ch} {x : Ch} {R : World → Prop} {bp cs ov op vf vt : Value} {dn : Nat → Bool} {val : Nat → Value} {X Y : World}
theorem RqI.op1 (h : RqI V W L x R bp cs ov op vf vt dn val X) : RqI V W L x R bp cs ov op vf vt (andB dn 1) (updV val 1 (bp)) X :=
  ⟨(fun _ => rfl), h.s2, h.s4, h.s7, h.bel, h.e0, h.e3, h.e5, h.p05, h.e6, h.e8⟩
theorem RqI.op2 (h : RqI V W L x R bp cs ov op vf vt dn val X) : RqI V W L x R bp cs ov op vf vt (andB dn 2) (updV val 2 (cs)) X :=
  ⟨h.s1, (fun _ => rfl), h.s4, h.s7, h.bel, h.e0, h.e3, h.e5, h.p05, h.e6, h.e8⟩
theorem RqI.op4 (h : RqI V W L x R bp cs ov op vf vt dn val X) : RqI V W L x R bp cs ov op vf vt (andB dn 4) (updV val 4 (ov)) X :=
  ⟨h.s1, h.s2, (fun _ => rfl), h.s7, h.bel, h.e0, h.e3, h.e5, h.p05, h.e6, h.e8⟩
theorem RqI.op7 (h : RqI V W L x R bp cs ov op vf vt dn val X) : RqI V W L x R bp cs ov op vf vt (andB dn 7) (updV val 7 (op)) X :=
  ⟨h.s1, h.s2, h.s4, (fun _ => rfl), h.bel, h.e0, h.e3, h.e5, h.p05, h.e6, h.e8⟩
theorem RqI.op0 (h : RqI V W L x R bp cs ov op vf vt dn val X) (n3 : dn 3 = false) (n6 : dn 6 = false) (n8 : dn 8 = false) : RqI V W L x R bp cs ov op vf vt (andB dn 0) (updV val 0 (.slice (some ⟨X.heap.size, 0, none⟩) 0 0)) ((X.alloc (.cells #[] 52))) :=
  ⟨h.s1, h.s2, h.s4, h.s7, (fun n => (h.bel n).trans ((below_new _).mono (h.bel n).size)), (fun _ _ => World.ownsRow_lit (size := 3) X #[] 0 (h.bel n8).size (by unfold maxLen; omega) rfl), (fun d => f_t n3 d), (fun d n => (h.e5 d n).step (below_new _)), (fun _ _ d g e e2 => by have e3 : X.heap.size = g := (by injection e); obtain ⟨g5, h5, _, h6⟩ := h.e5 d n6; have e4 : g5 = g := (by have e5 : (val 5).ownBlock = some g := e2; rw [h5] at e5; injection e5); have := (Array.getElem?_eq_some_iff.1 h6).1; omega), (fun d => f_t n6 d), (fun d => f_t n8 d)⟩
theorem RqI.op3 (h : RqI V W L x R bp cs ov op vf vt dn val X) (y0 : dn 0 = true) (n3 : dn 3 = false) (n6 : dn 6 = false) (n8 : dn 8 = false) {u : Value} (hR : Rw V.heap.size W L Y u) (hg : X.grownBy Y (val 0).ownBlock) : RqI V W L x R bp cs ov op vf vt (andB dn 3) (updV val 3 (u)) (Y) :=
  ⟨h.s1, h.s2, h.s4, h.s7, (fun n => (h.bel n).grown hg (h.bel n).size (fun r e => ((h.e0 y0 n3).lt r e).1)), (fun _ n => nomatch n), (fun _ _ => hR), (fun d n => (h.e5 d n).keep (h.p05 y0 n3 d) hg), (fun _ n => nomatch n), (fun d => f_t n6 d), (fun d => f_t n8 d)⟩
theorem RqI.op5 (h : RqI V W L x R bp cs ov op vf vt dn val X) (n6 : dn 6 = false) (n8 : dn 8 = false) : RqI V W L x R bp cs ov op vf vt (andB dn 5) (updV val 5 (.slice (some ⟨X.heap.size, 0, none⟩) 1 1)) ((X.alloc (.cells #[.int .i64 x.yr, vf, vt] 52))) :=
  ⟨h.s1, h.s2, h.s4, h.s7, (fun n => (h.bel n).trans ((below_new _).mono (h.bel n).size)), (fun d n => own_step (h.e0 d n) (below_new _)), (fun d n => (h.e3 d n).step (below_new _)), (fun _ _ => ⟨X.heap.size, rfl, (h.bel n8).size, World.alloc_heap_new X _⟩), (fun d n _ => (Sep.fresh (h.e0 d n) 1 1).symm), (fun d => f_t n6 d), (fun d => f_t n8 d)⟩
theorem RqI.op6 (h : RqI V W L x R bp cs ov op vf vt dn val X) (y3 : dn 3 = true) (n6 : dn 6 = false) (n8 : dn 8 = false) {u : Value} (hR : Rw V.heap.size W (L ++ [x]) Y u) (hg : X.grownBy Y (val 3).ownBlock) : RqI V W L x R bp cs ov op vf vt (andB dn 6) (updV val 6 (u)) (Y) :=
  ⟨h.s1, h.s2, h.s4, h.s7, (fun n => (h.bel n).grown hg (h.bel n).size (fun r e => (by obtain ⟨_, h1, _⟩ := h.e3 y3 n6; exact (h1.lt r e).1))), (fun _ n => f_t n y3), (fun _ n => nomatch n), (fun _ n => nomatch n), (fun _ n => f_t n y3), (fun _ _ => hR), (fun d => f_t n8 d)⟩
theorem RqI.op8 (h : RqI V W L x R bp cs ov op vf vt dn val X) (y3 : dn 3 = true) (y6 : dn 6 = true) {u : Value} (hR : R Y) : RqI V W L x R bp cs ov op vf vt (andB dn 8) (updV val 8 (u)) (Y) :=
  ⟨h.s1, h.s2, h.s4, h.s7, (fun n => nomatch n), (fun _ n => f_t n y3), (fun _ n => f_t n y6), (fun _ n => f_t n y6), (fun _ n => f_t n y3), (fun _ n => nomatch n), (fun _ => hR)⟩
end
section
variable {o : Oper} {a : Act} {w : World} {K : Act → World → Prop} {Q : Exit → Act → World → Prop}
set_option maxRecDepth 100000 in
theorem opNewCs (ho : o.op = .buildSlice 23 0 #[]) (h : K (a.put o.dst (.slice (some ⟨w.heap.size, 0, none⟩) 0 0)) (w.alloc (.cells #[] 52))) : o.wp Try.prog a w K Q := by
  unfold Oper.wp execOp
  simp only [ho]
  go_simp
  exact h
end
theorem openE_nil (b : Bk) : openE b [] = if Val b then 0 else 20 := by unfold openE; simp
theorem apply_out (b : Bk) (x : Ch) : applyOut b x = if Val b then (if b.chs.length = 64 then (⟨[], []⟩, 2) else if Val ⟨b.first, b.chs ++ [x]⟩ then (⟨b.first, b.chs ++ [x]⟩, 0) else (⟨[], []⟩, 1)) else (⟨[], []⟩, 20) := by
  unfold applyOut
  rw [openE_nil, openE_nil]
  by_cases h : Val b
  · by_cases h2 : Val ⟨b.first, b.chs ++ [x]⟩ <;> simp [h, h2]
  · simp [h]
end Go.Proofs.Ytplpogonkfnafaa
