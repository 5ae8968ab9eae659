
/- Turn: its rows while they grow. -/
import Derived.Test.YtplpogonkfnafaaGreatNmTc
import Derived.Test.YtplpogonkfnafaaGreatNmRg
import Derived.Test.YtplpogonkfnafaaGreatNmFi
namespace Go.Proofs.YtplpogonkfnafaaGreat
open Go.RowKit Go.Nm

/-- what a name is turned to, by pairs -/
def tr (y : Int) (Z : List (List Int × Int)) : List Int := (Z.filter fun p => decide (y ∈ p.1)).map fun p => p.2
def turnF (a : List (List Int)) (fr to : List Int) : List (List Int) := to.map fun y => tr y (a.zip fr)
theorem tr_next {y : Int} {Z : List (List Int × Int)} {i : Nat} {l : List Int} {x : Int} (h : Z[i]? = some (l, x)) : tr y (Z.take (i + 1)) = tr y (Z.take i) ++ (if y ∈ l then [x] else []) := by
  unfold tr
  rw [show Z.take (i + 1) = Z.take i ++ [(l, x)] from by rw [List.take_add_one, h]; rfl, List.filter_append, List.map_append]
  by_cases e : y ∈ l <;> simp [e]
theorem tr_len (y : Int) (Z : List (List Int × Int)) : (tr y Z).length ≤ Z.length := by
  unfold tr
  rw [List.length_map]
  exact List.length_filter_le _ _
def updP {α : Type} (f : Nat → α) (k : Nat) (v : α) : Nat → α := fun j => if j = k then v else f j
theorem setCell_grown' (W : World) (b k : Nat) (v : Value) : W.grownBy (W.setCell ⟨b, k, none⟩ v) (some b) :=
  ⟨rfl, rfl, rfl, Nat.le_of_eq (by simp), fun j _ hne => heap_setCell_other W ⟨b, k, none⟩ j v fun h => hne (by rw [h])⟩
theorem add_zero_k (go k : Nat) : (⟨go, 0, none⟩ : Addr).add k = ⟨go, k, none⟩ := by
  unfold Addr.add
  split
  · rename_i h; rw [h]
  · simp
/-- a row of own rows, beside a map -/
structure TuI (W : World) (go nt : Nat) (vals : Nat → Value) (P : Nat → List Int) (mb nm : Nat) (f : Int → Int) (X : World) : Prop where
  mi : MI W mb nm f X
  out : ∃ cs : Array Value, X.heap[go]? = some (.cells cs 22) ∧ cs.size = nt ∧ ∀ k, k < nt → cs[k]? = some (vals k)
  base : W.heap.size ≤ go
  own : ∀ k, k < nt → X.ownsRow W.heap.size 3 1 (vals k) (P k).length (intsV (P k))
  ap : ∀ j k, j < nt → k < nt → j ≠ k → ∀ g, (vals j).ownBlock = some g → (vals k).ownBlock ≠ some g
  off : ∀ k g, k < nt → (vals k).ownBlock = some g → g ≠ go ∧ g ≠ mb
  ne : mb ≠ go
section
variable {W : World} {go nt mb nm : Nat} {vals : Nat → Value} {P : Nat → List Int} {f : Int → Int} {X Y : World}
theorem TuI.bel (h : TuI W go nt vals P mb nm f X) : Below W.heap.size W X := h.mi.bel
theorem TuI.step (h : TuI W go nt vals P mb nm f X) (hb : Below X.heap.size X Y) : TuI W go nt vals P mb nm f Y := by
  obtain ⟨cs, h1, h2, h3⟩ := h.out
  exact ⟨h.mi.step hb, ⟨cs, (hb.block _ (Array.getElem?_eq_some_iff.1 h1).1).trans h1, h2, h3⟩, h.base, fun k hk => own_step (h.own k hk) hb, h.ap, h.off, h.ne⟩
theorem TuI.cell (h : TuI W go nt vals P mb nm f X) {k : Nat} (hk : k < nt) : X.cell? ⟨go, k, none⟩ = some (vals k) := by
  obtain ⟨cs, h1, h2, h3⟩ := h.out
  simp only [World.cell?, h1]
  exact h3 k hk
theorem TuI.froz (h : TuI W go nt vals P mb nm f X) (k : Nat) : X.frozen? ⟨go, k, none⟩ = false := by
  obtain ⟨cs, h1, h2, h3⟩ := h.out
  exact frozen_cells h1 k
theorem TuI.lt (h : TuI W go nt vals P mb nm f X) : go < X.heap.size := by
  obtain ⟨cs, h1, h2, h3⟩ := h.out
  exact (Array.getElem?_eq_some_iff.1 h1).1
theorem TuI.mlt (h : TuI W go nt vals P mb nm f X) : mb < X.heap.size := by
  obtain ⟨_, _, ⟨D, h1, _⟩, _⟩ := h.mi
  exact h1.lt
/-- one of them grows, and is put back into its place -/
theorem TuI.push (h : TuI W go nt vals P mb nm f X) {k : Nat} (hk : k < nt) {x : Int} {v' : Value} (ho : Y.ownsRow W.heap.size 3 1 v' (P k ++ [x]).length (intsV (P k ++ [x]))) (hg : X.grownBy Y (vals k).ownBlock)
    (hob : v'.ownBlock = (vals k).ownBlock ∨ v'.ownBlock = some X.heap.size) :
    TuI W go nt (updP vals k v') (updP P k (P k ++ [x])) mb nm f (Y.setCell ⟨go, k, none⟩ v') ∧ Y.cell? ⟨go, k, none⟩ = some (vals k) ∧ Y.frozen? ⟨go, k, none⟩ = false := by
  obtain ⟨cs, h1, h2, h3⟩ := h.out
  have hgo : Y.heap[go]? = some (.cells cs 22) := (hg.block _ (Array.getElem?_eq_some_iff.1 h1).1 (fun e => (h.off k go hk e.symm).1 rfl)).trans h1
  have hoff' : ∀ g, v'.ownBlock = some g → g ≠ go ∧ g ≠ mb := fun g e => by
    rcases hob with e2 | e2
    · exact h.off k g hk (e2.symm.trans e)
    · have e3 : X.heap.size = g := by have := e2.symm.trans e; injection this
      have := h.lt
      have := h.mlt
      exact ⟨by omega, by omega⟩
  have hst := setCell_grown' Y go k v'
  refine ⟨⟨?_, ?_, h.base, ?_, ?_, ?_, h.ne⟩, ?_, ?_⟩
  · refine ((h.mi.kept hg fun r e => ⟨(h.own k hk).lt r e |>.1, (h.off k r hk e).2⟩).kept hst fun r e => ?_)
    injection e with e
    exact ⟨by have := h.base; omega, fun e2 => h.ne (by omega)⟩
  · refine ⟨cs.setIfInBounds k v', heap_setCell_same Y go k _ _ v' hgo, by simp [h2], fun j hj => ?_⟩
    unfold updP
    by_cases e : j = k
    · subst e
      rw [if_pos rfl, Array.getElem?_setIfInBounds_self_of_lt (by omega)]
    · rw [if_neg e, Array.getElem?_setIfInBounds_ne (by omega)]
      exact h3 j hj
  · intro j hj
    unfold updP
    by_cases e : j = k
    · subst e
      rw [if_pos rfl, if_pos rfl]
      exact ho.kept hst (.inr fun e => by exact (hoff' go e).1 rfl)
    · rw [if_neg e, if_neg e]
      refine ((h.own j hj).kept hg ?_).kept hst (.inr fun e => (h.off j go hj e).1 rfl)
      cases hv : (vals j).ownBlock with
      | none => exact .inl rfl
      | some g => exact .inr fun e2 => h.ap j k hj hk e g hv e2.symm
  · intro i j hi hj hij g hg1
    unfold updP at hg1 ⊢
    by_cases ei : i = k
    · subst ei
      rw [if_pos rfl] at hg1
      rw [if_neg (Ne.symm hij)]
      intro hg2
      rcases hob with e2 | e2
      · exact h.ap j i hj hi (Ne.symm hij) g hg2 (e2.symm.trans hg1)
      · have e3 : X.heap.size = g := by have := e2.symm.trans hg1; injection this
        have := ((h.own j hj).lt g hg2).2
        omega
    · rw [if_neg ei] at hg1
      by_cases ej : j = k
      · subst ej
        rw [if_pos rfl]
        intro hg2
        rcases hob with e2 | e2
        · exact h.ap i j hi hj hij g hg1 (e2.symm.trans hg2)
        · have e3 : X.heap.size = g := by have := e2.symm.trans hg2; injection this
          have := ((h.own i hi).lt g hg1).2
          omega
      · rw [if_neg ej]
        exact h.ap i j hi hj hij g hg1
  · intro j g hj hg1
    unfold updP at hg1
    by_cases e : j = k
    · rw [if_pos e] at hg1; exact hoff' g hg1
    · rw [if_neg e] at hg1; exact h.off j g hj hg1
  · simp only [World.cell?, hgo]
    exact h3 k hk
  · exact frozen_cells hgo k
theorem TuI.sl (h : TuI W go nt vals P mb nm f X) : VsSl X X.heap.size (.slice (some ⟨go, 0, none⟩) nt nt) ((List.range nt).map P) := by
  refine ⟨some ⟨go, 0, none⟩, nt, (List.range nt).map vals, by rw [List.length_map, List.length_range], ⟨by simp, fun i v L hv hL => ?_⟩, fun i u hu => ?_⟩
  · have hi : i < nt := by have := (List.getElem?_eq_some_iff.1 hv).1; simpa using this
    rw [List.getElem?_map, List.getElem?_range hi] at hv hL
    simp only [Option.map_some, Option.some.injEq] at hv hL
    subst hv; subst hL
    exact (show OwN W (vals i) (P i) X from ⟨h.bel, h.own i hi⟩).sl
  · have hi : i < nt := by have := (List.getElem?_eq_some_iff.1 hu).1; simpa using this
    rw [List.getElem?_map, List.getElem?_range hi] at hu
    simp only [Option.map_some, Option.some.injEq] at hu
    subst hu
    refine ⟨⟨go, 0, none⟩, rfl, h.lt, ?_⟩
    rw [add_zero_k]
    exact h.cell hi
end
structure TgI (V : World) (x : Int) (S : Value → World → Prop) (R : World → Prop) (so kv p4 v5 sf iv p8 : Value) (dn : Nat → Bool) (val : Nat → Value) (X : World) : Prop where
  s0 : dn 0 = true → val 0 = so
  s1 : dn 1 = true → val 1 = kv
  s2 : dn 2 = true → val 2 = so
  s3 : dn 3 = true → val 3 = kv
  s4 : dn 4 = true → val 4 = p4
  s5 : dn 5 = true → val 5 = v5
  s6 : dn 6 = true → val 6 = sf
  s7 : dn 7 = true → val 7 = iv
  s8 : dn 8 = true → val 8 = p8
  s9 : dn 9 = true → val 9 = (.int .i64 x)
  s12 : dn 12 = true → val 12 = p4
  bel : dn 11 = false → Below V.heap.size V X
  e10 : dn 10 = true → dn 11 = false → ∃ gb, val 10 = .slice (some ⟨gb, 0, none⟩) 1 1 ∧ X.heap[gb]? = some (.cells #[.int .i64 x] 3)
  e11 : dn 11 = true → dn 13 = false → S (val 11) X
  e13 : dn 13 = true → R X
section
variable {V : World} {x : Int} {S : Value → World → Prop} {R : World → Prop} {so kv p4 v5 sf iv p8 : Value} {dn : Nat → Bool} {val : Nat → Value} {X Y : World}
theorem TgI.op0 (h : TgI V x S R so kv p4 v5 sf iv p8 dn val X) : TgI V x S R so kv p4 v5 sf iv p8 (andB dn 0) (updV val 0 (so)) X :=
  ⟨(fun _ => rfl), h.s1, h.s2, h.s3, h.s4, h.s5, h.s6, h.s7, h.s8, h.s9, h.s12, h.bel, h.e10, h.e11, h.e13⟩
theorem TgI.op1 (h : TgI V x S R so kv p4 v5 sf iv p8 dn val X) : TgI V x S R so kv p4 v5 sf iv p8 (andB dn 1) (updV val 1 (kv)) X :=
  ⟨h.s0, (fun _ => rfl), h.s2, h.s3, h.s4, h.s5, h.s6, h.s7, h.s8, h.s9, h.s12, h.bel, h.e10, h.e11, h.e13⟩
theorem TgI.op2 (h : TgI V x S R so kv p4 v5 sf iv p8 dn val X) : TgI V x S R so kv p4 v5 sf iv p8 (andB dn 2) (updV val 2 (so)) X :=
  ⟨h.s0, h.s1, (fun _ => rfl), h.s3, h.s4, h.s5, h.s6, h.s7, h.s8, h.s9, h.s12, h.bel, h.e10, h.e11, h.e13⟩
theorem TgI.op3 (h : TgI V x S R so kv p4 v5 sf iv p8 dn val X) : TgI V x S R so kv p4 v5 sf iv p8 (andB dn 3) (updV val 3 (kv)) X :=
  ⟨h.s0, h.s1, h.s2, (fun _ => rfl), h.s4, h.s5, h.s6, h.s7, h.s8, h.s9, h.s12, h.bel, h.e10, h.e11, h.e13⟩
theorem TgI.op4 (h : TgI V x S R so kv p4 v5 sf iv p8 dn val X) : TgI V x S R so kv p4 v5 sf iv p8 (andB dn 4) (updV val 4 (p4)) X :=
  ⟨h.s0, h.s1, h.s2, h.s3, (fun _ => rfl), h.s5, h.s6, h.s7, h.s8, h.s9, h.s12, h.bel, h.e10, h.e11, h.e13⟩
theorem TgI.op5 (h : TgI V x S R so kv p4 v5 sf iv p8 dn val X) : TgI V x S R so kv p4 v5 sf iv p8 (andB dn 5) (updV val 5 (v5)) X :=
  ⟨h.s0, h.s1, h.s2, h.s3, h.s4, (fun _ => rfl), h.s6, h.s7, h.s8, h.s9, h.s12, h.bel, h.e10, h.e11, h.e13⟩
theorem TgI.op6 (h : TgI V x S R so kv p4 v5 sf iv p8 dn val X) : TgI V x S R so kv p4 v5 sf iv p8 (andB dn 6) (updV val 6 (sf)) X :=
  ⟨h.s0, h.s1, h.s2, h.s3, h.s4, h.s5, (fun _ => rfl), h.s7, h.s8, h.s9, h.s12, h.bel, h.e10, h.e11, h.e13⟩
theorem TgI.op7 (h : TgI V x S R so kv p4 v5 sf iv p8 dn val X) : TgI V x S R so kv p4 v5 sf iv p8 (andB dn 7) (updV val 7 (iv)) X :=
  ⟨h.s0, h.s1, h.s2, h.s3, h.s4, h.s5, h.s6, (fun _ => rfl), h.s8, h.s9, h.s12, h.bel, h.e10, h.e11, h.e13⟩
theorem TgI.op8 (h : TgI V x S R so kv p4 v5 sf iv p8 dn val X) : TgI V x S R so kv p4 v5 sf iv p8 (andB dn 8) (updV val 8 (p8)) X :=
  ⟨h.s0, h.s1, h.s2, h.s3, h.s4, h.s5, h.s6, h.s7, (fun _ => rfl), h.s9, h.s12, h.bel, h.e10, h.e11, h.e13⟩
theorem TgI.op9 (h : TgI V x S R so kv p4 v5 sf iv p8 dn val X) : TgI V x S R so kv p4 v5 sf iv p8 (andB dn 9) (updV val 9 ((.int .i64 x))) X :=
  ⟨h.s0, h.s1, h.s2, h.s3, h.s4, h.s5, h.s6, h.s7, h.s8, (fun _ => rfl), h.s12, h.bel, h.e10, h.e11, h.e13⟩
theorem TgI.op12 (h : TgI V x S R so kv p4 v5 sf iv p8 dn val X) : TgI V x S R so kv p4 v5 sf iv p8 (andB dn 12) (updV val 12 (p4)) X :=
  ⟨h.s0, h.s1, h.s2, h.s3, h.s4, h.s5, h.s6, h.s7, h.s8, h.s9, (fun _ => rfl), h.bel, h.e10, h.e11, h.e13⟩
theorem TgI.op10 (h : TgI V x S R so kv p4 v5 sf iv p8 dn val X) (n11 : dn 11 = false) (n13 : dn 13 = false) : TgI V x S R so kv p4 v5 sf iv p8 (andB dn 10) (updV val 10 (.slice (some ⟨X.heap.size, 0, none⟩) 1 1)) (X.alloc (.cells #[.int .i64 x] 3)) :=
  ⟨h.s0, h.s1, h.s2, h.s3, h.s4, h.s5, h.s6, h.s7, h.s8, h.s9, h.s12, (fun _ => (h.bel n11).trans ((below_new _).mono (h.bel n11).size)), (fun _ _ => ⟨X.heap.size, rfl, World.alloc_heap_new X _⟩), (fun d => f_t n11 d), (fun d => f_t n13 d)⟩
theorem TgI.op11 (h : TgI V x S R so kv p4 v5 sf iv p8 dn val X) (n13 : dn 13 = false) {u : Value} (hS : S u Y) : TgI V x S R so kv p4 v5 sf iv p8 (andB dn 11) (updV val 11 (u)) Y :=
  ⟨h.s0, h.s1, h.s2, h.s3, h.s4, h.s5, h.s6, h.s7, h.s8, h.s9, h.s12, (fun n => nomatch n), (fun _ n => nomatch n), (fun _ _ => hS), (fun d => f_t n13 d)⟩
theorem TgI.op13 (h : TgI V x S R so kv p4 v5 sf iv p8 dn val X) (y11 : dn 11 = true) {u : Value} (hR : R Y) : TgI V x S R so kv p4 v5 sf iv p8 (andB dn 13) (updV val 13 (u)) Y :=
  ⟨h.s0, h.s1, h.s2, h.s3, h.s4, h.s5, h.s6, h.s7, h.s8, h.s9, h.s12, (fun n => f_t n y11), (fun _ n => f_t n y11), (fun _ n => nomatch n), (fun _ => hR)⟩
end
section
variable {o : Oper} {a : Act} {w : World} {K : Act → World → Prop} {Q : Exit → Act → World → Prop}
theorem opStoreS (q r : Nat) (p : Addr) (v : Value) (old : Value) (ho : o.op = .store 22 (.tmp q) (.tmp r)) (hq : a.tmps.getD q undef = .pointer (some p)) (hr : a.tmps.getD r undef = v) (hv : ∃ A n c, v = .slice A n c) (hc : w.cell? p = some old) (hf : w.frozen? p = false) (h : ∀ u, K (a.put o.dst u) (w.setCell p v)) : o.wp Tryz.prog a w K Q := by
  obtain ⟨A, n, c, rfl⟩ := hv
  unfold Oper.wp execOp
  have he : a.eval (.tmp q) = .pointer (some p) := hq
  have he2 : a.eval (.tmp r) = .slice A n c := hr
  simp only [ho, he, he2]
  go_simp
  exact h _
end
end Go.Proofs.YtplpogonkfnafaaGreat
