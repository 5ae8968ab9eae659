
/- Compose: its sets and rows while they grow. -/
import Derived.Test.YtplpogonkfnafaaGreatNmPa
import Derived.Test.YtplpogonkfnafaaGreatNmPb
import Derived.Test.YtplpogonkfnafaaGreatNmTv
import Derived.Test.YtplpogonkfnafaaGreatNmSl
namespace Go.Proofs.YtplpogonkfnafaaGreat
open Go.RowKit Go.Nm

/-- bit p of a row of words -/
def bit (wd : Nat → Nat) (p : Nat) : Bool := (wd (p / 64)).testBit (p % 64)
theorem bit_add (wd : Nat → Nat) (k p : Nat) : bit (fun j => if j = k / 64 then wd j ||| 2 ^ (k % 64) else wd j) p = (bit wd p || decide (p = k)) := by
  unfold bit
  dsimp only
  by_cases h : p / 64 = k / 64
  · rw [if_pos h, Nat.testBit_or, Nat.testBit_two_pow]
    congr 1
    rw [decide_eq_decide]
    omega
  · rw [if_neg h]
    have : p ≠ k := fun e => h (by rw [e])
    simp [this]
theorem bit_or (wd wt : Nat → Nat) (p : Nat) : bit (fun j => wd j ||| wt j) p = (bit wd p || bit wt p) := by unfold bit; rw [Nat.testBit_or]
theorem bit_zero (p : Nat) : bit (fun _ => 0) p = false := by simp [bit]
/-- those of the first j values whose places are in a set -/
def rowS (V : List Int) (S : Nat → Bool) : Nat → List Int
  | 0 => []
  | j + 1 => rowS V S j ++ (if S j then [V.getD j 0] else [])
theorem rowS_next {V : List Int} {S : Nat → Bool} {j : Nat} {y : Int} (h : V[j]? = some y) : rowS V S (j + 1) = rowS V S j ++ (if S j then [y] else []) := by
  show rowS V S j ++ (if S j then [V.getD j 0] else []) = _
  rw [List.getD_eq_getElem?_getD, h]; rfl
theorem rowS_len (V : List Int) (S : Nat → Bool) : ∀ j, (rowS V S j).length ≤ j
  | 0 => Nat.le_refl _
  | j + 1 => by
    show (rowS V S j ++ (if S j then [V.getD j 0] else [])).length ≤ _
    have := rowS_len V S j
    rw [List.length_append]
    split <;> simp <;> omega
theorem mem_rowS {V : List Int} {S : Nat → Bool} {y : Int} : ∀ j, j ≤ V.length → (y ∈ rowS V S j ↔ ∃ p, p < j ∧ V[p]? = some y ∧ S p = true)
  | 0, _ => by
    constructor
    · intro h; cases h
    · rintro ⟨p, h, _⟩; omega
  | j + 1, hj => by
    have hv : V[j]? = some V[j] := List.getElem?_eq_getElem (by omega)
    rw [rowS_next hv, List.mem_append, mem_rowS j (by omega)]
    constructor
    · rintro (⟨p, h1, h2⟩ | h)
      · exact ⟨p, by omega, h2⟩
      · by_cases hs : S j = true
        · rw [if_pos hs] at h
          simp at h
          exact ⟨j, by omega, by rw [hv, h], hs⟩
        · rw [if_neg hs] at h; cases h
    · rintro ⟨p, h1, h2, h3⟩
      by_cases e : p = j
      · subst e
        refine .inr ?_
        rw [if_pos h3]
        rw [hv] at h2; injection h2 with h2
        simp [h2]
      · exact .inl ⟨p, by omega, h2, h3⟩
theorem inc_rowS {V : List Int} {S : Nat → Bool} (hV : Inc V) : ∀ j, j ≤ V.length → Inc (rowS V S j)
  | 0, _ => List.Pairwise.nil
  | j + 1, hj => by
    have hv : V[j]? = some V[j] := List.getElem?_eq_getElem (by omega)
    rw [rowS_next hv]
    have ih := inc_rowS (S := S) hV j (by omega)
    split
    · refine List.pairwise_append.2 ⟨ih, by simp, fun a ha c hc => ?_⟩
      simp at hc; subst hc
      obtain ⟨p, h1, h2, _⟩ := (mem_rowS j (by omega)).1 ha
      have h3 := (List.getElem?_eq_some_iff.1 h2)
      have := (List.pairwise_iff_getElem.1 hV) p j h3.1 (by omega) h1
      rw [h3.2] at this
      exact this
    · rw [List.append_nil]; exact ih
/-- a row of own rows -/
structure TuJ (W : World) (go nt : Nat) (vals : Nat → Value) (P : Nat → List Int) (X : World) : Prop where
  bel : Below W.heap.size W X
  out : ∃ cs : Array Value, X.heap[go]? = some (.cells cs 22) ∧ cs.size = nt ∧ ∀ k, k < nt → cs[k]? = some (vals k)
  base : W.heap.size ≤ go
  own : ∀ k, k < nt → X.ownsRow W.heap.size 3 1 (vals k) (P k).length (intsV (P k))
  ap : ∀ j k, j < nt → k < nt → j ≠ k → ∀ g, (vals j).ownBlock = some g → (vals k).ownBlock ≠ some g
  off : ∀ k g, k < nt → (vals k).ownBlock = some g → g ≠ go
section
variable {W : World} {go nt : Nat} {vals : Nat → Value} {P : Nat → List Int} {X Y : World}
theorem TuJ.step (h : TuJ W go nt vals P X) (hb : Below X.heap.size X Y) : TuJ W go nt vals P Y := by
  obtain ⟨cs, h1, h2, h3⟩ := h.out
  exact ⟨h.bel.trans (hb.mono h.bel.size), ⟨cs, (hb.block _ (Array.getElem?_eq_some_iff.1 h1).1).trans h1, h2, h3⟩, h.base, fun k hk => own_step (h.own k hk) hb, h.ap, h.off⟩
theorem TuJ.cell (h : TuJ W go nt vals P X) {k : Nat} (hk : k < nt) : X.cell? ⟨go, k, none⟩ = some (vals k) := by
  obtain ⟨cs, h1, h2, h3⟩ := h.out
  simp only [World.cell?, h1]
  exact h3 k hk
theorem TuJ.froz (h : TuJ W go nt vals P X) (k : Nat) : X.frozen? ⟨go, k, none⟩ = false := by
  obtain ⟨cs, h1, h2, h3⟩ := h.out
  exact frozen_cells h1 k
theorem TuJ.lt (h : TuJ W go nt vals P X) : go < X.heap.size := by
  obtain ⟨cs, h1, h2, h3⟩ := h.out
  exact (Array.getElem?_eq_some_iff.1 h1).1
/-- one of them grows, and is put back into its place -/
theorem TuJ.push (h : TuJ W go nt vals P X) {k : Nat} (hk : k < nt) {x : Int} {v' : Value} (ho : Y.ownsRow W.heap.size 3 1 v' (P k ++ [x]).length (intsV (P k ++ [x]))) (hg : X.grownBy Y (vals k).ownBlock)
    (hob : v'.ownBlock = (vals k).ownBlock ∨ v'.ownBlock = some X.heap.size) :
    TuJ W go nt (updP vals k v') (updP P k (P k ++ [x])) (Y.setCell ⟨go, k, none⟩ v') ∧ Y.cell? ⟨go, k, none⟩ = some (vals k) ∧ Y.frozen? ⟨go, k, none⟩ = false := by
  obtain ⟨cs, h1, h2, h3⟩ := h.out
  have hgo : Y.heap[go]? = some (.cells cs 22) := (hg.block _ (Array.getElem?_eq_some_iff.1 h1).1 (fun e => h.off k go hk e.symm rfl)).trans h1
  have hoff' : ∀ g, v'.ownBlock = some g → g ≠ go := fun g e => by
    rcases hob with e2 | e2
    · exact h.off k g hk (e2.symm.trans e)
    · have e3 : X.heap.size = g := by have := e2.symm.trans e; injection this
      have := h.lt
      omega
  have hst := setCell_grown' Y go k v'
  refine ⟨⟨?_, ?_, h.base, ?_, ?_, ?_⟩, ?_, ?_⟩
  · exact (h.bel.grown hg h.bel.size fun r e => (h.own k hk).lt r e |>.1).setCell h.base _
  · refine ⟨cs.setIfInBounds k v', heap_setCell_same Y go k _ _ v' hgo, by simp [h2], fun j hj => ?_⟩
    unfold updP
    by_cases e : j = k
    · subst e
      rw [if_pos rfl, Array.getElem?_setIfInBounds_self_of_lt (by omega)]
    · rw [if_neg e, Array.getElem?_setIfInBounds_ne (by omega)]
      exact h3 j hj
  · intro j hj
    unfold updP
    by_cases e : j = k
    · subst e
      rw [if_pos rfl, if_pos rfl]
      exact ho.kept hst (.inr fun e => hoff' go e rfl)
    · rw [if_neg e, if_neg e]
      refine ((h.own j hj).kept hg ?_).kept hst (.inr fun e => h.off j go hj e rfl)
      cases hv : (vals j).ownBlock with
      | none => exact .inl rfl
      | some g => exact .inr fun e2 => h.ap j k hj hk e g hv e2.symm
  · intro i j hi hj hij g hg1
    unfold updP at hg1 ⊢
    by_cases ei : i = k
    · subst ei
      rw [if_pos rfl] at hg1
      rw [if_neg (Ne.symm hij)]
      intro hg2
      rcases hob with e2 | e2
      · exact h.ap j i hj hi (Ne.symm hij) g hg2 (e2.symm.trans hg1)
      · have e3 : X.heap.size = g := by have := e2.symm.trans hg1; injection this
        have := ((h.own j hj).lt g hg2).2
        omega
    · rw [if_neg ei] at hg1
      by_cases ej : j = k
      · subst ej
        rw [if_pos rfl]
        intro hg2
        rcases hob with e2 | e2
        · exact h.ap i j hi hj hij g hg1 (e2.symm.trans hg2)
        · have e3 : X.heap.size = g := by have := e2.symm.trans hg2; injection this
          have := ((h.own i hi).lt g hg1).2
          omega
      · rw [if_neg ej]
        exact h.ap i j hi hj hij g hg1
  · intro j g hj hg1
    unfold updP at hg1
    by_cases e : j = k
    · rw [if_pos e] at hg1; exact hoff' g hg1
    · rw [if_neg e] at hg1; exact h.off j g hj hg1
  · simp only [World.cell?, hgo]
    exact h3 k hk
  · exact frozen_cells hgo k
theorem TuJ.sl (h : TuJ W go nt vals P X) : VsSl X X.heap.size (.slice (some ⟨go, 0, none⟩) nt nt) ((List.range nt).map P) := by
  refine ⟨some ⟨go, 0, none⟩, nt, (List.range nt).map vals, by rw [List.length_map, List.length_range], ⟨by simp, fun i v L hv hL => ?_⟩, fun i u hu => ?_⟩
  · have hi : i < nt := by have := (List.getElem?_eq_some_iff.1 hv).1; simpa using this
    rw [List.getElem?_map, List.getElem?_range hi] at hv hL
    simp only [Option.map_some, Option.some.injEq] at hv hL
    subst hv; subst hL
    exact (show OwN W (vals i) (P i) X from ⟨h.bel, h.own i hi⟩).sl
  · have hi : i < nt := by have := (List.getElem?_eq_some_iff.1 hu).1; simpa using this
    rw [List.getElem?_map, List.getElem?_range hi] at hu
    simp only [Option.map_some, Option.some.injEq] at hu
    subst hu
    refine ⟨⟨go, 0, none⟩, rfl, h.lt, ?_⟩
    rw [add_zero_k]
    exact h.cell hi
end

theorem wpList_appO {ops : Array Oper} {rest : List Oper} {o : Oper} {a : Act} {Q : Exit → Act → World → Prop} {W w : World} {B : Nat} {v u : Value} {pre M : List Int} (hgd : o.guard = none) (s x : Operand)
    (ho : o.op = .call { callee := .builtin .append, args := #[s, x], argTypes := #[22, 22] }) (hO : OwN W v pre w) (hs : a.eval s = v) (hx : a.eval x = u) (hM : InSl w B u M) (hl : pre.length + M.length ≤ 3000000)
    (h : ∀ v' w', OwN W v' (pre ++ M) w' → w.grownBy w' v.ownBlock → (v'.ownBlock = v.ownBlock ∨ v'.ownBlock = some w.heap.size) → wpList Tryz.prog ops Q rest (a.put o.dst v') w') : wpList Tryz.prog ops Q (o :: rest) a w :=
  wpList_plain hgd fun _ hK => run_appN s x ho hO hs hx hM hl fun v' w' h1 h2 h3 => hK _ _ (h v' w' h1 h2 h3)
theorem BsI.low {W W' X : World} {gw nw : Nat} {wd : Nat → Nat} (h : BsI W' gw nw wd X) (hb : Below W.heap.size W W') : BsI W gw nw wd X :=
  ⟨hb.trans (h.bel.mono hb.size), h.cs, h.wf, Nat.le_trans hb.size h.base⟩
theorem BsI.lt {W X : World} {gw nw : Nat} {wd : Nat → Nat} (h : BsI W gw nw wd X) : gw < X.heap.size := by
  obtain ⟨cs, h1, _⟩ := h.cs
  exact (Array.getElem?_eq_some_iff.1 h1).1
/-- a row of sets, the first i of them made -/
structure StI (W : World) (gs nb nw i : Nat) (gk : Nat → Nat) (wds : Nat → Nat → Nat) (X : World) : Prop where
  bel : Below W.heap.size W X
  base : W.heap.size ≤ gs
  row : ∃ cs : Array Value, X.heap[gs]? = some (.cells cs 89) ∧ cs.size = nb ∧ ∀ k, k < i → cs[k]? = some (.slice (some ⟨gk k, 0, none⟩) nw nw)
  set : ∀ k, k < i → BsI W (gk k) nw (wds k) X
  ne : ∀ k, k < i → gk k ≠ gs
  ap : ∀ j k, j < i → k < i → j ≠ k → gk j ≠ gk k
section
variable {W X Y : World} {gs nb nw i : Nat} {gk : Nat → Nat} {wds : Nat → Nat → Nat}
theorem StI.step (h : StI W gs nb nw i gk wds X) (hb : Below X.heap.size X Y) : StI W gs nb nw i gk wds Y := by
  obtain ⟨cs, h1, h2⟩ := h.row
  exact ⟨h.bel.trans (hb.mono h.bel.size), h.base, ⟨cs, (hb.block _ (Array.getElem?_eq_some_iff.1 h1).1).trans h1, h2⟩, fun k hk => (h.set k hk).step hb, h.ne, h.ap⟩
theorem StI.lt (h : StI W gs nb nw i gk wds X) : gs < X.heap.size := by
  obtain ⟨cs, h1, _⟩ := h.row
  exact (Array.getElem?_eq_some_iff.1 h1).1
theorem StI.cell (h : StI W gs nb nw i gk wds X) {k : Nat} (hk : k < i) : X.cell? ⟨gs, k, none⟩ = some (.slice (some ⟨gk k, 0, none⟩) nw nw) := by
  obtain ⟨cs, h1, h2, h3⟩ := h.row
  simp only [World.cell?, h1]
  exact h3 k hk
theorem StI.old (h : StI W gs nb nw i gk wds X) {k : Nat} (hk : k < nb) : ∃ v, X.cell? ⟨gs, k, none⟩ = some v := by
  obtain ⟨cs, h1, h2, h3⟩ := h.row
  simp only [World.cell?, h1]
  exact ⟨_, Array.getElem?_eq_getElem (by omega)⟩
theorem StI.froz (h : StI W gs nb nw i gk wds X) (k : Nat) : X.frozen? ⟨gs, k, none⟩ = false := by
  obtain ⟨cs, h1, _⟩ := h.row
  exact frozen_cells h1 k
/-- a further set is made, and put into its place -/
theorem StI.open_ (h : StI W gs nb nw i gk wds X) (hn : BsI X X.heap.size nw (fun _ => 0) Y) (hi : i < nb) :
    StI W gs nb nw (i + 1) (updP gk i X.heap.size) (updP wds i (fun _ => 0)) (Y.setCell ⟨gs, i, none⟩ (.slice (some ⟨X.heap.size, 0, none⟩) nw nw)) := by
  have h' := h.step hn.bel
  obtain ⟨cs, h1, h2, h3⟩ := h'.row
  have hst := setCell_grown' Y gs i (.slice (some ⟨X.heap.size, 0, none⟩) nw nw)
  have hlt := h.lt
  have hnew := hn.low h.bel
  refine ⟨h'.bel.setCell h.base _, h.base, ⟨cs.setIfInBounds i (.slice (some ⟨X.heap.size, 0, none⟩) nw nw), heap_setCell_same Y gs i _ _ _ h1, by simp [h2], fun k hk => ?_⟩, fun k hk => ?_, fun k hk => ?_, fun j k hj hk hjk => ?_⟩
  · unfold updP
    by_cases e : k = i
    · subst e
      rw [if_pos rfl, Array.getElem?_setIfInBounds_self_of_lt (by omega)]
    · rw [if_neg e, Array.getElem?_setIfInBounds_ne (by omega), h3 k (by omega)]
  · unfold updP
    by_cases e : k = i
    · subst e
      rw [if_pos rfl, if_pos rfl]
      exact hnew.kept hst fun r e => by injection e with e; subst e; exact ⟨h.base, by omega⟩
    · rw [if_neg e, if_neg e]
      exact (h'.set k (by omega)).kept hst fun r e => by injection e with e; subst e; exact ⟨h.base, fun e2 => h.ne k (by omega) e2.symm⟩
  · unfold updP
    by_cases e : k = i
    · rw [if_pos e]; omega
    · rw [if_neg e]; exact h.ne k (by omega)
  · unfold updP
    have hb : ∀ q, q < i → gk q < X.heap.size := fun q hq => (h.set q hq).lt
    by_cases e : j = i
    · rw [if_pos e, if_neg (by omega)]
      have := hb k (by omega)
      omega
    · rw [if_neg e]
      by_cases e2 : k = i
      · rw [if_pos e2]
        have := hb j (by omega)
        omega
      · rw [if_neg e2]
        exact h.ap j k (by omega) (by omega) hjk
/-- one of them is written -/
theorem StI.write (h : StI W gs nb nw i gk wds X) {k : Nat} {wd' : Nat → Nat} (hk : k < i) (hY : BsI W (gk k) nw wd' Y) (hg : X.grownBy Y (some (gk k))) : StI W gs nb nw i gk (updP wds k wd') Y := by
  obtain ⟨cs, h1, h2⟩ := h.row
  refine ⟨hY.bel, h.base, ⟨cs, (hg.block _ (Array.getElem?_eq_some_iff.1 h1).1 (fun e => h.ne k hk (by injection e with e; exact e.symm))).trans h1, h2⟩, fun j hj => ?_, h.ne, h.ap⟩
  unfold updP
  by_cases e : j = k
  · subst e
    rw [if_pos rfl]; exact hY
  · rw [if_neg e]
    exact (h.set j hj).kept hg fun r e2 => by injection e2 with e2; subst e2; exact ⟨(h.set k hk).base, h.ap k j hk hj (Ne.symm e)⟩
end
theorem infoU : ∃ i, Tryz.prog.info? 111 = some i ∧ i.zero = some (.int .u64 0) ∧ i.size = 1 ∧ i.bytes = 8 := by
  have h : (Tryz.prog.info? 111).map (fun i => (i.zero, i.size, i.bytes)) = some (some (.int .u64 0), 1, 8) := by kernel_rfl
  cases h2 : Tryz.prog.info? 111 with
  | none => rw [h2] at h; cases h
  | some i =>
    rw [h2] at h
    simp only [Option.map_some, Option.some.injEq, Prod.mk.injEq] at h
    exact ⟨i, rfl, h.1, h.2.1, h.2.2⟩
theorem infoSet : ∃ i, Tryz.prog.info? 89 = some i ∧ i.zero = some (.slice none 0 0) ∧ i.size = 1 ∧ i.bytes = 24 := by
  have h : (Tryz.prog.info? 89).map (fun i => (i.zero, i.size, i.bytes)) = some (some (.slice none 0 0), 1, 24) := by kernel_rfl
  cases h2 : Tryz.prog.info? 89 with
  | none => rw [h2] at h; cases h
  | some i =>
    rw [h2] at h
    simp only [Option.map_some, Option.some.injEq, Prod.mk.injEq] at h
    exact ⟨i, rfl, h.1, h.2.1, h.2.2⟩
theorem wpList_make_words {ops : Array Oper} {rest : List Oper} {o : Oper} {a : Act} {Q : Exit → Act → World → Prop} {w : World} (hg : o.guard = none) (l c : Operand) (hop : o.op = Op.makeSlice 89 l c) (n : Nat) (hl : a.eval l = .int .i64 (n : Int)) (hc : a.eval c = .int .i64 (n : Int)) (hn : n ≤ 100000)
    (hK : ∀ cs : Array Value, cs.size = n → (∀ k, k < n → cs[k]? = some (.int .u64 0)) → wpList Tryz.prog ops Q rest (a.put o.dst (.slice (some ⟨w.heap.size, 0, none⟩) n n)) (w.alloc (.cells cs 111))) : wpList Tryz.prog ops Q (o :: rest) a w := by
  refine wpList_plain hg fun K hK' => ?_
  obtain ⟨i0, hi0, hz0, hz1, hz2⟩ := infoU
  have hrun := run_make (P := Tryz.prog) w 89 111 i0 (.int .u64 0) Tryz.underlying89 hi0 hz0 .i64 .i64 (n : Int) (n : Int) (by omega) (Int.le_refl _) (by rw [hz2]; omega) (by omega)
  simp only [Int.toNat_natCast, hz1, Nat.mul_one] at hrun
  unfold Oper.wp
  simp [execOp, hop, hl, hc, hrun, Result.andThen]
  refine hK' _ _ (hK _ (size_madeCells _ _) fun k hk => ?_)
  simp [madeCells, hk, Value.cells, Nat.mod_one]
theorem wpList_make_sets {ops : Array Oper} {rest : List Oper} {o : Oper} {a : Act} {Q : Exit → Act → World → Prop} {w : World} (hg : o.guard = none) (l c : Operand) (hop : o.op = Op.makeSlice 87 l c) (n : Nat) (hl : a.eval l = .int .i64 (n : Int)) (hc : a.eval c = .int .i64 (n : Int)) (hn : n ≤ 100000)
    (hK : ∀ cs : Array Value, cs.size = n → wpList Tryz.prog ops Q rest (a.put o.dst (.slice (some ⟨w.heap.size, 0, none⟩) n n)) (w.alloc (.cells cs 89))) : wpList Tryz.prog ops Q (o :: rest) a w := by
  refine wpList_plain hg fun K hK' => ?_
  obtain ⟨i0, hi0, hz0, hz1, hz2⟩ := infoSet
  have hrun := run_make (P := Tryz.prog) w 87 89 i0 (.slice none 0 0) Tryz.underlying87 hi0 hz0 .i64 .i64 (n : Int) (n : Int) (by omega) (Int.le_refl _) (by rw [hz2]; omega) (by omega)
  simp only [Int.toNat_natCast, hz1, Nat.mul_one] at hrun
  unfold Oper.wp
  simp [execOp, hop, hl, hc, hrun, Result.andThen]
  exact hK' _ _ (hK _ (size_madeCells _ _))
theorem BsI.start {W : World} {cs : Array Value} {nw : Nat} (h1 : cs.size = nw) (h2 : ∀ k, k < nw → cs[k]? = some (.int .u64 0)) : BsI W W.heap.size nw (fun _ => 0) (W.alloc (.cells cs 111)) :=
  ⟨below_new _, ⟨cs, World.alloc_heap_new W _, h1, h2⟩, fun _ _ => by decide, Nat.le_refl _⟩
theorem StI.start {W : World} {cs : Array Value} {nb nw : Nat} (h1 : cs.size = nb) (gk : Nat → Nat) (wds : Nat → Nat → Nat) : StI W W.heap.size nb nw 0 gk wds (W.alloc (.cells cs 89)) :=
  ⟨below_new _, Nat.le_refl _, ⟨cs, World.alloc_heap_new W _, h1, fun k hk => absurd hk (by omega)⟩, fun k hk => absurd hk (by omega), fun k hk => absurd hk (by omega), fun j k hj => absurd hj (by omega)⟩
theorem TuJ.start {W : World} {cs : Array Value} {nt : Nat} (h1 : cs.size = nt) (h2 : ∀ k, k < nt → cs[k]? = some (.slice none 0 0)) : TuJ W W.heap.size nt (fun _ => .slice none 0 0) (fun _ => []) (W.alloc (.cells cs 22)) :=
  ⟨below_new _, ⟨cs, World.alloc_heap_new W _, h1, h2⟩, Nat.le_refl _, fun _ _ => World.ownsRow_nil _ _ _ _, (fun _ _ _ _ _ _ e => nomatch e), (fun _ _ _ e => nomatch e)⟩
set_option maxRecDepth 100000 in
set_option maxHeartbeats 4000000 in
theorem newSet_any (n nw : Nat) (w : World) (hn : (n + 63) / 64 = nw) (hn2 : n ≤ 1000000) :
    Calls Tryz.prog 60 #[.int .i64 (n : Int)] w fun e w' => e = .returned (.slice (some ⟨w.heap.size, 0, none⟩) nw nw) ∧ BsI w w.heap.size nw (fun _ => 0) w' := by
  have hq : ((n : Int) + 63) / 64 = (nw : Int) := by omega
  have HQ := Lib.hid (congrArg (Value.int .i64) hq)
  have hnw : nw ≤ 100000 := by omega
  clear hq hn
  go_enter Tryz.func60, Tryz.ntmps60
  go_wp2_with (refine wpList_make_words rfl _ _ rfl nw HQ.out HQ.out hnw ?_; intro cs hcs1 hcs2)
  go_ret
  exact ⟨rfl, BsI.start hcs1 hcs2⟩
end Go.Proofs.YtplpogonkfnafaaGreat
