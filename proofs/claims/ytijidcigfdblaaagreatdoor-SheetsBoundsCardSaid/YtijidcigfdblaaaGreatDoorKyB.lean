
/- Rows of the call itself, drawn regions by values. -/
import Derived.Test.YtijidcigfdblaaaGreatDoorKyA
import Derived.Maps.AppendAt
namespace Go.Proofs.YtijidcigfdblaaaGreatDoor
open Go.RowKit Go.Nm

theorem infoS : ∃ i, Tryz.prog.info? 30 = some i ∧ i.zero = some (.slice none 0 0) ∧ i.size = 1 ∧ i.bytes = 24 := by
  have h : (Tryz.prog.info? 30).map (fun i => (i.zero, i.size, i.bytes)) = some (some (.slice none 0 0), 1, 24) := by kernel_rfl
  cases h2 : Tryz.prog.info? 30 with
  | none => rw [h2] at h; cases h
  | some i =>
    rw [h2] at h
    simp only [Option.map_some, Option.some.injEq, Prod.mk.injEq] at h
    exact ⟨i, rfl, h.1, h.2.1, h.2.2⟩
/-- vs is a row of the call's own, with these lists; none of them lies in the row itself -/
structure SlI (W : World) (LL : List (List Int)) (vals : List Value) (vs : Value) (X : World) : Prop where
  bel : Below W.heap.size W X
  own : X.ownsRow W.heap.size 30 1 vs LL.length vals
  ele : VsA X X.heap.size vals LL
  off : ∀ u ∈ vals, ∀ g, u.ownBlock = some g → vs.ownBlock ≠ some g ∧ g < X.heap.size
section
variable {W : World} {LL : List (List Int)} {vals : List Value} {vs : Value} {X Y : World}
theorem SlI.step (h : SlI W LL vals vs X) (hb : Below X.heap.size X Y) : SlI W LL vals vs Y :=
  ⟨h.bel.trans (hb.mono h.bel.size), own_step h.own hb, (h.ele.below hb).mono hb.size, fun u hu g e => ⟨(h.off u hu g e).1, Nat.lt_of_lt_of_le (h.off u hu g e).2 hb.size⟩⟩
theorem SlI.start (W : World) : SlI W [] [] (.slice none 0 0) W :=
  ⟨Below.refl _ _, World.ownsRow_nil _ _ _ _, ⟨rfl, fun i v L h => by simp at h⟩, fun u hu => by simp at hu⟩
theorem SlI.push {vs' r : Value} {R : List Int} (h : SlI W LL vals vs X) (hg : X.grownBy Y vs.ownBlock) (ho : Y.ownsRow W.heap.size 30 1 vs' (LL.length + 1) (vals ++ [r]))
    (hob : vs'.ownBlock = vs.ownBlock ∨ vs'.ownBlock = some X.heap.size) (hr : InSl X X.heap.size r R) (hro : ∀ g, r.ownBlock = some g → vs.ownBlock ≠ some g ∧ g < X.heap.size) :
    SlI W (LL ++ [R]) (vals ++ [r]) vs' Y := by
  have hkeep : ∀ (u : Value), (∀ g, u.ownBlock = some g → vs.ownBlock ≠ some g ∧ g < X.heap.size) → ∀ p : Addr, u.ownBlock = some p.block → Y.cell? p = X.cell? p := fun u hu p hp => by
    obtain ⟨a1, a3⟩ := hu _ hp
    exact World.cell?_of_block (hg.block _ a3 fun e => a1 e.symm)
  refine ⟨h.bel.grown hg h.bel.size (fun r e => (h.own.lt r e).1), by rw [List.length_append]; exact ho, ?_, ?_⟩
  · refine ⟨by simp [h.ele.1], fun i v L h1 h2 => ?_⟩
    by_cases hi : i < vals.length
    · rw [List.getElem?_append_left hi] at h1
      rw [List.getElem?_append_left (by rw [← h.ele.1]; exact hi)] at h2
      exact ((h.ele.2 i v L h1 h2).keepOwn (hkeep v (h.off v (List.mem_of_getElem? h1)))).mono hg.size
    · rw [List.getElem?_append_right (by omega)] at h1
      rw [List.getElem?_append_right (by rw [← h.ele.1]; omega)] at h2
      have e1 : i - vals.length = 0 := by have := (List.getElem?_eq_some_iff.1 h1).1; simp at this; omega
      rw [e1] at h1
      rw [← h.ele.1, e1] at h2
      simp at h1 h2
      subst h1; subst h2
      exact (hr.keepOwn (hkeep r hro)).mono hg.size
  · intro u hu g e
    have key : vs.ownBlock ≠ some g ∧ g < X.heap.size := by
      rcases List.mem_append.1 hu with hu | hu
      · exact h.off u hu g e
      · simp at hu; subst hu; exact hro g e
    refine ⟨?_, Nat.lt_of_lt_of_le key.2 hg.size⟩
    rcases hob with e2 | e2
    · rw [e2]; exact key.1
    · rw [e2]; intro e3; injection e3 with e3; omega
theorem SlI.sl (h : SlI W LL vals vs X) : VsSl X X.heap.size vs LL := by
  rcases h.own.2 with ⟨e, h0⟩ | ⟨g, cap, cur, e, hb, hg, h1, h2, h3, h4⟩
  · have hl := List.length_eq_zero_iff.1 h0
    subst hl
    have hv : vals = [] := List.length_eq_zero_iff.1 (by rw [h.ele.1]; rfl)
    subst hv
    exact ⟨none, 0, [], by rw [e]; rfl, h.ele, fun i u hu => by simp at hu⟩
  · refine ⟨_, _, vals, e, h.ele, fun i u hu => ⟨_, rfl, (Array.getElem?_eq_some_iff.1 hg).1, ?_⟩⟩
    exact h.own.cells (g := g) (by rw [e]; rfl) i u hu
theorem SlI.lt (h : SlI W LL vals vs X) {g : Nat} (e : vs.ownBlock = some g) : W.heap.size ≤ g ∧ g < X.heap.size := h.own.lt g e
/-- an append of one list to it -/
theorem run_append_sl {o : Oper} {a : Act} {w : World} {K : Act → World → Prop} {Q : Exit → Act → World → Prop} (s x : Operand) (ho : o.op = .call { callee := .builtin .append, args := #[s, x], argTypes := #[235, 235] })
    {r : Value} {R : List Int} (hs : a.eval s = vs) (h : SlI W LL vals vs w) (g : Nat) (hx : a.eval x = .slice (some ⟨g, 0, none⟩) 1 1) (hc : w.heap[g]? = some (.cells #[r] 30)) (h1 : r.oneCell' = true) (hr : InSl w w.heap.size r R) (hro : ∀ g, r.ownBlock = some g → vs.ownBlock ≠ some g ∧ g < w.heap.size) (hn : LL.length ≤ 100000)
    (hK : ∀ v' w', SlI W (LL ++ [R]) (vals ++ [r]) v' w' → w.grownBy w' vs.ownBlock → (v'.ownBlock = vs.ownBlock ∨ v'.ownBlock = some w.heap.size) → K (a.put o.dst v') w') : o.wp Tryz.prog a w K Q := by
  obtain ⟨i0, hi0, hz0, hz1, hz2⟩ := infoS
  obtain ⟨v', w', hr', h2, h3, _, h5⟩ := run_append_own_at (P := Tryz.prog) (w := w) W.heap.size 235 o.type 30 i0 (.slice none 0 0) 1 24 Tryz.underlying235 hi0 hz0 hz1 hz2 rfl (by decide) vs LL.length vals h.own ⟨g, 0, none⟩ 1 1 [r] rfl
    (fun j u hj => by
      have e : (⟨g, 0, none⟩ : Addr).add j = ⟨g, j, none⟩ := by
        unfold Addr.add
        split
        · rename_i h; rw [h]
        · simp
      rw [e]
      simpa [World.cell?, hc] using hj) (fun u hu => by simp at hu; subst hu; exact h1) (by unfold maxLen; omega) (by omega) h.bel.size
  unfold Oper.wp execOp
  simp only [ho, resolve, invoke, builtin, Sem.run_bind, Sem.run_pure, Result.andThen_ok, List.map_toArray, List.map_cons, List.map_nil, hs, hx, hr']
  exact hK v' w' (h.push h3 h2 h5 hr hro) h3 h5
theorem wpList_app_sl {ops : Array Oper} {rest : List Oper} {o : Oper} {a : Act} {Q : Exit → Act → World → Prop} {w : World} (hgd : o.guard = none) (s x : Operand) (ho : o.op = .call { callee := .builtin .append, args := #[s, x], argTypes := #[235, 235] })
    {r : Value} {R : List Int} (hs : a.eval s = vs) (h : SlI W LL vals vs w) (g : Nat) (hx : a.eval x = .slice (some ⟨g, 0, none⟩) 1 1) (hc : w.heap[g]? = some (.cells #[r] 30)) (h1 : r.oneCell' = true) (hr : InSl w w.heap.size r R) (hro : ∀ g, r.ownBlock = some g → vs.ownBlock ≠ some g ∧ g < w.heap.size) (hn : LL.length ≤ 100000)
    (hK : ∀ v' w', SlI W (LL ++ [R]) (vals ++ [r]) v' w' → w.grownBy w' vs.ownBlock → (v'.ownBlock = vs.ownBlock ∨ v'.ownBlock = some w.heap.size) → wpList Tryz.prog ops Q rest (a.put o.dst v') w') : wpList Tryz.prog ops Q (o :: rest) a w :=
  wpList_plain hgd fun _ hK2 => run_append_sl s x ho hs h g hx hc h1 hr hro hn fun v' w' a b c => hK2 _ _ (hK v' w' a b c)
end
/-- an append to an own row of numbers, as one operation -/
theorem run_appN {o : Oper} {a : Act} {W w : World} {B : Nat} {v u : Value} {pre M : List Int} {K : Act → World → Prop} {Q : Exit → Act → World → Prop} (s x : Operand) (ho : o.op = .call { callee := .builtin .append, args := #[s, x], argTypes := #[30, 30] })
    (hO : OwN W v pre w) (hs : a.eval s = v) (hx : a.eval x = u) (hM : InSl w B u M) (hl : pre.length + M.length ≤ 3000000)
    (h : ∀ v' w', OwN W v' (pre ++ M) w' → w.grownBy w' v.ownBlock → (v'.ownBlock = v.ownBlock ∨ v'.ownBlock = some w.heap.size) → K (a.put o.dst v') w') : o.wp Tryz.prog a w K Q := by
  obtain ⟨A, c, rfl, hc, hcm, hA⟩ := hM
  obtain ⟨i0, hi0, hz0, hz1, hz2⟩ := infoI
  cases A with
  | none =>
    have h0 := hA.none_nil
    subst h0
    have hrun := run_append_nil (P := Tryz.prog) (w := w) W.heap.size 30 o.type 3 i0 1 c Tryz.underlying30 hi0 v pre.length (intsV pre) hO.own
    unfold Oper.wp
    simp [execOp, ho, resolve, invoke, builtin, hs, hx, hrun, Result.andThen]
    exact h v w (by rw [List.append_nil]; exact hO) (grown_of_below (Below.refl _ _) _) (.inl rfl)
  | some ad =>
    obtain ⟨v', w', hr', h2, h3, _, h5⟩ := run_append_own_at (P := Tryz.prog) (w := w) W.heap.size 30 o.type 3 i0 (.int .i64 0) 1 8 Tryz.underlying30 hi0 hz0 hz1 hz2 rfl (by decide) v pre.length (intsV pre) hO.own ad M.length c (intsV M) (by rw [intsV_len, Nat.mul_one]) hA.cells (intsV_one M) (by unfold maxLen; omega) (by omega) hO.bound
    unfold Oper.wp execOp
    simp only [ho, resolve, invoke, builtin, Sem.run_bind, Sem.run_pure, Result.andThen_ok, List.map_toArray, List.map_cons, List.map_nil, hs, hx, hr']
    exact h v' w' (hO.grown (M := M) (Below.refl _ _) h3 h2) h3 h5
/-- a list apart from an own row -/
structure Ap (X : World) (vs u : Value) (L : List Int) : Prop where
  sl : InSl X X.heap.size u L
  off : ∀ g, u.ownBlock = some g → vs.ownBlock ≠ some g ∧ g < X.heap.size
theorem Ap.step {X Y : World} {vs u : Value} {L : List Int} (h : Ap X vs u L) (hb : Below X.heap.size X Y) : Ap Y vs u L :=
  ⟨h.sl.step hb, fun g e => ⟨(h.off g e).1, Nat.lt_of_lt_of_le (h.off g e).2 hb.size⟩⟩
theorem Ap.push {X Y : World} {vs vs' u : Value} {L : List Int} (h : Ap X vs u L) (hg : X.grownBy Y vs.ownBlock) (hob : vs'.ownBlock = vs.ownBlock ∨ vs'.ownBlock = some X.heap.size) : Ap Y vs' u L := by
  refine ⟨(h.sl.keepOwn fun p hp => ?_).mono hg.size, fun g e => ⟨?_, Nat.lt_of_lt_of_le (h.off g e).2 hg.size⟩⟩
  · obtain ⟨a1, a3⟩ := h.off _ hp
    exact World.cell?_of_block (hg.block _ a3 fun e => a1 e.symm)
  · rcases hob with e2 | e2
    · rw [e2]; exact (h.off g e).1
    · rw [e2]; intro e3; injection e3 with e3; have := (h.off g e).2; omega
end Go.Proofs.YtijidcigfdblaaaGreatDoor
namespace Go.Proofs.YtijidcigfdblaaaGreatDoor
open Go.RowKit Go.Nm

set_option maxRecDepth 100000 in
set_option maxHeartbeats 4000000 in
theorem rwithin_any (n a b : Int) (w : World) :
    Calls Tryz.prog 166 #[.int .i64 n, .int .i64 a, .int .i64 b] w fun e w' => e = .returned (.bool (decide (a ≤ n ∧ n ≤ b))) ∧ Below w.heap.size w w' := by
  obtain ⟨r, hr⟩ : ∃ r, decide (a ≤ n ∧ n ≤ b) = r := ⟨_, rfl⟩
  rw [hr]
  have HR := Lib.hid hr
  clear hr
  have HB := Lib.hid (Below.refl w.heap.size w)
  by_cases h1 : a ≤ n
  · by_cases h2 : n ≤ b
    · have HF := Lib.hid (show r = true from by rw [← HR.out, decide_eq_true_eq]; exact ⟨h1, h2⟩)
      go_enter Tryz.func166, Tryz.ntmps166
      go_wp2_with fail
      go_ret
      exact ⟨ret_b HF.out.symm, HB.out⟩
    · have HF := Lib.hid (show r = false from by rw [← HR.out, decide_eq_false_iff_not]; exact fun h => h2 h.2)
      go_enter Tryz.func166, Tryz.ntmps166
      go_wp2_with fail
      go_ret
      exact ⟨ret_b HF.out.symm, HB.out⟩
  · have HF := Lib.hid (show r = false from by rw [← HR.out, decide_eq_false_iff_not]; exact fun h => h1 h.1)
    go_enter Tryz.func166, Tryz.ntmps166
    go_wp2_with fail
    go_ret
    exact ⟨ret_b HF.out.symm, HB.out⟩
end Go.Proofs.YtijidcigfdblaaaGreatDoor
namespace Go.Proofs.YtijidcigfdblaaaGreatDoor
open Go.RowKit Go.Nm

end Go.Proofs.YtijidcigfdblaaaGreatDoor
namespace Go.Proofs.YtijidcigfdblaaaGreatDoor
open Go.RowKit Go.Nm

end Go.Proofs.YtijidcigfdblaaaGreatDoor
namespace Go.Proofs.YtijidcigfdblaaaGreatDoor
open Go.RowKit Go.Nm

/-- a number put into a list -/
def rputF (n : Int) : List Int → List Int
  | [] => [n]
  | y :: l => if y < n then y :: rputF n l else if y = n then y :: l else n :: y :: l
theorem mem_rputF {n z : Int} : ∀ {l : List Int}, z ∈ rputF n l ↔ z = n ∨ z ∈ l
  | [] => by simp [rputF]
  | y :: l => by
    unfold rputF
    split
    · rw [List.mem_cons, mem_rputF, List.mem_cons]
      constructor
      · rintro (h | h | h)
        · exact .inr (.inl h)
        · exact .inl h
        · exact .inr (.inr h)
      · rintro (h | h | h)
        · exact .inr (.inl h)
        · exact .inl h
        · exact .inr (.inr h)
    · split
      · rename_i e
        subst e
        simp
      · simp
theorem rputF_inc {n : Int} : ∀ {l : List Int}, Inc l → Inc (rputF n l)
  | [], _ => by simp [rputF, Inc]
  | y :: l, h => by
    unfold rputF
    split
    · rename_i hy
      refine List.pairwise_cons.2 ⟨fun z hz => ?_, rputF_inc h.tail⟩
      rcases mem_rputF.1 hz with rfl | hz
      · exact hy
      · exact h.head z hz
    · split
      · exact h
      · refine List.pairwise_cons.2 ⟨fun z hz => ?_, h⟩
        rcases List.mem_cons.1 hz with rfl | hz
        · omega
        · have := h.head z hz; omega
/-- where a number is put, at the first place that is not below it -/
theorem rputF_at {n : Int} : ∀ {l : List Int} {i : Nat}, (∀ j z, j < i → l[j]? = some z → z < n) → i ≤ l.length → (∀ z, l[i]? = some z → ¬ z < n) → rputF n l = if l[i]? = some n then l else l.take i ++ n :: l.drop i
  | [], i, _, hi, _ => by
    have : i = 0 := by simpa using hi
    subst this
    simp [rputF]
  | y :: l, 0, _, _, hn => by
    have hy := hn y rfl
    unfold rputF
    rw [if_neg hy]
    simp
  | y :: l, i + 1, hb, hi, hn => by
    have hy := hb 0 y (by omega) rfl
    unfold rputF
    rw [if_pos hy, rputF_at (i := i) (fun j z hj hz => hb (j + 1) z (by omega) (by simpa using hz)) (by simpa using hi) (fun z hz => hn z (by simpa using hz))]
    simp only [List.getElem?_cons_succ, List.take_succ_cons, List.drop_succ_cons]
    split <;> simp
theorem rputF_len (n : Int) : ∀ l : List Int, (rputF n l).length ≤ l.length + 1
  | [] => by simp [rputF]
  | y :: l => by
    unfold rputF
    split
    · have := rputF_len n l
      simp only [List.length_cons]; omega
    · split <;> simp
/-- the version behind a change, as the reference makes it -/
def rnextF (l : List Int) (x : Ch) : List Int := x.to.foldl (fun o n => rputF n o) (l.filter fun z => !decide (z ∈ x.fr))
theorem mem_puts {z : Int} : ∀ {t o : List Int}, z ∈ t.foldl (fun o n => rputF n o) o ↔ z ∈ o ∨ z ∈ t
  | [], o => by simp
  | n :: t, o => by
    rw [List.foldl_cons, mem_puts, mem_rputF, List.mem_cons]
    constructor
    · rintro ((h | h) | h)
      · exact .inr (.inl h)
      · exact .inl h
      · exact .inr (.inr h)
    · rintro (h | h | h)
      · exact .inl (.inr h)
      · exact .inl (.inl h)
      · exact .inr h
theorem puts_inc : ∀ {t o : List Int}, Inc o → Inc (t.foldl (fun o n => rputF n o) o)
  | [], _, h => h
  | n :: t, o, h => by rw [List.foldl_cons]; exact puts_inc (rputF_inc h)
theorem puts_len : ∀ (t o : List Int), (t.foldl (fun o n => rputF n o) o).length ≤ o.length + t.length
  | [], o => by simp
  | n :: t, o => by
    rw [List.foldl_cons, List.length_cons]
    have := puts_len t (rputF n o)
    have := rputF_len n o
    omega
theorem mem_rnextF {l : List Int} {x : Ch} {z : Int} : z ∈ rnextF l x ↔ (z ∈ l ∧ z ∉ x.fr) ∨ z ∈ x.to := by
  unfold rnextF
  rw [mem_puts, List.mem_filter]
  simp
theorem rnextF_inc {l : List Int} {x : Ch} (h : Inc l) : Inc (rnextF l x) := puts_inc (h.sub List.filter_sublist)
/-- where the change can be applied it is the program's version -/
theorem rnextF_rep {l : List Int} {x : Ch} (hl : Inc l) (hf : Inc x.fr) (ht : Inc x.to) (hsub : ∃ y ∈ l, y ∈ x.fr) (hd : ∀ z ∈ x.to, z ∈ l → z ∈ x.fr) : rnextF l x = rep l x.fr x.to :=
  inc_ext (rnextF_inc hl) (rep_inc hl hf ht hd) fun z => by
    rw [mem_rnextF, mem_rep hl hf]
    constructor
    · rintro (h | h)
      · exact .inl h
      · exact .inr ⟨h, hsub⟩
    · rintro (h | ⟨h, _⟩)
      · exact .inl h
      · exact .inr h
/-- a change fits: as the reference asks -/
def rfitsF (l : List Int) (y : Int) (x : Ch) : Prop :=
  (0 ≤ x.yr ∧ x.yr ≤ 273) ∧ y ≤ x.yr ∧ Ver x.fr ∧ Ver x.to ∧ (∀ n ∈ x.fr, n ∈ l) ∧ (∀ n ∈ x.to, n ∈ l → n ∈ x.fr) ∧ (rnextF l x).length ≤ 400
theorem wo_nil {l g : List Int} (hl : Inc l) (hg : Inc g) : wo l g = [] ↔ ∀ n ∈ l, n ∈ g := by
  rw [List.eq_nil_iff_forall_not_mem]
  constructor
  · intro h n hn
    by_cases hm : n ∈ g
    · exact hm
    · exact absurd ((mem_wo hl hg n).2 ⟨hn, hm⟩) (h n)
  · intro h n hn
    have := (mem_wo hl hg n).1 hn
    exact this.2 (h n this.1)
theorem fits_ok {l : List Int} {y : Int} {x : Ch} (hl : Inc l) (hy : 0 ≤ y) : rfitsF l y x ↔ okCh l y x := by
  unfold rfitsF okCh
  constructor
  · rintro ⟨⟨_, h2⟩, h3, h4, h5, h6, h7, h8⟩
    have hne : ∃ z ∈ l, z ∈ x.fr := by
      obtain ⟨z, hz⟩ := List.exists_mem_of_length_pos h4.1
      exact ⟨z, h6 z hz, hz⟩
    refine ⟨h3, h2, h4, h5, (wo_nil h4.2.2.1 hl).2 h6, fun n hn hm => ?_, ?_⟩
    · have := (mem_wo h5.2.2.1 h4.2.2.1 n).1 hn
      exact this.2 (h7 n this.1 hm)
    · rw [← rnextF_rep hl h4.2.2.1 h5.2.2.1 hne h7]; exact h8
  · rintro ⟨h3, h2, h4, h5, h6, h7, h8⟩
    have h6' := (wo_nil h4.2.2.1 hl).1 h6
    have h7' : ∀ n ∈ x.to, n ∈ l → n ∈ x.fr := fun n hn hm => by
      by_cases h : n ∈ x.fr
      · exact h
      · exact absurd hm (h7 n ((mem_wo h5.2.2.1 h4.2.2.1 n).2 ⟨hn, h⟩))
    have hne : ∃ z ∈ l, z ∈ x.fr := by
      obtain ⟨z, hz⟩ := List.exists_mem_of_length_pos h4.1
      exact ⟨z, h6' z hz, hz⟩
    exact ⟨⟨by omega, h2⟩, h3, h4, h5, h6', h7', by rw [rnextF_rep hl h4.2.2.1 h5.2.2.1 hne h7']; exact h8⟩
end Go.Proofs.YtijidcigfdblaaaGreatDoor
namespace Go.Proofs.YtijidcigfdblaaaGreatDoor
open Go.RowKit Go.Nm

instance (l : List Int) (y : Int) (x : Ch) : Decidable (rfitsF l y x) := inferInstanceAs (Decidable (_ ∧ _ ∧ _ ∧ _ ∧ _ ∧ _ ∧ _))
/-- what the reference's Check tells behind i changes -/
def rchk : List Int → Int → Nat → List Ch → Int × Int
  | _, _, _, [] => (0, 0)
  | l, y, i, x :: r => if rfitsF l y x then rchk (rnextF l x) x.yr (i + 1) r else (20, ((i + 1 : Nat) : Int))
theorem ok_next {l : List Int} {y : Int} {x : Ch} (hl : Inc l) (h : okCh l y x) : rnextF l x = rep l x.fr x.to ∧ Inc (rep l x.fr x.to) := by
  obtain ⟨h3, h2, h4, h5, h6, h7, h8⟩ := h
  have h6' := (wo_nil h4.2.2.1 hl).1 h6
  have h7' : ∀ n ∈ x.to, n ∈ l → n ∈ x.fr := fun n hn hm => by
    by_cases h : n ∈ x.fr
    · exact h
    · exact absurd hm (h7 n ((mem_wo h5.2.2.1 h4.2.2.1 n).2 ⟨hn, h⟩))
  have hne : ∃ z ∈ l, z ∈ x.fr := by
    obtain ⟨z, hz⟩ := List.exists_mem_of_length_pos h4.1
    exact ⟨z, h6' z hz, hz⟩
  exact ⟨rnextF_rep hl h4.2.2.1 h5.2.2.1 hne h7', rep_inc hl h4.2.2.1 h5.2.2.1 h7'⟩
theorem rchk_vers : ∀ (r : List Ch) (l : List Int) (y : Int) (i : Nat), Inc l → 0 ≤ y → rchk l y i r = if r.length < (versF l y r).length then (0, 0) else (20, ((i + (versF l y r).length : Nat) : Int))
  | [], l, y, i, _, _ => by simp [rchk, versF]
  | x :: r, l, y, i, hl, hy => by
    unfold rchk versF
    by_cases h : okCh l y x
    · rw [if_pos ((fits_ok hl hy).2 h), if_pos h]
      obtain ⟨e, hi⟩ := ok_next hl h
      rw [e, rchk_vers r _ x.yr (i + 1) hi (by have := h.1; omega)]
      simp only [List.length_cons, Nat.add_lt_add_iff_right]
      split
      · rfl
      · congr 2; omega
    · rw [if_neg (fun h' => h ((fits_ok hl hy).1 h')), if_neg h]
      simp
/-- what the reference's Check tells of a book -/
def rcheckOut (b : Bk) : Int × Int := if b.chs.length ≤ 64 then (if Ver b.first then rchk b.first 0 0 b.chs else (20, 0)) else (2, 0)
/-- the reference's version v: the first one, and the changes before v applied -/
def rverF (b : Bk) (v : Nat) : List Int := (b.chs.take v).foldl rnextF b.first
theorem foldl_vers : ∀ (r : List Ch) (l : List Int) (y : Int) (v : Nat), Inc l → r.length < (versF l y r).length → v ≤ r.length → (versF l y r)[v]? = some ((r.take v).foldl rnextF l)
  | r, l, y, 0, _, _, _ => by rw [versF_head]; rfl
  | [], l, y, v + 1, _, _, hv => by simp at hv
  | x :: r, l, y, v + 1, hl, h, hv => by
    unfold versF at h ⊢
    by_cases hx : okCh l y x
    · rw [if_pos hx] at h ⊢
      obtain ⟨e, hi⟩ := ok_next hl hx
      rw [List.getElem?_cons_succ, List.take_succ_cons, List.foldl_cons, e]
      exact foldl_vers r _ _ v hi (by simpa using h) (by simpa using hv)
    · rw [if_neg hx] at h
      simp at h
theorem rver_is {b : Bk} (hb : Val b) {v : Nat} (hv : v ≤ b.chs.length) : (vers b)[v]? = some (rverF b v) := by
  have h2 := hb.2
  unfold vers at h2 ⊢
  by_cases h : Ver b.first
  · rw [if_pos h] at h2 ⊢
    exact foldl_vers _ _ _ _ h.2.2.1 h2 hv
  · rw [if_neg h] at h2
    simp at h2
end Go.Proofs.YtijidcigfdblaaaGreatDoor
namespace Go.Proofs.YtijidcigfdblaaaGreatDoor
open Go.RowKit Go.Nm

theorem vers_late : ∀ (r : List Ch) (l : List Int) (y : Int), r.length < (versF l y r).length → ∀ x ∈ r, y ≤ x.yr
  | [], _, _, _, x, hx => by simp at hx
  | c :: r, l, y, h, x, hx => by
    unfold versF at h
    by_cases hc : okCh l y c
    · rw [if_pos hc] at h
      have h0 := hc.1
      rcases List.mem_cons.1 hx with rfl | hx
      · exact h0
      · have := vers_late r _ _ (by simpa using h) x hx
        omega
    · rw [if_neg hc] at h
      simp at h
end Go.Proofs.YtijidcigfdblaaaGreatDoor
namespace Go.Proofs.YtijidcigfdblaaaGreatDoor
open Go.RowKit Go.Nm

/-- what the region has left in a slot; D: the slots that its operations write -/
def rdF : List (Option Nat) → Nat → (Nat → Value) → Nat → Option Value
  | [], _, _, _ => none
  | none :: D, k, val, q => rdF D (k + 1) val q
  | some d :: D, k, val, q => if d = q then some (val k) else rdF D (k + 1) val q
def rdS (t0 : Array Value) (D : List (Option Nat)) (val : Nat → Value) (q : Nat) : Value := (rdF D 0 val q).getD (t0.getD q undef)
/-- the frame with all of it -/
def wrS : List (Option Nat) → Nat → Array Value → (Nat → Value) → Array Value
  | [], _, t, _ => t
  | none :: D, k, t, val => wrS D (k + 1) t val
  | some d :: D, k, t, val => wrS D (k + 1) (t.setIfInBounds d (val k)) val
def updV (val : Nat → Value) (i : Nat) (v : Value) : Nat → Value := fun j => if j = i then v else val j
/-- no slot is written twice -/
def onceB : List (Option Nat) → Bool
  | [] => true
  | none :: D => onceB D
  | some d :: D => !D.contains (some d) && onceB D
theorem gd_same {t : Array Value} {i : Nat} {v : Value} (h : i < t.size) : (t.setIfInBounds i v).getD i undef = v := by simp [Array.getD, h]
theorem gd_other {t : Array Value} {i k : Nat} {v : Value} (h : k ≠ i) : (t.setIfInBounds i v).getD k undef = t.getD k undef := by
  simp only [Array.getD_eq_getD_getElem?]
  rw [Array.getElem?_setIfInBounds_ne (by omega)]
theorem gd_ext {t t' : Array Value} (hs : t.size = t'.size) (h : ∀ k, t.getD k undef = t'.getD k undef) : t = t' := by
  apply Array.ext hs
  intro i h1 h2
  have := h i
  simpa [Array.getD, h1, h2] using this
theorem rdF_none : ∀ {D : List (Option Nat)} {k : Nat} {val : Nat → Value} {q : Nat}, some q ∉ D → rdF D k val q = none
  | [], _, _, _, _ => rfl
  | none :: D, k, val, q, h => by
    unfold rdF
    exact rdF_none fun h2 => h (List.mem_cons_of_mem _ h2)
  | some d :: D, k, val, q, h => by
    unfold rdF
    rw [if_neg (fun e => h (by rw [e]; exact List.mem_cons_self))]
    exact rdF_none fun h2 => h (List.mem_cons_of_mem _ h2)
theorem wrS_size : ∀ (D : List (Option Nat)) (k : Nat) (t : Array Value) (val : Nat → Value), (wrS D k t val).size = t.size
  | [], _, _, _ => rfl
  | none :: D, k, t, val => wrS_size D (k + 1) t val
  | some d :: D, k, t, val => by
    unfold wrS
    rw [wrS_size D (k + 1)]
    simp
theorem wrS_get : ∀ {D : List (Option Nat)} {k : Nat} {t : Array Value} {val : Nat → Value} {q : Nat}, onceB D = true → (∀ d, some d ∈ D → d < t.size) → (wrS D k t val).getD q undef = (rdF D k val q).getD (t.getD q undef)
  | [], _, _, _, _, _, _ => rfl
  | none :: D, k, t, val, q, h, hs => by
    unfold wrS rdF
    exact wrS_get h fun d hd => hs d (List.mem_cons_of_mem _ hd)
  | some d :: D, k, t, val, q, h, hs => by
    unfold onceB at h
    rw [Bool.and_eq_true] at h
    unfold wrS rdF
    rw [wrS_get h.2 (fun d hd => by simpa using hs d (List.mem_cons_of_mem _ hd))]
    by_cases e : d = q
    · subst e
      rw [if_pos rfl, rdF_none (by simpa using h.1), Option.getD_none, Option.getD_some]
      exact gd_same (hs d List.mem_cons_self)
    · rw [if_neg e, gd_other (Ne.symm e)]
theorem rdF_upd : ∀ {D : List (Option Nat)} {k i : Nat} {val : Nat → Value} {v : Value} {q d : Nat}, onceB D = true → D[i]? = some (some d) → rdF D k (updV val (k + i) v) q = if d = q then some v else rdF D k val q
  | [], _, _, _, _, _, _, _, h => by simp at h
  | none :: D, k, 0, val, v, q, d, h, hi => by simp at hi
  | none :: D, k, i + 1, val, v, q, d, h, hi => by
    unfold rdF
    have := rdF_upd (D := D) (k := k + 1) (i := i) (val := val) (v := v) (q := q) h (by simpa using hi)
    rw [show k + 1 + i = k + (i + 1) by omega] at this
    exact this
  | some c :: D, k, 0, val, v, q, d, h, hi => by
    simp at hi
    subst hi
    unfold onceB at h
    rw [Bool.and_eq_true] at h
    unfold rdF
    by_cases e : c = q
    · subst e
      rw [if_pos rfl, if_pos rfl]
      simp [updV]
    · rw [if_neg e, if_neg e, if_neg e]
      have : ∀ (D : List (Option Nat)) (m : Nat), k < m → rdF D m (updV val k v) q = rdF D m val q := by
        intro D
        induction D with
        | nil => intro m _; rfl
        | cons x D ih =>
          intro m hm
          cases x with
          | none => unfold rdF; exact ih (m + 1) (by omega)
          | some c =>
            unfold rdF
            have e2 : updV val k v m = val m := by simp only [updV]; rw [if_neg (by omega)]
            rw [ih (m + 1) (by omega), e2]
      exact this D (k + 1) (by omega)
  | some c :: D, k, i + 1, val, v, q, d, h, hi => by
    unfold onceB at h
    rw [Bool.and_eq_true] at h
    have hi' : D[i]? = some (some d) := by simpa using hi
    have hm : some d ∈ D := List.mem_of_getElem? hi'
    unfold rdF
    have := rdF_upd (D := D) (k := k + 1) (i := i) (val := val) (v := v) (q := q) h.2 hi'
    rw [show k + 1 + i = k + (i + 1) by omega] at this
    rw [this]
    have e0 : updV val (k + (i + 1)) v k = val k := by simp only [updV]; rw [if_neg (by omega)]
    rw [e0]
    by_cases e : c = q
    · subst e
      have hcd : d ≠ c := fun e => by subst e; simp at h; exact h.1 hm
      rw [if_pos rfl, if_neg hcd, if_pos rfl]
    · rw [if_neg e, if_neg e]
theorem rdF_upd_none : ∀ {D : List (Option Nat)} {k i : Nat} {val : Nat → Value} {v : Value} {q : Nat}, D[i]? = some none → rdF D k (updV val (k + i) v) q = rdF D k val q
  | [], _, _, _, _, _, h => by simp at h
  | none :: D, k, 0, val, v, q, hi => by
    unfold rdF
    have : ∀ (D : List (Option Nat)) (m : Nat), k < m → rdF D m (updV val k v) q = rdF D m val q := by
      intro D
      induction D with
      | nil => intro m _; rfl
      | cons x D ih =>
        intro m hm
        cases x with
        | none => unfold rdF; exact ih (m + 1) (by omega)
        | some c =>
          unfold rdF
          have e2 : updV val k v m = val m := by simp only [updV]; rw [if_neg (by omega)]
          rw [ih (m + 1) (by omega), e2]
    exact this D (k + 1) (by omega)
  | none :: D, k, i + 1, val, v, q, hi => by
    unfold rdF
    have := rdF_upd_none (D := D) (k := k + 1) (i := i) (val := val) (v := v) (q := q) (by simpa using hi)
    rw [show k + 1 + i = k + (i + 1) by omega] at this
    exact this
  | some c :: D, k, 0, val, v, q, hi => by simp at hi
  | some c :: D, k, i + 1, val, v, q, hi => by
    unfold rdF
    have := rdF_upd_none (D := D) (k := k + 1) (i := i) (val := val) (v := v) (q := q) (by simpa using hi)
    rw [show k + 1 + i = k + (i + 1) by omega] at this
    have e0 : updV val (k + (i + 1)) v k = val k := by simp only [updV]; rw [if_neg (by omega)]
    rw [this, e0]
theorem rdF_init {t0 : Array Value} : ∀ {D : List (Option Nat)} {k : Nat} {val : Nat → Value} {q : Nat}, (∀ j d, D[j]? = some (some d) → val (k + j) = t0.getD d undef) → (rdF D k val q).getD (t0.getD q undef) = t0.getD q undef
  | [], _, _, _, _ => rfl
  | none :: D, k, val, q, h => by
    unfold rdF
    exact rdF_init fun j d hj => by
      have := h (j + 1) d (by simpa using hj)
      rw [show k + 1 + j = k + (j + 1) by omega]; exact this
  | some c :: D, k, val, q, h => by
    unfold rdF
    by_cases e : c = q
    · rw [if_pos e, Option.getD_some]
      have := h 0 c rfl
      rw [← e]; exact this
    · rw [if_neg e]
      exact rdF_init fun j d hj => by
        have := h (j + 1) d (by simpa using hj)
        rw [show k + 1 + j = k + (j + 1) by omega]; exact this
/-- what is done is closed: what it waits for is done, too -/
def closedB (ops : Array Oper) (dn : Nat → Bool) : Prop := ∀ i o, ops[i]? = some o → dn i = true → ∀ e ∈ o.after, Region.binds .any e = true → dn e.on = true
/-- the law: I speaks of what is done, of the values that the operations left, and of memory -/
theorem wp_region_vals {P : Program} {ops : Array Oper} {Q : Exit → Act → World → Prop} {id : Nat} {t0 : Array Value} {w : World} (D : List (Option Nat)) (I : (Nat → Bool) → (Nat → Value) → World → Prop) (hm : P.follows .mixedOrders = true) (hb : backB ops = true)
    (hD : (ops.toList.map fun o => o.dst) = D) (hO : onceB D = true) (hs : (D.all fun d => match d with | some d => decide (d < t0.size) | none => true) = true) (hg : (ops.all fun o => o.guard.isNone) = true)
    (h0 : ∀ val, I (fun _ => false) val w.drew)
    (hstep : ∀ dn i o, ops[i]? = some o → dn i = false → (∀ e ∈ o.after, Region.binds .any e = true → dn e.on = true) → closedB ops dn → ∀ val X a, (∀ q, a.tmps.getD q undef = rdS t0 D val q) → (∀ j d, dn j = false → D[j]? = some (some d) → val j = t0.getD d undef) → I dn val X →
      ∀ K, (∀ v X', I (andB dn i) (updV val i v) X' → K (a.put o.dst v) X') → o.wp P a X K Q)
    (hend : ∀ dn val X, (∀ j, j < ops.size → dn j = true) → I dn val X → Q .normal { tmps := wrS D 0 t0 val, defers := [] } X) : (Code.region id ops true).wp P Q { tmps := t0, defers := [] } w := by
  have hin : ∀ d, some d ∈ D → d < t0.size := fun d hd => by
    have := (List.all_eq_true.1 hs) _ hd
    simpa using this
  refine wp_region_done (fun dn a X => a.tmps.size = t0.size ∧ a.defers = [] ∧ closedB ops dn ∧ ∃ val, (∀ q, a.tmps.getD q undef = rdS t0 D val q) ∧ (∀ j d, dn j = false → D[j]? = some (some d) → val j = t0.getD d undef) ∧ I dn val X) hm hb ?_ ?_ ?_
  · refine ⟨rfl, rfl, fun i o _ h => (nomatch h), fun j => match D[j]? with | some (some d) => t0.getD d undef | _ => undef, fun q => ?_, fun j d _ hj => by simp only [hj], h0 _⟩
    exact (rdF_init fun j d hj => by simp only [Nat.zero_add, hj]).symm
  · intro dn i o hi hd hp a X ⟨h1, h2, hc, val, h4, h6, h5⟩
    have hgo : o.guard = none := by
      have h := hg
      rw [Array.all_eq_true_iff_forall_mem] at h
      have := h o (Array.mem_of_getElem? hi)
      cases h3 : o.guard with
      | none => rfl
      | some x => rw [h3] at this; cases this
    have hDi : D[i]? = some o.dst := by rw [← hD, List.getElem?_map, Array.getElem?_toList, hi]; rfl
    refine wpOp_bare hi hgo (hstep dn i o hi hd hp hc val X a h4 h6 h5 _ fun v X' hI => ?_)
    refine ⟨?_, ?_, ?_, updV val i v, fun q => ?_, fun j d hj hjd => ?_, hI⟩
    · cases hd2 : o.dst with
      | none => exact h1
      | some d => simp [Act.put, h1]
    · cases hd2 : o.dst with
      | none => exact h2
      | some d => exact h2
    · intro j p hj hjd e he hbd
      unfold andB at hjd ⊢
      by_cases hji : j = i
      · subst hji
        rw [hi] at hj
        injection hj with hj
        subst hj
        rw [hp e he hbd, Bool.or_true]
      · have : (j == i) = false := by simpa using hji
        rw [this, Bool.false_or] at hjd
        rw [hc j p hj hjd e he hbd, Bool.or_true]
    · cases hd2 : o.dst with
      | none =>
        rw [hd2] at hDi
        have := rdF_upd_none (k := 0) (val := val) (v := v) (q := q) hDi
        rw [Nat.zero_add] at this
        unfold rdS
        rw [this]
        exact h4 q
      | some d =>
        rw [hd2] at hDi
        have := rdF_upd (k := 0) (val := val) (v := v) (q := q) hO hDi
        rw [Nat.zero_add] at this
        unfold rdS
        rw [this]
        by_cases e : d = q
        · subst e
          rw [if_pos rfl]
          exact gd_same (by rw [h1]; exact hin d (List.mem_of_getElem? hDi))
        · rw [if_neg e]
          exact (gd_other (Ne.symm e)).trans (h4 q)
    · unfold andB at hj
      rw [Bool.or_eq_false_iff] at hj
      have hji : j ≠ i := by simpa using hj.1
      simp only [updV]
      rw [if_neg hji]
      exact h6 j d hj.2 hjd
  · intro dn a X hd ⟨h1, h2, _, val, h4, _, h5⟩
    have e : a = { tmps := wrS D 0 t0 val, defers := [] } := by
      obtain ⟨tm, ds⟩ := a
      simp only at h1 h2 h4
      subst h2
      refine congrArg (fun t => Act.mk t []) (gd_ext (by rw [wrS_size, h1]) fun q => ?_)
      rw [h4 q, wrS_get hO hin]
      rfl
    rw [e]
    exact hend dn val X hd h5
section
variable {o : Oper} {a : Act} {w : World} {K : Act → World → Prop} {Q : Exit → Act → World → Prop}
theorem opMove (q : Nat) (v : Value) (ho : o.op = .move (.tmp q)) (hq : a.tmps.getD q undef = v) (h : K (a.put o.dst v) w) : o.wp Tryz.prog a w K Q := by
  unfold Oper.wp execOp
  have he : a.eval (.tmp q) = v := hq
  simp only [ho, he]
  go_simp
  exact h
theorem opAssign (q : Nat) (v : Value) (ho : o.op = .assign (.tmp q)) (hq : a.tmps.getD q undef = v) (h : K (a.put o.dst v) w) : o.wp Tryz.prog a w K Q := by
  unfold Oper.wp execOp
  have he : a.eval (.tmp q) = v := hq
  simp only [ho, he]
  go_simp
  exact h
theorem opIx (q r n c k : Nat) (ad : Addr) (ho : o.op = .indexAddr 30 (.tmp q) (.tmp r)) (hq : a.tmps.getD q undef = .slice (some ad) n c) (hr : a.tmps.getD r undef = .int .i64 (k : Int)) (hk : k < n) (h : K (a.put o.dst (.pointer (some (ad.add k)))) w) : o.wp Tryz.prog a w K Q := by
  unfold Oper.wp execOp
  have he : a.eval (.tmp q) = .slice (some ad) n c := hq
  have he2 : a.eval (.tmp r) = .int .i64 (k : Int) := hr
  simp only [ho, he, he2]
  go_simp
  exact h
theorem opIxS (q r n c k : Nat) (ad : Addr) (ho : o.op = .indexAddr 235 (.tmp q) (.tmp r)) (hq : a.tmps.getD q undef = .slice (some ad) n c) (hr : a.tmps.getD r undef = .int .i64 (k : Int)) (hk : k < n) (h : K (a.put o.dst (.pointer (some (ad.add k)))) w) : o.wp Tryz.prog a w K Q := by
  unfold Oper.wp execOp
  have he : a.eval (.tmp q) = .slice (some ad) n c := hq
  have he2 : a.eval (.tmp r) = .int .i64 (k : Int) := hr
  simp only [ho, he, he2]
  go_simp
  exact h
theorem opLd (q : Nat) (ad : Addr) (v : Value) (ho : o.op = .load 3 (.tmp q)) (hq : a.tmps.getD q undef = .pointer (some ad)) (hc : w.cell? ad = some v) (h : K (a.put o.dst v) w) : o.wp Tryz.prog a w K Q := by
  unfold Oper.wp execOp
  have he : a.eval (.tmp q) = .pointer (some ad) := hq
  simp only [ho, he]
  go_simp
  exact h
theorem opLdS (q : Nat) (ad : Addr) (v : Value) (ho : o.op = .load 30 (.tmp q)) (hq : a.tmps.getD q undef = .pointer (some ad)) (hc : w.cell? ad = some v) (h : K (a.put o.dst v) w) : o.wp Tryz.prog a w K Q := by
  unfold Oper.wp execOp
  have he : a.eval (.tmp q) = .pointer (some ad) := hq
  simp only [ho, he]
  go_simp
  exact h
theorem opNew (ho : o.op = .buildSlice 30 0 #[]) (h : K (a.put o.dst (.slice (some ⟨w.heap.size, 0, none⟩) 0 0)) (w.alloc (.cells #[] 3))) : o.wp Tryz.prog a w K Q := by
  unfold Oper.wp execOp
  simp only [ho]
  go_simp
  exact h
theorem opBox (q : Nat) (y : Int) (ho : o.op = .buildSlice 30 1 #[(0, .tmp q)]) (hq : a.tmps.getD q undef = .int .i64 y) (h : K (a.put o.dst (.slice (some ⟨w.heap.size, 0, none⟩) 1 1)) (w.alloc (.cells #[.int .i64 y] 3))) : o.wp Tryz.prog a w K Q := by
  unfold Oper.wp execOp
  have he : a.tmps[q]?.getD undef = .int .i64 y := by rw [← hq, Array.getD_eq_getD_getElem?]
  simp only [ho]
  go_simp
  exact h
theorem opBoxS (q : Nat) (A : Option Addr) (n c : Nat) (ho : o.op = .buildSlice 235 1 #[(0, .tmp q)]) (hq : a.tmps.getD q undef = .slice A n c) (h : K (a.put o.dst (.slice (some ⟨w.heap.size, 0, none⟩) 1 1)) (w.alloc (.cells #[.slice A n c] 30))) : o.wp Tryz.prog a w K Q := by
  unfold Oper.wp execOp
  have he : a.tmps[q]?.getD undef = .slice A n c := by rw [← hq, Array.getD_eq_getD_getElem?]
  simp only [ho]
  go_simp
  exact h
end
theorem wp_opaque {P : Program} {c : Code} {Q : Exit → Act → World → Prop} {T : Array Value} {ds : List Deferred} {w : World} (h : ∀ t0, t0 = T → c.wp P Q { tmps := t0, defers := ds } w) : c.wp P Q { tmps := T, defers := ds } w := h T rfl
end Go.Proofs.YtijidcigfdblaaaGreatDoor
namespace Go.Proofs.YtijidcigfdblaaaGreatDoor
open Go.RowKit Go.Nm

/-- an append to an own row of numbers -/
theorem wpList_appN {ops : Array Oper} {rest : List Oper} {o : Oper} {a : Act} {Q : Exit → Act → World → Prop} {W w : World} {B : Nat} {v u : Value} {pre M : List Int} (hgd : o.guard = none) (s x : Operand)
    (ho : o.op = .call { callee := .builtin .append, args := #[s, x], argTypes := #[30, 30] }) (hO : OwN W v pre w) (hs : a.eval s = v) (hx : a.eval x = u) (hM : InSl w B u M) (hl : pre.length + M.length ≤ 3000000)
    (h : ∀ v' w', OwN W v' (pre ++ M) w' → w.grownBy w' v.ownBlock → wpList Tryz.prog ops Q rest (a.put o.dst v') w') : wpList Tryz.prog ops Q (o :: rest) a w := by
  obtain ⟨A, c, rfl, hc, hcm, hA⟩ := hM
  obtain ⟨i0, hi0, hz0, hz1, hz2⟩ := infoI
  cases A with
  | none =>
    have h0 := hA.none_nil
    subst h0
    refine wpList_append_nil hgd s x 30 ho W.heap.size 3 i0 1 c Tryz.underlying30 hi0 v pre.length (intsV pre) hs hO.own hx ?_
    exact h v w (by rw [List.append_nil]; exact hO) (grown_of_below (Below.refl _ _) _)
  | some ad =>
    refine wpList_append_own w hgd s x 30 ho W.heap.size 3 i0 (.int .i64 0) 1 8 Tryz.underlying30 hi0 hz0 hz1 hz2 rfl (by decide) v pre.length (intsV pre) hs hO.own ad M.length c (intsV M) hx (by rw [intsV_len, Nat.mul_one]) hA.cells (intsV_one M) (by unfold maxLen; omega) (by omega) hO.bound ?_
    intro v' w' h1 h2 _
    exact h v' w' (hO.grown (M := M) (Below.refl _ _) h2 h1) h2
/-- an empty list of the call's own -/
theorem OwN.lit (W : World) : OwN W (.slice (some ⟨W.heap.size, 0, none⟩) 0 0) [] (W.alloc (.cells #[] 3)) :=
  ⟨below_new _, World.ownsRow_lit (size := 1) W #[] 0 (Nat.le_refl _) (by unfold maxLen; omega) rfl⟩
theorem InSl.take {w : World} {B n c i : Nat} {A : Option Addr} {L : List Int} (h : InSl w B (.slice A n c) L) (hi : i ≤ L.length) : InSl w B (.slice A i c) (L.take i) := by
  obtain ⟨A', c', e, h1, h2, h3⟩ := h
  injection e with e1 e2 e3
  subst e1; subst e3
  exact ⟨A, c, by rw [List.length_take, Nat.min_eq_left hi], by rw [List.length_take]; omega, h2, h3.take i⟩
theorem InSl.drop {w : World} {B n c i : Nat} {ad : Addr} {L : List Int} (h : InSl w B (.slice (some ad) n c) L) (hi : i ≤ L.length) : InSl w B (.slice (some (ad.add i)) (n - i) (c - i)) (L.drop i) := by
  obtain ⟨A', c', e, h1, h2, h3⟩ := h
  injection e with e1 e2 e3
  subst e1; subst e3; subst e2
  exact ⟨_, c - i, by rw [List.length_drop], by rw [List.length_drop]; omega, by omega, h3.drop i⟩
end Go.Proofs.YtijidcigfdblaaaGreatDoor
namespace Go.Proofs.YtijidcigfdblaaaGreatDoor
open Go.RowKit Go.Nm

theorem filt_next {p : Int → Bool} {L : List Int} {i : Nat} {x : Int} (h : L[i]? = some x) : (L.take (i + 1)).filter p = (L.take i).filter p ++ (if p x then [x] else []) := by
  rw [take_next h, List.filter_append]
  by_cases hp : p x <;> simp [hp]
theorem puts_next {t o : List Int} {i : Nat} {x : Int} (h : t[i]? = some x) : (t.take (i + 1)).foldl (fun o n => rputF n o) o = rputF x ((t.take i).foldl (fun o n => rputF n o) o) := by
  rw [take_next h, List.foldl_append]; rfl
end Go.Proofs.YtijidcigfdblaaaGreatDoor
namespace Go.Proofs.YtijidcigfdblaaaGreatDoor
open Go.RowKit Go.Nm

end Go.Proofs.YtijidcigfdblaaaGreatDoor
namespace Go.Proofs.YtijidcigfdblaaaGreatDoor
open Go.RowKit Go.Nm

structure FtI (V : World) (g : List Int) (y : Int) (R : Value → World → Prop) (mv so iv p4 sg sl kv p9 yv : Value) (dn : Nat → Bool) (val : Nat → Value) (X : World) : Prop where
  s0 : dn 0 = true → val 0 = mv
  s2 : dn 2 = true → val 2 = so
  s3 : dn 3 = true → val 3 = iv
  s4 : dn 4 = true → val 4 = p4
  s5 : dn 5 = true → val 5 = sg
  s7 : dn 7 = true → val 7 = sl
  s8 : dn 8 = true → val 8 = kv
  s9 : dn 9 = true → val 9 = p9
  s10 : dn 10 = true → val 10 = yv
  bel : dn 14 = false → Below V.heap.size V X
  e1 : dn 1 = true → dn 6 = false → OwN V (val 1) [] X
  e6 : dn 6 = true → dn 12 = false → OwN V (val 6) g X
  e11 : dn 11 = true → dn 12 = false → ∃ gb, val 11 = .slice (some ⟨gb, 0, none⟩) 1 1 ∧ X.heap[gb]? = some (.cells #[.int .i64 y] 3) ∧ (dn 1 = true → dn 6 = false → (val 1).ownBlock ≠ some gb) ∧ (dn 6 = true → (val 6).ownBlock ≠ some gb)
  e12 : dn 12 = true → dn 14 = false → OwN V (val 12) (g ++ [y]) X
  e13 : dn 13 = true → dn 14 = false → ∃ gs, val 13 = .slice (some ⟨gs, 0, none⟩) 1 1 ∧ X.heap[gs]? = some (.cells #[val 12] 30)
  e14 : dn 14 = true → R (val 14) X
  e15 : dn 15 = true → val 15 = val 14
theorem box_sl {X : World} {gb : Nat} {y : Int} (h : X.heap[gb]? = some (.cells #[.int .i64 y] 3)) : InSl X X.heap.size (.slice (some ⟨gb, 0, none⟩) 1 1) [y] :=
  ⟨some ⟨gb, 0, none⟩, 1, rfl, Nat.le_refl _, by unfold maxLen; omega, fun i z hz => by
    have hi : i = 0 := by have := (List.getElem?_eq_some_iff.1 hz).1; simp at this; omega
    subst hi
    simp at hz; subst hz
    exact ⟨_, rfl, (Array.getElem?_eq_some_iff.1 h).1, by simp [World.cell?, h, Addr.add]⟩⟩
theorem f_t {b : Bool} {p : Prop} (h : b = false) (h2 : b = true) : p := by rw [h] at h2; cases h2
section
variable {V : World} {g : List Int} {y : Int} {R : Value → World → Prop} {mv so iv p4 sg sl kv p9 yv : Value} {dn : Nat → Bool} {val : Nat → Value} {X Y : World}
theorem FtI.op0 (h : FtI V g y R mv so iv p4 sg sl kv p9 yv dn val X) : FtI V g y R mv so iv p4 sg sl kv p9 yv (andB dn 0) (updV val 0 (mv)) X :=
  ⟨(fun _ => rfl), h.s2, h.s3, h.s4, h.s5, h.s7, h.s8, h.s9, h.s10, h.bel, h.e1, h.e6, h.e11, h.e12, h.e13, h.e14, h.e15⟩
theorem FtI.op2 (h : FtI V g y R mv so iv p4 sg sl kv p9 yv dn val X) : FtI V g y R mv so iv p4 sg sl kv p9 yv (andB dn 2) (updV val 2 (so)) X :=
  ⟨h.s0, (fun _ => rfl), h.s3, h.s4, h.s5, h.s7, h.s8, h.s9, h.s10, h.bel, h.e1, h.e6, h.e11, h.e12, h.e13, h.e14, h.e15⟩
theorem FtI.op3 (h : FtI V g y R mv so iv p4 sg sl kv p9 yv dn val X) : FtI V g y R mv so iv p4 sg sl kv p9 yv (andB dn 3) (updV val 3 (iv)) X :=
  ⟨h.s0, h.s2, (fun _ => rfl), h.s4, h.s5, h.s7, h.s8, h.s9, h.s10, h.bel, h.e1, h.e6, h.e11, h.e12, h.e13, h.e14, h.e15⟩
theorem FtI.op4 (h : FtI V g y R mv so iv p4 sg sl kv p9 yv dn val X) : FtI V g y R mv so iv p4 sg sl kv p9 yv (andB dn 4) (updV val 4 (p4)) X :=
  ⟨h.s0, h.s2, h.s3, (fun _ => rfl), h.s5, h.s7, h.s8, h.s9, h.s10, h.bel, h.e1, h.e6, h.e11, h.e12, h.e13, h.e14, h.e15⟩
theorem FtI.op5 (h : FtI V g y R mv so iv p4 sg sl kv p9 yv dn val X) : FtI V g y R mv so iv p4 sg sl kv p9 yv (andB dn 5) (updV val 5 (sg)) X :=
  ⟨h.s0, h.s2, h.s3, h.s4, (fun _ => rfl), h.s7, h.s8, h.s9, h.s10, h.bel, h.e1, h.e6, h.e11, h.e12, h.e13, h.e14, h.e15⟩
theorem FtI.op7 (h : FtI V g y R mv so iv p4 sg sl kv p9 yv dn val X) : FtI V g y R mv so iv p4 sg sl kv p9 yv (andB dn 7) (updV val 7 (sl)) X :=
  ⟨h.s0, h.s2, h.s3, h.s4, h.s5, (fun _ => rfl), h.s8, h.s9, h.s10, h.bel, h.e1, h.e6, h.e11, h.e12, h.e13, h.e14, h.e15⟩
theorem FtI.op8 (h : FtI V g y R mv so iv p4 sg sl kv p9 yv dn val X) : FtI V g y R mv so iv p4 sg sl kv p9 yv (andB dn 8) (updV val 8 (kv)) X :=
  ⟨h.s0, h.s2, h.s3, h.s4, h.s5, h.s7, (fun _ => rfl), h.s9, h.s10, h.bel, h.e1, h.e6, h.e11, h.e12, h.e13, h.e14, h.e15⟩
theorem FtI.op9 (h : FtI V g y R mv so iv p4 sg sl kv p9 yv dn val X) : FtI V g y R mv so iv p4 sg sl kv p9 yv (andB dn 9) (updV val 9 (p9)) X :=
  ⟨h.s0, h.s2, h.s3, h.s4, h.s5, h.s7, h.s8, (fun _ => rfl), h.s10, h.bel, h.e1, h.e6, h.e11, h.e12, h.e13, h.e14, h.e15⟩
theorem FtI.op10 (h : FtI V g y R mv so iv p4 sg sl kv p9 yv dn val X) : FtI V g y R mv so iv p4 sg sl kv p9 yv (andB dn 10) (updV val 10 (yv)) X :=
  ⟨h.s0, h.s2, h.s3, h.s4, h.s5, h.s7, h.s8, h.s9, (fun _ => rfl), h.bel, h.e1, h.e6, h.e11, h.e12, h.e13, h.e14, h.e15⟩
theorem FtI.op1 (h : FtI V g y R mv so iv p4 sg sl kv p9 yv dn val X) (n6 : dn 6 = false) (n12 : dn 12 = false) (n13 : dn 13 = false) (n14 : dn 14 = false) (n15 : dn 15 = false) : FtI V g y R mv so iv p4 sg sl kv p9 yv (andB dn 1) (updV val 1 (.slice (some ⟨X.heap.size, 0, none⟩) 0 0)) (X.alloc (.cells #[] 3)) :=
  ⟨h.s0, h.s2, h.s3, h.s4, h.s5, h.s7, h.s8, h.s9, h.s10, (fun _ => (h.bel n14).trans ((below_new _).mono (h.bel n14).size)), (fun _ _ => ⟨(h.bel n14).trans ((below_new _).mono (h.bel n14).size), World.ownsRow_lit (size := 1) X #[] 0 (h.bel n14).size (by unfold maxLen; omega) rfl⟩), (fun d => f_t n6 d), (fun d n => by obtain ⟨gb, h1, h2, _, _⟩ := h.e11 d n; exact ⟨gb, h1, ((below_new _).block _ (Array.getElem?_eq_some_iff.1 h2).1).trans h2, fun _ _ e => (by have := (Array.getElem?_eq_some_iff.1 h2).1; have e2 : X.heap.size = gb := (by injection e); omega), fun d => f_t n6 d⟩), (fun d => f_t n12 d), (fun d => f_t n13 d), (fun d => f_t n14 d), (fun d => f_t n15 d)⟩
theorem FtI.op6 (h : FtI V g y R mv so iv p4 sg sl kv p9 yv dn val X) (y1 : dn 1 = true) (n6 : dn 6 = false) (n12 : dn 12 = false) (n13 : dn 13 = false) (n14 : dn 14 = false) (n15 : dn 15 = false) {u : Value} (hO : OwN V u g Y) (hg : X.grownBy Y (val 1).ownBlock) (hob : u.ownBlock = (val 1).ownBlock ∨ u.ownBlock = some X.heap.size) : FtI V g y R mv so iv p4 sg sl kv p9 yv (andB dn 6) (updV val 6 (u)) Y :=
  ⟨h.s0, h.s2, h.s3, h.s4, h.s5, h.s7, h.s8, h.s9, h.s10, (fun _ => hO.bel), (fun _ n => nomatch n), (fun _ _ => hO), (fun d n => by obtain ⟨gb, h1, h2, h3, _⟩ := h.e11 d n; exact ⟨gb, h1, (hg.block _ (Array.getElem?_eq_some_iff.1 h2).1 (fun e => h3 y1 n6 e.symm)).trans h2, (fun _ n => nomatch n), fun _ e => (by have := (Array.getElem?_eq_some_iff.1 h2).1; rcases hob with e2 | e2; exact h3 y1 n6 (e2.symm.trans e); have e3 := e2.symm.trans e; injection e3 with e3; omega)⟩), (fun d => f_t n12 d), (fun d => f_t n13 d), (fun d => f_t n14 d), (fun d => f_t n15 d)⟩
theorem FtI.op11 (h : FtI V g y R mv so iv p4 sg sl kv p9 yv dn val X) (n12 : dn 12 = false) (n13 : dn 13 = false) (n14 : dn 14 = false) (n15 : dn 15 = false) : FtI V g y R mv so iv p4 sg sl kv p9 yv (andB dn 11) (updV val 11 (.slice (some ⟨X.heap.size, 0, none⟩) 1 1)) (X.alloc (.cells #[.int .i64 y] 3)) :=
  ⟨h.s0, h.s2, h.s3, h.s4, h.s5, h.s7, h.s8, h.s9, h.s10, (fun _ => (h.bel n14).trans ((below_new _).mono (h.bel n14).size)), (fun d n => (h.e1 d n).step (below_new _)), (fun d n => (h.e6 d n).step (below_new _)), (fun _ _ => ⟨X.heap.size, rfl, World.alloc_heap_new X _, fun d n e => (by have := ((h.e1 d n).own.lt _ e).2; omega), fun d e => (by have := ((h.e6 d n12).own.lt _ e).2; omega)⟩), (fun d => f_t n12 d), (fun d => f_t n13 d), (fun d => f_t n14 d), (fun d => f_t n15 d)⟩
theorem FtI.op12 (h : FtI V g y R mv so iv p4 sg sl kv p9 yv dn val X) (y6 : dn 6 = true) (n13 : dn 13 = false) (n14 : dn 14 = false) (n15 : dn 15 = false) {u : Value} (hO : OwN V u (g ++ [y]) Y) : FtI V g y R mv so iv p4 sg sl kv p9 yv (andB dn 12) (updV val 12 (u)) Y :=
  ⟨h.s0, h.s2, h.s3, h.s4, h.s5, h.s7, h.s8, h.s9, h.s10, (fun _ => hO.bel), (fun _ n => f_t n y6), (fun _ n => nomatch n), (fun _ n => nomatch n), (fun _ _ => hO), (fun d => f_t n13 d), (fun d => f_t n14 d), (fun d => f_t n15 d)⟩
theorem FtI.op13 (h : FtI V g y R mv so iv p4 sg sl kv p9 yv dn val X) (y6 : dn 6 = true) (y12 : dn 12 = true) (n14 : dn 14 = false) (n15 : dn 15 = false) : FtI V g y R mv so iv p4 sg sl kv p9 yv (andB dn 13) (updV val 13 (.slice (some ⟨X.heap.size, 0, none⟩) 1 1)) (X.alloc (.cells #[val 12] 30)) :=
  ⟨h.s0, h.s2, h.s3, h.s4, h.s5, h.s7, h.s8, h.s9, h.s10, (fun _ => (h.bel n14).trans ((below_new _).mono (h.bel n14).size)), (fun _ n => f_t n y6), (fun _ n => f_t n y12), (fun _ n => f_t n y12), (fun d n => (h.e12 d n).step (below_new _)), (fun _ _ => ⟨X.heap.size, rfl, World.alloc_heap_new X _⟩), (fun d => f_t n14 d), (fun d => f_t n15 d)⟩
theorem FtI.op14 (h : FtI V g y R mv so iv p4 sg sl kv p9 yv dn val X) (y6 : dn 6 = true) (y12 : dn 12 = true) (n15 : dn 15 = false) {u : Value} (hR : R u Y) : FtI V g y R mv so iv p4 sg sl kv p9 yv (andB dn 14) (updV val 14 (u)) Y :=
  ⟨h.s0, h.s2, h.s3, h.s4, h.s5, h.s7, h.s8, h.s9, h.s10, (fun n => nomatch n), (fun _ n => f_t n y6), (fun _ n => f_t n y12), (fun _ n => f_t n y12), (fun _ n => nomatch n), (fun _ n => nomatch n), (fun _ => hR), (fun d => f_t n15 d)⟩
theorem FtI.op15 (h : FtI V g y R mv so iv p4 sg sl kv p9 yv dn val X) : FtI V g y R mv so iv p4 sg sl kv p9 yv (andB dn 15) (updV val 15 (val 14)) X :=
  ⟨h.s0, h.s2, h.s3, h.s4, h.s5, h.s7, h.s8, h.s9, h.s10, h.bel, h.e1, h.e6, h.e11, h.e12, h.e13, h.e14, (fun _ => rfl)⟩
end
end Go.Proofs.YtijidcigfdblaaaGreatDoor
namespace Go.Proofs.YtijidcigfdblaaaGreatDoor
open Go.RowKit Go.Nm

/-- all versions of a book have names, in order -/
theorem versF_ver : ∀ (l : List Ch) (a : List Int) (y : Int), Ver a → ∀ L ∈ versF a y l, Ver L
  | [], a, y, h, L, hL => by simp [versF] at hL; subst hL; exact h
  | x :: l, a, y, h, L, hL => by
    unfold versF at hL
    split at hL
    · rename_i hx
      rcases List.mem_cons.1 hL with rfl | hL
      · exact h
      · have hf := hx.2.2.1
        have ht := hx.2.2.2.1
        have hd : ∀ z ∈ x.to, z ∈ a → z ∈ x.fr := fun z hz hza => Classical.byContradiction fun hn => hx.2.2.2.2.2.1 z ((mem_wo ht.2.2.1 hf.2.2.1 z).2 ⟨hz, hn⟩) hza
        have hne : rep a x.fr x.to ≠ [] := rep_ne (fun e => by have := h.1; rw [e] at this; simp at this) (fun e => by have := ht.1; rw [e] at this; simp at this)
        refine versF_ver l _ _ ⟨List.length_pos_iff.2 hne, hx.2.2.2.2.2.2, rep_inc h.2.2.1 hf.2.2.1 ht.2.2.1 hd, fun z hz => ?_⟩ L hL
        rcases (mem_rep h.2.2.1 hf.2.2.1).1 hz with ⟨h1, _⟩ | ⟨h1, _⟩
        · exact h.2.2.2 z h1
        · exact ht.2.2.2 z h1
    · simp at hL; subst hL; exact h
theorem vers_ver {b : Bk} : ∀ L ∈ vers b, Ver L := fun L hL => by
  unfold vers at hL
  split at hL
  · rename_i h; exact versF_ver _ _ _ h L hL
  · simp at hL
/-- a map of places: where each name stands -/
structure PlM (W : World) (mb n : Nat) (f : Int → Int) (X : World) (to : List Int) : Prop where
  mi : MI W mb n f X
  at_ : ∀ (k : Nat) (z : Int), to[k]? = some z → f z = (k : Int)
theorem MI.kept {W X Y : World} {mb n : Nat} {f : Int → Int} {row : Option Nat} (h : MI W mb n f X) (hg : X.grownBy Y row) (hr : ∀ r, row = some r → W.heap.size ≤ r ∧ r ≠ mb) : MI W mb n f Y := by
  obtain ⟨hb, hw, ⟨D, h1, h2⟩, h3⟩ := h
  exact ⟨hb.grown hg hb.size (fun k e => (hr k e).1), hw, ⟨D, h1.kept hg (fun e => (hr _ e.symm).2 rfl), h2⟩, h3⟩
theorem MI.step {W X Y : World} {mb n : Nat} {f : Int → Int} (h : MI W mb n f X) (hb : Below X.heap.size X Y) : MI W mb n f Y := h.kept (grown_of_below hb none) (fun _ e => nomatch e)
end Go.Proofs.YtijidcigfdblaaaGreatDoor
namespace Go.Proofs.YtijidcigfdblaaaGreatDoor
open Go.RowKit Go.Nm

/-- what a name is turned to, by pairs -/
def tr (y : Int) (Z : List (List Int × Int)) : List Int := (Z.filter fun p => decide (y ∈ p.1)).map fun p => p.2
def turnF (a : List (List Int)) (fr to : List Int) : List (List Int) := to.map fun y => tr y (a.zip fr)
theorem tr_next {y : Int} {Z : List (List Int × Int)} {i : Nat} {l : List Int} {x : Int} (h : Z[i]? = some (l, x)) : tr y (Z.take (i + 1)) = tr y (Z.take i) ++ (if y ∈ l then [x] else []) := by
  unfold tr
  rw [show Z.take (i + 1) = Z.take i ++ [(l, x)] from by rw [List.take_add_one, h]; rfl, List.filter_append, List.map_append]
  by_cases e : y ∈ l <;> simp [e]
theorem tr_len (y : Int) (Z : List (List Int × Int)) : (tr y Z).length ≤ Z.length := by
  unfold tr
  rw [List.length_map]
  exact List.length_filter_le _ _
def updP {α : Type} (f : Nat → α) (k : Nat) (v : α) : Nat → α := fun j => if j = k then v else f j
theorem setCell_grown' (W : World) (b k : Nat) (v : Value) : W.grownBy (W.setCell ⟨b, k, none⟩ v) (some b) :=
  ⟨rfl, rfl, rfl, Nat.le_of_eq (by simp), fun j _ hne => heap_setCell_other W ⟨b, k, none⟩ j v fun h => hne (by rw [h])⟩
theorem add_zero_k (go k : Nat) : (⟨go, 0, none⟩ : Addr).add k = ⟨go, k, none⟩ := by
  unfold Addr.add
  split
  · rename_i h; rw [h]
  · simp
/-- a row of own rows, beside a map -/
structure TuI (W : World) (go nt : Nat) (vals : Nat → Value) (P : Nat → List Int) (mb nm : Nat) (f : Int → Int) (X : World) : Prop where
  mi : MI W mb nm f X
  out : ∃ cs : Array Value, X.heap[go]? = some (.cells cs 30) ∧ cs.size = nt ∧ ∀ k, k < nt → cs[k]? = some (vals k)
  base : W.heap.size ≤ go
  own : ∀ k, k < nt → X.ownsRow W.heap.size 3 1 (vals k) (P k).length (intsV (P k))
  ap : ∀ j k, j < nt → k < nt → j ≠ k → ∀ g, (vals j).ownBlock = some g → (vals k).ownBlock ≠ some g
  off : ∀ k g, k < nt → (vals k).ownBlock = some g → g ≠ go ∧ g ≠ mb
  ne : mb ≠ go
section
variable {W : World} {go nt mb nm : Nat} {vals : Nat → Value} {P : Nat → List Int} {f : Int → Int} {X Y : World}
theorem TuI.bel (h : TuI W go nt vals P mb nm f X) : Below W.heap.size W X := h.mi.bel
theorem TuI.step (h : TuI W go nt vals P mb nm f X) (hb : Below X.heap.size X Y) : TuI W go nt vals P mb nm f Y := by
  obtain ⟨cs, h1, h2, h3⟩ := h.out
  exact ⟨h.mi.step hb, ⟨cs, (hb.block _ (Array.getElem?_eq_some_iff.1 h1).1).trans h1, h2, h3⟩, h.base, fun k hk => own_step (h.own k hk) hb, h.ap, h.off, h.ne⟩
theorem TuI.cell (h : TuI W go nt vals P mb nm f X) {k : Nat} (hk : k < nt) : X.cell? ⟨go, k, none⟩ = some (vals k) := by
  obtain ⟨cs, h1, h2, h3⟩ := h.out
  simp only [World.cell?, h1]
  exact h3 k hk
theorem TuI.froz (h : TuI W go nt vals P mb nm f X) (k : Nat) : X.frozen? ⟨go, k, none⟩ = false := by
  obtain ⟨cs, h1, h2, h3⟩ := h.out
  exact frozen_cells h1 k
theorem TuI.lt (h : TuI W go nt vals P mb nm f X) : go < X.heap.size := by
  obtain ⟨cs, h1, h2, h3⟩ := h.out
  exact (Array.getElem?_eq_some_iff.1 h1).1
theorem TuI.mlt (h : TuI W go nt vals P mb nm f X) : mb < X.heap.size := by
  obtain ⟨_, _, ⟨D, h1, _⟩, _⟩ := h.mi
  exact h1.lt
/-- one of them grows, and is put back into its place -/
theorem TuI.push (h : TuI W go nt vals P mb nm f X) {k : Nat} (hk : k < nt) {x : Int} {v' : Value} (ho : Y.ownsRow W.heap.size 3 1 v' (P k ++ [x]).length (intsV (P k ++ [x]))) (hg : X.grownBy Y (vals k).ownBlock)
    (hob : v'.ownBlock = (vals k).ownBlock ∨ v'.ownBlock = some X.heap.size) :
    TuI W go nt (updP vals k v') (updP P k (P k ++ [x])) mb nm f (Y.setCell ⟨go, k, none⟩ v') ∧ Y.cell? ⟨go, k, none⟩ = some (vals k) ∧ Y.frozen? ⟨go, k, none⟩ = false := by
  obtain ⟨cs, h1, h2, h3⟩ := h.out
  have hgo : Y.heap[go]? = some (.cells cs 30) := (hg.block _ (Array.getElem?_eq_some_iff.1 h1).1 (fun e => (h.off k go hk e.symm).1 rfl)).trans h1
  have hoff' : ∀ g, v'.ownBlock = some g → g ≠ go ∧ g ≠ mb := fun g e => by
    rcases hob with e2 | e2
    · exact h.off k g hk (e2.symm.trans e)
    · have e3 : X.heap.size = g := by have := e2.symm.trans e; injection this
      have := h.lt
      have := h.mlt
      exact ⟨by omega, by omega⟩
  have hst := setCell_grown' Y go k v'
  refine ⟨⟨?_, ?_, h.base, ?_, ?_, ?_, h.ne⟩, ?_, ?_⟩
  · refine ((h.mi.kept hg fun r e => ⟨(h.own k hk).lt r e |>.1, (h.off k r hk e).2⟩).kept hst fun r e => ?_)
    injection e with e
    exact ⟨by have := h.base; omega, fun e2 => h.ne (by omega)⟩
  · refine ⟨cs.setIfInBounds k v', heap_setCell_same Y go k _ _ v' hgo, by simp [h2], fun j hj => ?_⟩
    unfold updP
    by_cases e : j = k
    · subst e
      rw [if_pos rfl, Array.getElem?_setIfInBounds_self_of_lt (by omega)]
    · rw [if_neg e, Array.getElem?_setIfInBounds_ne (by omega)]
      exact h3 j hj
  · intro j hj
    unfold updP
    by_cases e : j = k
    · subst e
      rw [if_pos rfl, if_pos rfl]
      exact ho.kept hst (.inr fun e => by exact (hoff' go e).1 rfl)
    · rw [if_neg e, if_neg e]
      refine ((h.own j hj).kept hg ?_).kept hst (.inr fun e => (h.off j go hj e).1 rfl)
      cases hv : (vals j).ownBlock with
      | none => exact .inl rfl
      | some g => exact .inr fun e2 => h.ap j k hj hk e g hv e2.symm
  · intro i j hi hj hij g hg1
    unfold updP at hg1 ⊢
    by_cases ei : i = k
    · subst ei
      rw [if_pos rfl] at hg1
      rw [if_neg (Ne.symm hij)]
      intro hg2
      rcases hob with e2 | e2
      · exact h.ap j i hj hi (Ne.symm hij) g hg2 (e2.symm.trans hg1)
      · have e3 : X.heap.size = g := by have := e2.symm.trans hg1; injection this
        have := ((h.own j hj).lt g hg2).2
        omega
    · rw [if_neg ei] at hg1
      by_cases ej : j = k
      · subst ej
        rw [if_pos rfl]
        intro hg2
        rcases hob with e2 | e2
        · exact h.ap i j hi hj hij g hg1 (e2.symm.trans hg2)
        · have e3 : X.heap.size = g := by have := e2.symm.trans hg2; injection this
          have := ((h.own i hi).lt g hg1).2
          omega
      · rw [if_neg ej]
        exact h.ap i j hi hj hij g hg1
  · intro j g hj hg1
    unfold updP at hg1
    by_cases e : j = k
    · rw [if_pos e] at hg1; exact hoff' g hg1
    · rw [if_neg e] at hg1; exact h.off j g hj hg1
  · simp only [World.cell?, hgo]
    exact h3 k hk
  · exact frozen_cells hgo k
theorem TuI.sl (h : TuI W go nt vals P mb nm f X) : VsSl X X.heap.size (.slice (some ⟨go, 0, none⟩) nt nt) ((List.range nt).map P) := by
  refine ⟨some ⟨go, 0, none⟩, nt, (List.range nt).map vals, by rw [List.length_map, List.length_range], ⟨by simp, fun i v L hv hL => ?_⟩, fun i u hu => ?_⟩
  · have hi : i < nt := by have := (List.getElem?_eq_some_iff.1 hv).1; simpa using this
    rw [List.getElem?_map, List.getElem?_range hi] at hv hL
    simp only [Option.map_some, Option.some.injEq] at hv hL
    subst hv; subst hL
    exact (show OwN W (vals i) (P i) X from ⟨h.bel, h.own i hi⟩).sl
  · have hi : i < nt := by have := (List.getElem?_eq_some_iff.1 hu).1; simpa using this
    rw [List.getElem?_map, List.getElem?_range hi] at hu
    simp only [Option.map_some, Option.some.injEq] at hu
    subst hu
    refine ⟨⟨go, 0, none⟩, rfl, h.lt, ?_⟩
    rw [add_zero_k]
    exact h.cell hi
end
structure TgI (V : World) (x : Int) (S : Value → World → Prop) (R : World → Prop) (so kv p4 v5 sf iv p8 : Value) (dn : Nat → Bool) (val : Nat → Value) (X : World) : Prop where
  s0 : dn 0 = true → val 0 = so
  s1 : dn 1 = true → val 1 = kv
  s2 : dn 2 = true → val 2 = so
  s3 : dn 3 = true → val 3 = kv
  s4 : dn 4 = true → val 4 = p4
  s5 : dn 5 = true → val 5 = v5
  s6 : dn 6 = true → val 6 = sf
  s7 : dn 7 = true → val 7 = iv
  s8 : dn 8 = true → val 8 = p8
  s9 : dn 9 = true → val 9 = (.int .i64 x)
  s12 : dn 12 = true → val 12 = p4
  bel : dn 11 = false → Below V.heap.size V X
  e10 : dn 10 = true → dn 11 = false → ∃ gb, val 10 = .slice (some ⟨gb, 0, none⟩) 1 1 ∧ X.heap[gb]? = some (.cells #[.int .i64 x] 3)
  e11 : dn 11 = true → dn 13 = false → S (val 11) X
  e13 : dn 13 = true → R X
section
variable {V : World} {x : Int} {S : Value → World → Prop} {R : World → Prop} {so kv p4 v5 sf iv p8 : Value} {dn : Nat → Bool} {val : Nat → Value} {X Y : World}
theorem TgI.op0 (h : TgI V x S R so kv p4 v5 sf iv p8 dn val X) : TgI V x S R so kv p4 v5 sf iv p8 (andB dn 0) (updV val 0 (so)) X :=
  ⟨(fun _ => rfl), h.s1, h.s2, h.s3, h.s4, h.s5, h.s6, h.s7, h.s8, h.s9, h.s12, h.bel, h.e10, h.e11, h.e13⟩
theorem TgI.op1 (h : TgI V x S R so kv p4 v5 sf iv p8 dn val X) : TgI V x S R so kv p4 v5 sf iv p8 (andB dn 1) (updV val 1 (kv)) X :=
  ⟨h.s0, (fun _ => rfl), h.s2, h.s3, h.s4, h.s5, h.s6, h.s7, h.s8, h.s9, h.s12, h.bel, h.e10, h.e11, h.e13⟩
theorem TgI.op2 (h : TgI V x S R so kv p4 v5 sf iv p8 dn val X) : TgI V x S R so kv p4 v5 sf iv p8 (andB dn 2) (updV val 2 (so)) X :=
  ⟨h.s0, h.s1, (fun _ => rfl), h.s3, h.s4, h.s5, h.s6, h.s7, h.s8, h.s9, h.s12, h.bel, h.e10, h.e11, h.e13⟩
theorem TgI.op3 (h : TgI V x S R so kv p4 v5 sf iv p8 dn val X) : TgI V x S R so kv p4 v5 sf iv p8 (andB dn 3) (updV val 3 (kv)) X :=
  ⟨h.s0, h.s1, h.s2, (fun _ => rfl), h.s4, h.s5, h.s6, h.s7, h.s8, h.s9, h.s12, h.bel, h.e10, h.e11, h.e13⟩
theorem TgI.op4 (h : TgI V x S R so kv p4 v5 sf iv p8 dn val X) : TgI V x S R so kv p4 v5 sf iv p8 (andB dn 4) (updV val 4 (p4)) X :=
  ⟨h.s0, h.s1, h.s2, h.s3, (fun _ => rfl), h.s5, h.s6, h.s7, h.s8, h.s9, h.s12, h.bel, h.e10, h.e11, h.e13⟩
theorem TgI.op5 (h : TgI V x S R so kv p4 v5 sf iv p8 dn val X) : TgI V x S R so kv p4 v5 sf iv p8 (andB dn 5) (updV val 5 (v5)) X :=
  ⟨h.s0, h.s1, h.s2, h.s3, h.s4, (fun _ => rfl), h.s6, h.s7, h.s8, h.s9, h.s12, h.bel, h.e10, h.e11, h.e13⟩
theorem TgI.op6 (h : TgI V x S R so kv p4 v5 sf iv p8 dn val X) : TgI V x S R so kv p4 v5 sf iv p8 (andB dn 6) (updV val 6 (sf)) X :=
  ⟨h.s0, h.s1, h.s2, h.s3, h.s4, h.s5, (fun _ => rfl), h.s7, h.s8, h.s9, h.s12, h.bel, h.e10, h.e11, h.e13⟩
theorem TgI.op7 (h : TgI V x S R so kv p4 v5 sf iv p8 dn val X) : TgI V x S R so kv p4 v5 sf iv p8 (andB dn 7) (updV val 7 (iv)) X :=
  ⟨h.s0, h.s1, h.s2, h.s3, h.s4, h.s5, h.s6, (fun _ => rfl), h.s8, h.s9, h.s12, h.bel, h.e10, h.e11, h.e13⟩
theorem TgI.op8 (h : TgI V x S R so kv p4 v5 sf iv p8 dn val X) : TgI V x S R so kv p4 v5 sf iv p8 (andB dn 8) (updV val 8 (p8)) X :=
  ⟨h.s0, h.s1, h.s2, h.s3, h.s4, h.s5, h.s6, h.s7, (fun _ => rfl), h.s9, h.s12, h.bel, h.e10, h.e11, h.e13⟩
theorem TgI.op9 (h : TgI V x S R so kv p4 v5 sf iv p8 dn val X) : TgI V x S R so kv p4 v5 sf iv p8 (andB dn 9) (updV val 9 ((.int .i64 x))) X :=
  ⟨h.s0, h.s1, h.s2, h.s3, h.s4, h.s5, h.s6, h.s7, h.s8, (fun _ => rfl), h.s12, h.bel, h.e10, h.e11, h.e13⟩
theorem TgI.op12 (h : TgI V x S R so kv p4 v5 sf iv p8 dn val X) : TgI V x S R so kv p4 v5 sf iv p8 (andB dn 12) (updV val 12 (p4)) X :=
  ⟨h.s0, h.s1, h.s2, h.s3, h.s4, h.s5, h.s6, h.s7, h.s8, h.s9, (fun _ => rfl), h.bel, h.e10, h.e11, h.e13⟩
theorem TgI.op10 (h : TgI V x S R so kv p4 v5 sf iv p8 dn val X) (n11 : dn 11 = false) (n13 : dn 13 = false) : TgI V x S R so kv p4 v5 sf iv p8 (andB dn 10) (updV val 10 (.slice (some ⟨X.heap.size, 0, none⟩) 1 1)) (X.alloc (.cells #[.int .i64 x] 3)) :=
  ⟨h.s0, h.s1, h.s2, h.s3, h.s4, h.s5, h.s6, h.s7, h.s8, h.s9, h.s12, (fun _ => (h.bel n11).trans ((below_new _).mono (h.bel n11).size)), (fun _ _ => ⟨X.heap.size, rfl, World.alloc_heap_new X _⟩), (fun d => f_t n11 d), (fun d => f_t n13 d)⟩
theorem TgI.op11 (h : TgI V x S R so kv p4 v5 sf iv p8 dn val X) (n13 : dn 13 = false) {u : Value} (hS : S u Y) : TgI V x S R so kv p4 v5 sf iv p8 (andB dn 11) (updV val 11 (u)) Y :=
  ⟨h.s0, h.s1, h.s2, h.s3, h.s4, h.s5, h.s6, h.s7, h.s8, h.s9, h.s12, (fun n => nomatch n), (fun _ n => nomatch n), (fun _ _ => hS), (fun d => f_t n13 d)⟩
theorem TgI.op13 (h : TgI V x S R so kv p4 v5 sf iv p8 dn val X) (y11 : dn 11 = true) {u : Value} (hR : R Y) : TgI V x S R so kv p4 v5 sf iv p8 (andB dn 13) (updV val 13 (u)) Y :=
  ⟨h.s0, h.s1, h.s2, h.s3, h.s4, h.s5, h.s6, h.s7, h.s8, h.s9, h.s12, (fun n => f_t n y11), (fun _ n => f_t n y11), (fun _ n => nomatch n), (fun _ => hR)⟩
end
section
variable {o : Oper} {a : Act} {w : World} {K : Act → World → Prop} {Q : Exit → Act → World → Prop}
theorem opStoreS (q r : Nat) (p : Addr) (v : Value) (old : Value) (ho : o.op = .store 30 (.tmp q) (.tmp r)) (hq : a.tmps.getD q undef = .pointer (some p)) (hr : a.tmps.getD r undef = v) (hv : ∃ A n c, v = .slice A n c) (hc : w.cell? p = some old) (hf : w.frozen? p = false) (h : ∀ u, K (a.put o.dst u) (w.setCell p v)) : o.wp Tryz.prog a w K Q := by
  obtain ⟨A, n, c, rfl⟩ := hv
  unfold Oper.wp execOp
  have he : a.eval (.tmp q) = .pointer (some p) := hq
  have he2 : a.eval (.tmp r) = .slice A n c := hr
  simp only [ho, he, he2]
  go_simp
  exact h _
end
end Go.Proofs.YtijidcigfdblaaaGreatDoor
namespace Go.Proofs.YtijidcigfdblaaaGreatDoor
open Go.RowKit Go.Nm

theorem wpList_make_rows {ops : Array Oper} {rest : List Oper} {o : Oper} {a : Act} {Q : Exit → Act → World → Prop} {w : World} (hg : o.guard = none) (l c : Operand) (hop : o.op = Op.makeSlice 235 l c) (n : Nat) (hl : a.eval l = .int .i64 (n : Int)) (hc : a.eval c = .int .i64 (n : Int)) (hn : n ≤ 100000)
    (hK : ∀ cs : Array Value, cs.size = n → (∀ k, k < n → cs[k]? = some (.slice none 0 0)) → wpList Tryz.prog ops Q rest (a.put o.dst (.slice (some ⟨w.heap.size, 0, none⟩) n n)) (w.alloc (.cells cs 30))) : wpList Tryz.prog ops Q (o :: rest) a w := by
  refine wpList_plain hg fun K hK' => ?_
  obtain ⟨i0, hi0, hz0, hz1, hz2⟩ := infoS
  have hrun := run_make (P := Tryz.prog) w 235 30 i0 (.slice none 0 0) Tryz.underlying235 hi0 hz0 .i64 .i64 (n : Int) (n : Int) (by omega) (Int.le_refl _) (by rw [hz2]; omega) (by omega)
  simp only [Int.toNat_natCast, hz1, Nat.mul_one] at hrun
  unfold Oper.wp
  simp [execOp, hop, hl, hc, hrun, Result.andThen]
  refine hK' _ _ (hK _ (size_madeCells _ _) fun k hk => ?_)
  simp [madeCells, hk, Value.cells, Nat.mod_one]
theorem MI.low {W W' X : World} {mb n : Nat} {f : Int → Int} (h : MI W' mb n f X) (hb : Below W.heap.size W W') : MI W mb n f X := by
  obtain ⟨h1, h2, h3, h4⟩ := h
  exact ⟨hb.trans (h1.mono hb.size), Nat.le_trans hb.size h2, h3, h4⟩
theorem TuI.start {W W3 X : World} {nt mb : Nat} {f : Int → Int} {cs : Array Value} (hW3 : W.alloc (.cells cs 30) = W3) (hs : cs.size = nt) (hc : ∀ k, k < nt → cs[k]? = some (.slice none 0 0)) (hm : MI W3 mb nt f X) (hb : Below W3.heap.size W3 X) :
    TuI W W.heap.size nt (fun _ => .slice none 0 0) (fun _ => []) mb nt f X := by
  have hb0 : Below W.heap.size W W3 := by rw [← hW3]; exact below_new _
  have hn : W3.heap[W.heap.size]? = some (.cells cs 30) := by rw [← hW3]; exact World.alloc_heap_new W _
  have hsz : W3.heap.size = W.heap.size + 1 := by rw [← hW3]; simp
  exact ⟨hm.low hb0, ⟨cs, (hb.block _ (Array.getElem?_eq_some_iff.1 hn).1).trans hn, hs, hc⟩, Nat.le_refl _, fun k _ => World.ownsRow_nil _ _ _ _, (fun j k _ _ _ g e => nomatch e), (fun k g _ e => nomatch e), by have := hm.new; omega⟩
theorem zip_at {a : List (List Int)} {fr : List Int} {i : Nat} {l : List Int} {x : Int} (h1 : a[i]? = some l) (h2 : fr[i]? = some x) : (a.zip fr)[i]? = some (l, x) := List.getElem?_zip_eq_some.2 ⟨h1, h2⟩
end Go.Proofs.YtijidcigfdblaaaGreatDoor
