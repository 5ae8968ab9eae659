
/- A drawn region by what each of its operations leaves: the frame is kept out of sight. -/
import Derived.Test.YtplpogonkfnafaaGreatNmBb
namespace Go.Proofs.YtplpogonkfnafaaGreat
open Go.RowKit Go.Nm

/-- what the region has left in a slot; D: the slots that its operations write -/
def rdF : List (Option Nat) → Nat → (Nat → Value) → Nat → Option Value
  | [], _, _, _ => none
  | none :: D, k, val, q => rdF D (k + 1) val q
  | some d :: D, k, val, q => if d = q then some (val k) else rdF D (k + 1) val q
def rdS (t0 : Array Value) (D : List (Option Nat)) (val : Nat → Value) (q : Nat) : Value := (rdF D 0 val q).getD (t0.getD q undef)
/-- the frame with all of it -/
def wrS : List (Option Nat) → Nat → Array Value → (Nat → Value) → Array Value
  | [], _, t, _ => t
  | none :: D, k, t, val => wrS D (k + 1) t val
  | some d :: D, k, t, val => wrS D (k + 1) (t.setIfInBounds d (val k)) val
def updV (val : Nat → Value) (i : Nat) (v : Value) : Nat → Value := fun j => if j = i then v else val j
/-- no slot is written twice -/
def onceB : List (Option Nat) → Bool
  | [] => true
  | none :: D => onceB D
  | some d :: D => !D.contains (some d) && onceB D
theorem gd_same {t : Array Value} {i : Nat} {v : Value} (h : i < t.size) : (t.setIfInBounds i v).getD i undef = v := by simp [Array.getD, h]
theorem gd_other {t : Array Value} {i k : Nat} {v : Value} (h : k ≠ i) : (t.setIfInBounds i v).getD k undef = t.getD k undef := by
  simp only [Array.getD_eq_getD_getElem?]
  rw [Array.getElem?_setIfInBounds_ne (by omega)]
theorem gd_ext {t t' : Array Value} (hs : t.size = t'.size) (h : ∀ k, t.getD k undef = t'.getD k undef) : t = t' := by
  apply Array.ext hs
  intro i h1 h2
  have := h i
  simpa [Array.getD, h1, h2] using this
theorem rdF_none : ∀ {D : List (Option Nat)} {k : Nat} {val : Nat → Value} {q : Nat}, some q ∉ D → rdF D k val q = none
  | [], _, _, _, _ => rfl
  | none :: D, k, val, q, h => by
    unfold rdF
    exact rdF_none fun h2 => h (List.mem_cons_of_mem _ h2)
  | some d :: D, k, val, q, h => by
    unfold rdF
    rw [if_neg (fun e => h (by rw [e]; exact List.mem_cons_self))]
    exact rdF_none fun h2 => h (List.mem_cons_of_mem _ h2)
theorem wrS_size : ∀ (D : List (Option Nat)) (k : Nat) (t : Array Value) (val : Nat → Value), (wrS D k t val).size = t.size
  | [], _, _, _ => rfl
  | none :: D, k, t, val => wrS_size D (k + 1) t val
  | some d :: D, k, t, val => by
    unfold wrS
    rw [wrS_size D (k + 1)]
    simp
theorem wrS_get : ∀ {D : List (Option Nat)} {k : Nat} {t : Array Value} {val : Nat → Value} {q : Nat}, onceB D = true → (∀ d, some d ∈ D → d < t.size) → (wrS D k t val).getD q undef = (rdF D k val q).getD (t.getD q undef)
  | [], _, _, _, _, _, _ => rfl
  | none :: D, k, t, val, q, h, hs => by
    unfold wrS rdF
    exact wrS_get h fun d hd => hs d (List.mem_cons_of_mem _ hd)
  | some d :: D, k, t, val, q, h, hs => by
    unfold onceB at h
    rw [Bool.and_eq_true] at h
    unfold wrS rdF
    rw [wrS_get h.2 (fun d hd => by simpa using hs d (List.mem_cons_of_mem _ hd))]
    by_cases e : d = q
    · subst e
      rw [if_pos rfl, rdF_none (by simpa using h.1), Option.getD_none, Option.getD_some]
      exact gd_same (hs d List.mem_cons_self)
    · rw [if_neg e, gd_other (Ne.symm e)]
theorem rdF_upd : ∀ {D : List (Option Nat)} {k i : Nat} {val : Nat → Value} {v : Value} {q d : Nat}, onceB D = true → D[i]? = some (some d) → rdF D k (updV val (k + i) v) q = if d = q then some v else rdF D k val q
  | [], _, _, _, _, _, _, _, h => by simp at h
  | none :: D, k, 0, val, v, q, d, h, hi => by simp at hi
  | none :: D, k, i + 1, val, v, q, d, h, hi => by
    unfold rdF
    have := rdF_upd (D := D) (k := k + 1) (i := i) (val := val) (v := v) (q := q) h (by simpa using hi)
    rw [show k + 1 + i = k + (i + 1) by omega] at this
    exact this
  | some c :: D, k, 0, val, v, q, d, h, hi => by
    simp at hi
    subst hi
    unfold onceB at h
    rw [Bool.and_eq_true] at h
    unfold rdF
    by_cases e : c = q
    · subst e
      rw [if_pos rfl, if_pos rfl]
      simp [updV]
    · rw [if_neg e, if_neg e, if_neg e]
      have : ∀ (D : List (Option Nat)) (m : Nat), k < m → rdF D m (updV val k v) q = rdF D m val q := by
        intro D
        induction D with
        | nil => intro m _; rfl
        | cons x D ih =>
          intro m hm
          cases x with
          | none => unfold rdF; exact ih (m + 1) (by omega)
          | some c =>
            unfold rdF
            have e2 : updV val k v m = val m := by simp only [updV]; rw [if_neg (by omega)]
            rw [ih (m + 1) (by omega), e2]
      exact this D (k + 1) (by omega)
  | some c :: D, k, i + 1, val, v, q, d, h, hi => by
    unfold onceB at h
    rw [Bool.and_eq_true] at h
    have hi' : D[i]? = some (some d) := by simpa using hi
    have hm : some d ∈ D := List.mem_of_getElem? hi'
    unfold rdF
    have := rdF_upd (D := D) (k := k + 1) (i := i) (val := val) (v := v) (q := q) h.2 hi'
    rw [show k + 1 + i = k + (i + 1) by omega] at this
    rw [this]
    have e0 : updV val (k + (i + 1)) v k = val k := by simp only [updV]; rw [if_neg (by omega)]
    rw [e0]
    by_cases e : c = q
    · subst e
      have hcd : d ≠ c := fun e => by subst e; simp at h; exact h.1 hm
      rw [if_pos rfl, if_neg hcd, if_pos rfl]
    · rw [if_neg e, if_neg e]
theorem rdF_upd_none : ∀ {D : List (Option Nat)} {k i : Nat} {val : Nat → Value} {v : Value} {q : Nat}, D[i]? = some none → rdF D k (updV val (k + i) v) q = rdF D k val q
  | [], _, _, _, _, _, h => by simp at h
  | none :: D, k, 0, val, v, q, hi => by
    unfold rdF
    have : ∀ (D : List (Option Nat)) (m : Nat), k < m → rdF D m (updV val k v) q = rdF D m val q := by
      intro D
      induction D with
      | nil => intro m _; rfl
      | cons x D ih =>
        intro m hm
        cases x with
        | none => unfold rdF; exact ih (m + 1) (by omega)
        | some c =>
          unfold rdF
          have e2 : updV val k v m = val m := by simp only [updV]; rw [if_neg (by omega)]
          rw [ih (m + 1) (by omega), e2]
    exact this D (k + 1) (by omega)
  | none :: D, k, i + 1, val, v, q, hi => by
    unfold rdF
    have := rdF_upd_none (D := D) (k := k + 1) (i := i) (val := val) (v := v) (q := q) (by simpa using hi)
    rw [show k + 1 + i = k + (i + 1) by omega] at this
    exact this
  | some c :: D, k, 0, val, v, q, hi => by simp at hi
  | some c :: D, k, i + 1, val, v, q, hi => by
    unfold rdF
    have := rdF_upd_none (D := D) (k := k + 1) (i := i) (val := val) (v := v) (q := q) (by simpa using hi)
    rw [show k + 1 + i = k + (i + 1) by omega] at this
    have e0 : updV val (k + (i + 1)) v k = val k := by simp only [updV]; rw [if_neg (by omega)]
    rw [this, e0]
theorem rdF_init {t0 : Array Value} : ∀ {D : List (Option Nat)} {k : Nat} {val : Nat → Value} {q : Nat}, (∀ j d, D[j]? = some (some d) → val (k + j) = t0.getD d undef) → (rdF D k val q).getD (t0.getD q undef) = t0.getD q undef
  | [], _, _, _, _ => rfl
  | none :: D, k, val, q, h => by
    unfold rdF
    exact rdF_init fun j d hj => by
      have := h (j + 1) d (by simpa using hj)
      rw [show k + 1 + j = k + (j + 1) by omega]; exact this
  | some c :: D, k, val, q, h => by
    unfold rdF
    by_cases e : c = q
    · rw [if_pos e, Option.getD_some]
      have := h 0 c rfl
      rw [← e]; exact this
    · rw [if_neg e]
      exact rdF_init fun j d hj => by
        have := h (j + 1) d (by simpa using hj)
        rw [show k + 1 + j = k + (j + 1) by omega]; exact this
/-- what is done is closed: what it waits for is done, too -/
def closedB (ops : Array Oper) (dn : Nat → Bool) : Prop := ∀ i o, ops[i]? = some o → dn i = true → ∀ e ∈ o.after, Region.binds .any e = true → dn e.on = true
/-- the law: I speaks of what is done, of the values that the operations left, and of memory -/
theorem wp_region_vals {P : Program} {ops : Array Oper} {Q : Exit → Act → World → Prop} {id : Nat} {t0 : Array Value} {w : World} (D : List (Option Nat)) (I : (Nat → Bool) → (Nat → Value) → World → Prop) (hm : P.follows .mixedOrders = true) (hb : backB ops = true)
    (hD : (ops.toList.map fun o => o.dst) = D) (hO : onceB D = true) (hs : (D.all fun d => match d with | some d => decide (d < t0.size) | none => true) = true) (hg : (ops.all fun o => o.guard.isNone) = true)
    (h0 : ∀ val, I (fun _ => false) val w.drew)
    (hstep : ∀ dn i o, ops[i]? = some o → dn i = false → (∀ e ∈ o.after, Region.binds .any e = true → dn e.on = true) → closedB ops dn → ∀ val X a, (∀ q, a.tmps.getD q undef = rdS t0 D val q) → (∀ j d, dn j = false → D[j]? = some (some d) → val j = t0.getD d undef) → I dn val X →
      ∀ K, (∀ v X', I (andB dn i) (updV val i v) X' → K (a.put o.dst v) X') → o.wp P a X K Q)
    (hend : ∀ dn val X, (∀ j, j < ops.size → dn j = true) → I dn val X → Q .normal { tmps := wrS D 0 t0 val, defers := [] } X) : (Code.region id ops true).wp P Q { tmps := t0, defers := [] } w := by
  have hin : ∀ d, some d ∈ D → d < t0.size := fun d hd => by
    have := (List.all_eq_true.1 hs) _ hd
    simpa using this
  refine wp_region_done (fun dn a X => a.tmps.size = t0.size ∧ a.defers = [] ∧ closedB ops dn ∧ ∃ val, (∀ q, a.tmps.getD q undef = rdS t0 D val q) ∧ (∀ j d, dn j = false → D[j]? = some (some d) → val j = t0.getD d undef) ∧ I dn val X) hm hb ?_ ?_ ?_
  · refine ⟨rfl, rfl, fun i o _ h => (nomatch h), fun j => match D[j]? with | some (some d) => t0.getD d undef | _ => undef, fun q => ?_, fun j d _ hj => by simp only [hj], h0 _⟩
    exact (rdF_init fun j d hj => by simp only [Nat.zero_add, hj]).symm
  · intro dn i o hi hd hp a X ⟨h1, h2, hc, val, h4, h6, h5⟩
    have hgo : o.guard = none := by
      have h := hg
      rw [Array.all_eq_true_iff_forall_mem] at h
      have := h o (Array.mem_of_getElem? hi)
      cases h3 : o.guard with
      | none => rfl
      | some x => rw [h3] at this; cases this
    have hDi : D[i]? = some o.dst := by rw [← hD, List.getElem?_map, Array.getElem?_toList, hi]; rfl
    refine wpOp_bare hi hgo (hstep dn i o hi hd hp hc val X a h4 h6 h5 _ fun v X' hI => ?_)
    refine ⟨?_, ?_, ?_, updV val i v, fun q => ?_, fun j d hj hjd => ?_, hI⟩
    · cases hd2 : o.dst with
      | none => exact h1
      | some d => simp [Act.put, h1]
    · cases hd2 : o.dst with
      | none => exact h2
      | some d => exact h2
    · intro j p hj hjd e he hbd
      unfold andB at hjd ⊢
      by_cases hji : j = i
      · subst hji
        rw [hi] at hj
        injection hj with hj
        subst hj
        rw [hp e he hbd, Bool.or_true]
      · have : (j == i) = false := by simpa using hji
        rw [this, Bool.false_or] at hjd
        rw [hc j p hj hjd e he hbd, Bool.or_true]
    · cases hd2 : o.dst with
      | none =>
        rw [hd2] at hDi
        have := rdF_upd_none (k := 0) (val := val) (v := v) (q := q) hDi
        rw [Nat.zero_add] at this
        unfold rdS
        rw [this]
        exact h4 q
      | some d =>
        rw [hd2] at hDi
        have := rdF_upd (k := 0) (val := val) (v := v) (q := q) hO hDi
        rw [Nat.zero_add] at this
        unfold rdS
        rw [this]
        by_cases e : d = q
        · subst e
          rw [if_pos rfl]
          exact gd_same (by rw [h1]; exact hin d (List.mem_of_getElem? hDi))
        · rw [if_neg e]
          exact (gd_other (Ne.symm e)).trans (h4 q)
    · unfold andB at hj
      rw [Bool.or_eq_false_iff] at hj
      have hji : j ≠ i := by simpa using hj.1
      simp only [updV]
      rw [if_neg hji]
      exact h6 j d hj.2 hjd
  · intro dn a X hd ⟨h1, h2, _, val, h4, _, h5⟩
    have e : a = { tmps := wrS D 0 t0 val, defers := [] } := by
      obtain ⟨tm, ds⟩ := a
      simp only at h1 h2 h4
      subst h2
      refine congrArg (fun t => Act.mk t []) (gd_ext (by rw [wrS_size, h1]) fun q => ?_)
      rw [h4 q, wrS_get hO hin]
      rfl
    rw [e]
    exact hend dn val X hd h5
section
variable {o : Oper} {a : Act} {w : World} {K : Act → World → Prop} {Q : Exit → Act → World → Prop}
theorem opMove (q : Nat) (v : Value) (ho : o.op = .move (.tmp q)) (hq : a.tmps.getD q undef = v) (h : K (a.put o.dst v) w) : o.wp Tryz.prog a w K Q := by
  unfold Oper.wp execOp
  have he : a.eval (.tmp q) = v := hq
  simp only [ho, he]
  go_simp
  exact h
theorem opAssign (q : Nat) (v : Value) (ho : o.op = .assign (.tmp q)) (hq : a.tmps.getD q undef = v) (h : K (a.put o.dst v) w) : o.wp Tryz.prog a w K Q := by
  unfold Oper.wp execOp
  have he : a.eval (.tmp q) = v := hq
  simp only [ho, he]
  go_simp
  exact h
theorem opIx (q r n c k : Nat) (ad : Addr) (ho : o.op = .indexAddr 22 (.tmp q) (.tmp r)) (hq : a.tmps.getD q undef = .slice (some ad) n c) (hr : a.tmps.getD r undef = .int .i64 (k : Int)) (hk : k < n) (h : K (a.put o.dst (.pointer (some (ad.add k)))) w) : o.wp Tryz.prog a w K Q := by
  unfold Oper.wp execOp
  have he : a.eval (.tmp q) = .slice (some ad) n c := hq
  have he2 : a.eval (.tmp r) = .int .i64 (k : Int) := hr
  simp only [ho, he, he2]
  go_simp
  exact h
theorem opIxS (q r n c k : Nat) (ad : Addr) (ho : o.op = .indexAddr 28 (.tmp q) (.tmp r)) (hq : a.tmps.getD q undef = .slice (some ad) n c) (hr : a.tmps.getD r undef = .int .i64 (k : Int)) (hk : k < n) (h : K (a.put o.dst (.pointer (some (ad.add k)))) w) : o.wp Tryz.prog a w K Q := by
  unfold Oper.wp execOp
  have he : a.eval (.tmp q) = .slice (some ad) n c := hq
  have he2 : a.eval (.tmp r) = .int .i64 (k : Int) := hr
  simp only [ho, he, he2]
  go_simp
  exact h
theorem opLd (q : Nat) (ad : Addr) (v : Value) (ho : o.op = .load 3 (.tmp q)) (hq : a.tmps.getD q undef = .pointer (some ad)) (hc : w.cell? ad = some v) (h : K (a.put o.dst v) w) : o.wp Tryz.prog a w K Q := by
  unfold Oper.wp execOp
  have he : a.eval (.tmp q) = .pointer (some ad) := hq
  simp only [ho, he]
  go_simp
  exact h
theorem opLdS (q : Nat) (ad : Addr) (v : Value) (ho : o.op = .load 22 (.tmp q)) (hq : a.tmps.getD q undef = .pointer (some ad)) (hc : w.cell? ad = some v) (h : K (a.put o.dst v) w) : o.wp Tryz.prog a w K Q := by
  unfold Oper.wp execOp
  have he : a.eval (.tmp q) = .pointer (some ad) := hq
  simp only [ho, he]
  go_simp
  exact h
theorem opNew (ho : o.op = .buildSlice 22 0 #[]) (h : K (a.put o.dst (.slice (some ⟨w.heap.size, 0, none⟩) 0 0)) (w.alloc (.cells #[] 3))) : o.wp Tryz.prog a w K Q := by
  unfold Oper.wp execOp
  simp only [ho]
  go_simp
  exact h
theorem opBox (q : Nat) (y : Int) (ho : o.op = .buildSlice 22 1 #[(0, .tmp q)]) (hq : a.tmps.getD q undef = .int .i64 y) (h : K (a.put o.dst (.slice (some ⟨w.heap.size, 0, none⟩) 1 1)) (w.alloc (.cells #[.int .i64 y] 3))) : o.wp Tryz.prog a w K Q := by
  unfold Oper.wp execOp
  have he : a.tmps[q]?.getD undef = .int .i64 y := by rw [← hq, Array.getD_eq_getD_getElem?]
  simp only [ho]
  go_simp
  exact h
theorem opBoxS (q : Nat) (A : Option Addr) (n c : Nat) (ho : o.op = .buildSlice 28 1 #[(0, .tmp q)]) (hq : a.tmps.getD q undef = .slice A n c) (h : K (a.put o.dst (.slice (some ⟨w.heap.size, 0, none⟩) 1 1)) (w.alloc (.cells #[.slice A n c] 22))) : o.wp Tryz.prog a w K Q := by
  unfold Oper.wp execOp
  have he : a.tmps[q]?.getD undef = .slice A n c := by rw [← hq, Array.getD_eq_getD_getElem?]
  simp only [ho]
  go_simp
  exact h
end
theorem wp_opaque {P : Program} {c : Code} {Q : Exit → Act → World → Prop} {T : Array Value} {ds : List Deferred} {w : World} (h : ∀ t0, t0 = T → c.wp P Q { tmps := t0, defers := ds } w) : c.wp P Q { tmps := T, defers := ds } w := h T rfl
end Go.Proofs.YtplpogonkfnafaaGreat
