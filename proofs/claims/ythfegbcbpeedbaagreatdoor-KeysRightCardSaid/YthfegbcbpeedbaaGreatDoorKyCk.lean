
/- A drawn region with guards that are met. -/
import Derived.Test.YthfegbcbpeedbaaGreatDoorKyRg
namespace Go.Proofs.YthfegbcbpeedbaaGreatDoor
open Go.RowKit Go.Nm Go.Ky

theorem wp_region_valsW {P : Program} {ops : Array Oper} {Q : Exit → Act → World → Prop} {id : Nat} {t0 : Array Value} {w : World} (D : List (Option Nat)) (I : (Nat → Bool) → (Nat → Value) → World → Prop) (hm : P.follows .mixedOrders = true) (hb : backB ops = true)
    (hD : (ops.toList.map fun o => o.dst) = D) (hO : onceB D = true) (hs : (D.all fun d => match d with | some d => decide (d < t0.size) | none => true) = true)
    (h0 : ∀ val, I (fun _ => false) val w.drew)
    (hstep : ∀ dn i o, ops[i]? = some o → dn i = false → (∀ e ∈ o.after, Region.binds .any e = true → dn e.on = true) → closedB ops dn → ∀ val X a, (∀ q, a.tmps.getD q undef = rdS t0 D val q) → (∀ j d, dn j = false → D[j]? = some (some d) → val j = t0.getD d undef) → I dn val X →
      Region.wanted o (yielded ops a.tmps) = true ∧ ∀ K, (∀ v X', I (andB dn i) (updV val i v) X' → K (a.put o.dst v) X') → o.wp P a X K Q)
    (hend : ∀ dn val X, (∀ j, j < ops.size → dn j = true) → I dn val X → Q .normal { tmps := wrS D 0 t0 val, defers := [] } X) : (Code.region id ops true).wp P Q { tmps := t0, defers := [] } w := by
  have hin : ∀ d, some d ∈ D → d < t0.size := fun d hd => by
    have := (List.all_eq_true.1 hs) _ hd
    simpa using this
  refine wp_region_done (fun dn a X => a.tmps.size = t0.size ∧ a.defers = [] ∧ closedB ops dn ∧ ∃ val, (∀ q, a.tmps.getD q undef = rdS t0 D val q) ∧ (∀ j d, dn j = false → D[j]? = some (some d) → val j = t0.getD d undef) ∧ I dn val X) hm hb ?_ ?_ ?_
  · refine ⟨rfl, rfl, fun i o _ h => (nomatch h), fun j => match D[j]? with | some (some d) => t0.getD d undef | _ => undef, fun q => ?_, fun j d _ hj => by simp only [hj], h0 _⟩
    exact (rdF_init fun j d hj => by simp only [Nat.zero_add, hj]).symm
  · intro dn i o hi hd hp a X ⟨h1, h2, hc, val, h4, h6, h5⟩
    have hDi : D[i]? = some o.dst := by rw [← hD, List.getElem?_map, Array.getElem?_toList, hi]; rfl
    obtain ⟨hwt, hst⟩ := hstep dn i o hi hd hp hc val X a h4 h6 h5
    unfold wpOp
    simp only [hi]
    rw [if_pos hwt]
    refine .inl (hst _ fun v X' hI => ?_)
    refine ⟨?_, ?_, ?_, updV val i v, fun q => ?_, fun j d hj hjd => ?_, hI⟩
    · cases hd2 : o.dst with
      | none => exact h1
      | some d => simp [Act.put, h1]
    · cases hd2 : o.dst with
      | none => exact h2
      | some d => exact h2
    · intro j p hj hjd e he hbd
      unfold andB at hjd ⊢
      by_cases hji : j = i
      · subst hji
        rw [hi] at hj
        injection hj with hj
        subst hj
        rw [hp e he hbd, Bool.or_true]
      · have : (j == i) = false := by simpa using hji
        rw [this, Bool.false_or] at hjd
        rw [hc j p hj hjd e he hbd, Bool.or_true]
    · cases hd2 : o.dst with
      | none =>
        rw [hd2] at hDi
        have := rdF_upd_none (k := 0) (val := val) (v := v) (q := q) hDi
        rw [Nat.zero_add] at this
        unfold rdS
        rw [this]
        exact h4 q
      | some d =>
        rw [hd2] at hDi
        have := rdF_upd (k := 0) (val := val) (v := v) (q := q) hO hDi
        rw [Nat.zero_add] at this
        unfold rdS
        rw [this]
        by_cases e : d = q
        · subst e
          rw [if_pos rfl]
          exact gd_same (by rw [h1]; exact hin d (List.mem_of_getElem? hDi))
        · rw [if_neg e]
          exact (gd_other (Ne.symm e)).trans (h4 q)
    · unfold andB at hj
      rw [Bool.or_eq_false_iff] at hj
      have hji : j ≠ i := by simpa using hj.1
      simp only [updV]
      rw [if_neg hji]
      exact h6 j d hj.2 hjd
  · intro dn a X hd ⟨h1, h2, _, val, h4, _, h5⟩
    have e : a = { tmps := wrS D 0 t0 val, defers := [] } := by
      obtain ⟨tm, ds⟩ := a
      simp only at h1 h2 h4
      subst h2
      refine congrArg (fun t => Act.mk t []) (gd_ext (by rw [wrS_size, h1]) fun q => ?_)
      rw [h4 q, wrS_get hO hin]
      rfl
    rw [e]
    exact hend dn val X hd h5
theorem yielded_of {ops : Array Oper} {tmps : Array Value} {j d : Nat} {b : Bool} (h : (ops[j]?).bind (·.dst) = some d) (hq : tmps.getD d undef = .bool b) : yielded ops tmps j = some b := by
  unfold yielded
  rw [h]
  have h2 : tmps[d]? = some (.bool b) := by
    rw [Array.getD_eq_getD_getElem?] at hq
    cases e : tmps[d]? with
    | none => rw [e] at hq; cases hq
    | some v => rw [e] at hq; simp only [Option.getD_some] at hq; rw [hq]
  simp [h2]
theorem wanted_of {o : Oper} {y : Nat → Option Bool} {j : Nat} {b : Bool} (h : o.guard = some (j, b)) (hy : y j = some b) : Region.wanted o y = true := by
  unfold Region.wanted
  rw [h]
  simp [hy]
section
variable {o : Oper} {a : Act} {w : World} {K : Act → World → Prop} {Q : Exit → Act → World → Prop}
theorem opIxR (q r n c k : Nat) (ad : Addr) (ho : o.op = .indexAddr 23 (.tmp q) (.tmp r)) (hq : a.tmps.getD q undef = .slice (some ad) n c) (hr : a.tmps.getD r undef = .int .i64 (k : Int)) (hk : k < n) (h : K (a.put o.dst (.pointer (some (ad.add (k * 2))))) w) : o.wp Tryz.prog a w K Q := by
  unfold Oper.wp execOp
  have he : a.eval (.tmp q) = .slice (some ad) n c := hq
  have hf : a.eval (.tmp r) = .int .i64 (k : Int) := hr
  simp only [ho, he, hf]
  go_simp
  exact h
theorem opIxT (q r n c k : Nat) (ad : Addr) (ho : o.op = .indexAddr 27 (.tmp q) (.tmp r)) (hq : a.tmps.getD q undef = .slice (some ad) n c) (hr : a.tmps.getD r undef = .int .i64 (k : Int)) (hk : k < n) (h : K (a.put o.dst (.pointer (some (ad.add k)))) w) : o.wp Tryz.prog a w K Q := by
  unfold Oper.wp execOp
  have he : a.eval (.tmp q) = .slice (some ad) n c := hq
  have hf : a.eval (.tmp r) = .int .i64 (k : Int) := hr
  simp only [ho, he, hf]
  go_simp
  exact h
theorem opFieldR0 (q : Nat) (p : Addr) (ho : o.op = .fieldAddr 58 (.tmp q) 0) (hq : a.tmps.getD q undef = .pointer (some p)) (h : K (a.put o.dst (.pointer (some p))) w) : o.wp Tryz.prog a w K Q := by
  unfold Oper.wp execOp
  have he : a.eval (.tmp q) = .pointer (some p) := hq
  simp only [ho, he]
  go_simp
  exact h
theorem opBox2 (q r : Nat) (x y : Int) (ho : o.op = .buildSlice 22 2 #[(0, .tmp q), (1, .tmp r)]) (hq : a.tmps.getD q undef = .int .i64 x) (hr : a.tmps.getD r undef = .int .i64 y) (h : K (a.put o.dst (.slice (some ⟨w.heap.size, 0, none⟩) 2 2)) (w.alloc (.cells #[.int .i64 x, .int .i64 y] 3))) : o.wp Tryz.prog a w K Q := by
  unfold Oper.wp execOp
  have he : a.tmps[q]?.getD undef = .int .i64 x := by rw [← hq, Array.getD_eq_getD_getElem?]
  have hf : a.tmps[r]?.getD undef = .int .i64 y := by rw [← hr, Array.getD_eq_getD_getElem?]
  simp only [ho]
  go_simp
  exact h
theorem opPickF (q r : Nat) (v : Value) (ho : o.op = .pick (.tmp q) (.const (.bool true)) (.tmp r)) (hq : a.tmps.getD q undef = .bool false) (hr : a.tmps.getD r undef = v) (h : K (a.put o.dst v) w) : o.wp Tryz.prog a w K Q := by
  unfold Oper.wp execOp
  have he : a.eval (.tmp q) = .bool false := hq
  have hf : a.eval (.tmp r) = v := hr
  simp only [ho, he, hf]
  go_simp
  exact h
end
end Go.Proofs.YthfegbcbpeedbaaGreatDoor
