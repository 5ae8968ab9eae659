/- A region that draws its order, by values, inside a fence. -/
import Derived.Test.YtijidcigfdblaaaGreatDoorShRg
import Derived.Test.YtijidcigfdblaaaGreatDoorShTf
import Derived.OrdersIn
namespace Go.Proofs.YtijidcigfdblaaaGreatDoor
open Go.RowKit Go.Nm Go.Sh Go.Plc

section
variable {F : Fence} {nF : Nat} {P : Program} {ops : Array Oper} {Q : Exit → Act → World → Prop}
theorem wpAnyIn_done (G : (Nat → Bool) → Act → World → Prop) (hb : backB ops = true)
    (hstep : ∀ dn i o, ops[i]? = some o → dn i = false → (∀ e ∈ o.after, Region.binds .any e = true → dn e.on = true) → ∀ a w, G dn a w → wpOpIn F nF P ops Q i (fun a' w' => G (andB dn i) a' w') a w)
    (hend : ∀ dn a w, (∀ j, j < ops.size → dn j = true) → G dn a w → Q .normal a w) :
    ∀ (fuel : Nat) (listed : Array Bool) (a : Act) (w : World), listed.size = ops.size → leftOf listed.toList ≤ fuel → G (fun j => listed.getD j false) a w → wpAnyIn F nF P .any ops Q fuel listed a w := by
  intro fuel
  induction fuel with
  | zero =>
    intro listed a w hs hf hG
    have hnil : Region.ready .any ops listed = [] := by
      cases hr : Region.ready .any ops listed with
      | nil => rfl
      | cons i rs =>
        have hm : i ∈ Region.ready .any ops listed := by rw [hr]; exact List.mem_cons_self
        obtain ⟨h0, o, ho, _⟩ := mem_ready.1 hm
        have hi : i < listed.size := by rw [hs]; exact (Array.getElem?_eq_some_iff.1 ho).1
        have := leftOf_pos (l := listed.toList) (i := i) (by simp [hi] at h0 ⊢; exact h0)
        omega
    exact ⟨hnil, hend _ a w (ready_none hb hs hnil) hG⟩
  | succ fuel ih =>
    intro listed a w hs hf hG
    refine ⟨fun hnil => hend _ a w (ready_none hb hs hnil) hG, fun i hm => ?_⟩
    obtain ⟨h0, o, ho, hall⟩ := mem_ready.1 hm
    have hi : i < listed.size := by rw [hs]; exact (Array.getElem?_eq_some_iff.1 ho).1
    have hi0 : listed.getD i false = false := by simp [hi] at h0 ⊢; exact h0
    refine wpOpIn_mono (fun a' w' h => ?_) (hstep _ i o ho hi0 (fun e he hbd => hall e he hbd) a w hG)
    refine ih _ a' w' (by simpa using hs) ?_ ?_
    · have := leftOf_set listed.toList i (by simp [hi] at h0 ⊢; exact h0)
      rw [Array.toList_setIfInBounds]
      omega
    · have e : (fun j => (listed.setIfInBounds i true).getD j false) = andB (fun j => listed.getD j false) i := by
        funext j
        unfold andB
        by_cases hji : j = i
        · subst hji
          simp [hi]
        · have : (j == i) = false := by simpa using hji
          rw [this, Bool.false_or]
          by_cases hj : j < listed.size
          · simp [hj, Ne.symm hji]
          · simp [hj]
      rw [e]; exact h
theorem wpIn_region_done {id : Nat} {a : Act} {w : World} (G : (Nat → Bool) → Act → World → Prop) (hm : P.follows .mixedOrders = true) (hb : backB ops = true)
    (hG : G (fun _ => false) a w.drew)
    (hstep : ∀ dn i o, ops[i]? = some o → dn i = false → (∀ e ∈ o.after, Region.binds .any e = true → dn e.on = true) → ∀ a w, G dn a w → wpOpIn F nF P ops Q i (fun a' w' => G (andB dn i) a' w') a w)
    (hend : ∀ dn a w, (∀ j, j < ops.size → dn j = true) → G dn a w → Q .normal a w) : (Code.region id ops true).wpIn F nF P Q a w :=
  wpIn_region_any hm (wpAnyIn_done G hb hstep hend ops.size _ a _ (by simp) (by simp [leftOf]) (by
    have e : (fun j => (Array.replicate ops.size false).getD j false) = fun _ => false := by
      funext j
      by_cases hj : j < ops.size <;> simp [hj]
    rw [e]; exact hG))
theorem wpOpIn_bare {i : Nat} {o : Oper} {a : Act} {w : World} {K : Act → World → Prop} (hi : ops[i]? = some o) (hg : o.guard = none) (h : o.wpIn F nF P a w K Q) : wpOpIn F nF P ops Q i K a w := by
  unfold wpOpIn
  rw [hi]
  simp only
  rw [if_pos (by unfold Region.wanted; rw [hg])]
  exact h
/-- the law, inside a fence -/
theorem wpIn_region_vals {id : Nat} {t0 : Array Value} {w : World} {ds : List Deferred} (D : List (Option Nat)) (I : (Nat → Bool) → (Nat → Value) → World → Prop) (hm : P.follows .mixedOrders = true) (hb : backB ops = true)
    (hD : (ops.toList.map fun o => o.dst) = D) (hO : onceB D = true) (hs : (D.all fun d => match d with | some d => decide (d < t0.size) | none => true) = true) (hg : (ops.all fun o => o.guard.isNone) = true)
    (h0 : ∀ val, I (fun _ => false) val w.drew)
    (hstep : ∀ dn i o, ops[i]? = some o → dn i = false → (∀ e ∈ o.after, Region.binds .any e = true → dn e.on = true) → closedB ops dn → ∀ val X a, (∀ q, a.tmps.getD q undef = rdS t0 D val q) → (∀ j d, dn j = false → D[j]? = some (some d) → val j = t0.getD d undef) → I dn val X →
      ∀ K, (∀ v X', I (andB dn i) (updV val i v) X' → K (a.put o.dst v) X') → o.wpIn F nF P a X K Q)
    (hend : ∀ dn val X, (∀ j, j < ops.size → dn j = true) → I dn val X → Q .normal { tmps := wrS D 0 t0 val, defers := ds } X) : (Code.region id ops true).wpIn F nF P Q { tmps := t0, defers := ds } w := by
  have hin : ∀ d, some d ∈ D → d < t0.size := fun d hd => by
    have := (List.all_eq_true.1 hs) _ hd
    simpa using this
  refine wpIn_region_done (fun dn a X => a.tmps.size = t0.size ∧ a.defers = ds ∧ closedB ops dn ∧ ∃ val, (∀ q, a.tmps.getD q undef = rdS t0 D val q) ∧ (∀ j d, dn j = false → D[j]? = some (some d) → val j = t0.getD d undef) ∧ I dn val X) hm hb ?_ ?_ ?_
  · refine ⟨rfl, rfl, fun i o _ h => (nomatch h), fun j => match D[j]? with | some (some d) => t0.getD d undef | _ => undef, fun q => ?_, fun j d _ hj => by simp only [hj], h0 _⟩
    exact (rdF_init fun j d hj => by simp only [Nat.zero_add, hj]).symm
  · intro dn i o hi hd hp a X ⟨h1, h2, hc, val, h4, h6, h5⟩
    have hgo : o.guard = none := by
      have h := hg
      rw [Array.all_eq_true_iff_forall_mem] at h
      have := h o (Array.mem_of_getElem? hi)
      cases h3 : o.guard with
      | none => rfl
      | some x => rw [h3] at this; cases this
    have hDi : D[i]? = some o.dst := by rw [← hD, List.getElem?_map, Array.getElem?_toList, hi]; rfl
    refine wpOpIn_bare hi hgo (hstep dn i o hi hd hp hc val X a h4 h6 h5 _ fun v X' hI => ?_)
    refine ⟨?_, ?_, ?_, updV val i v, fun q => ?_, fun j d hj hjd => ?_, hI⟩
    · cases hd2 : o.dst with
      | none => exact h1
      | some d => simp [Act.put, h1]
    · cases hd2 : o.dst with
      | none => exact h2
      | some d => exact h2
    · intro j p hj hjd e he hbd
      unfold andB at hjd ⊢
      by_cases hji : j = i
      · subst hji
        rw [hi] at hj
        injection hj with hj
        subst hj
        rw [hp e he hbd, Bool.or_true]
      · have : (j == i) = false := by simpa using hji
        rw [this, Bool.false_or] at hjd
        rw [hc j p hj hjd e he hbd, Bool.or_true]
    · cases hd2 : o.dst with
      | none =>
        rw [hd2] at hDi
        have := rdF_upd_none (k := 0) (val := val) (v := v) (q := q) hDi
        rw [Nat.zero_add] at this
        unfold rdS
        rw [this]
        exact h4 q
      | some d =>
        rw [hd2] at hDi
        have := rdF_upd (k := 0) (val := val) (v := v) (q := q) hO hDi
        rw [Nat.zero_add] at this
        unfold rdS
        rw [this]
        by_cases e : d = q
        · subst e
          rw [if_pos rfl]
          exact gd_same (by rw [h1]; exact hin d (List.mem_of_getElem? hDi))
        · rw [if_neg e]
          exact (gd_other (Ne.symm e)).trans (h4 q)
    · unfold andB at hj
      rw [Bool.or_eq_false_iff] at hj
      have hji : j ≠ i := by simpa using hj.1
      simp only [updV]
      rw [if_neg hji]
      exact h6 j d hj.2 hjd
  · intro dn a X hd ⟨h1, h2, _, val, h4, _, h5⟩
    have e : a = { tmps := wrS D 0 t0 val, defers := ds } := by
      obtain ⟨tm, dt⟩ := a
      simp only at h1 h2 h4
      subst h2
      refine congrArg (fun t => Act.mk t dt) (gd_ext (by rw [wrS_size, h1]) fun q => ?_)
      rw [h4 q, wrS_get hO hin]
      rfl
    rw [e]
    exact hend dn val X hd h5
end
section
variable {F : Fence} {nF : Nat} {o : Oper} {a : Act} {w : World} {K : Act → World → Prop} {Q : Exit → Act → World → Prop}
def pgZ : Array Value := #[.int .i64 0, .int .i64 0, .int .i64 0, .int .i64 0, .int .i64 0, .int .i64 0, .int .i64 0, .int .i64 0, .int .i64 0, .slice none 0 0]
set_option maxRecDepth 100000 in
theorem inBuild (ho : o.op = .build 28 #[]) (h : K (a.put o.dst (.agg pgZ)) w) : o.wpIn F nF Tryz.prog a w K Q := by
  unfold Oper.wpIn
  rw [Oper.semAt_eq _ _ _ (by rw [ho]; intro c h; cases h)]
  unfold execOp Oper.about
  unfold pgZ at h
  simp only [ho]
  go_simp
  exact h
set_option maxRecDepth 100000 in
theorem inFieldRd1 (q g : Nat) (ho : o.op = .fieldAddr 129 (.tmp q) 1) (hq : a.tmps.getD q undef = .pointer (some ⟨g, 0, none⟩)) (h : K (a.put o.dst (.pointer (some ⟨g, 10, none⟩))) w) : o.wpIn F nF Tryz.prog a w K Q := by
  unfold Oper.wpIn
  rw [Oper.semAt_eq _ _ _ (by rw [ho]; intro c h; cases h)]
  have he : a.eval (.tmp q) = .pointer (some ⟨g, 0, none⟩) := hq
  unfold execOp Oper.about
  simp only [ho, he]
  go_simp
  exact h
theorem inLdI (q : Nat) (ad : Addr) (v : Value) (ho : o.op = .load 3 (.tmp q)) (hq : a.tmps.getD q undef = .pointer (some ad)) (hc : w.cell? ad = some v) (h : K (a.put o.dst v) w) : o.wpIn F nF Tryz.prog a w K Q := by
  unfold Oper.wpIn
  rw [Oper.semAt_eq _ _ _ (by rw [ho]; intro c h; cases h)]
  have he : a.eval (.tmp q) = .pointer (some ad) := hq
  unfold execOp Oper.about
  simp only [ho, he]
  go_simp
  exact h
theorem inAdd1 (q : Nat) (x : Int) (ho : o.op = .binOp .add 3 (.tmp q) (.const (.int .i64 1)) 3) (hq : a.tmps.getD q undef = .int .i64 x) (hw : IntKind.i64.wrap (x + 1) = x + 1) (h : K (a.put o.dst (.int .i64 (x + 1))) w) : o.wpIn F nF Tryz.prog a w K Q := by
  unfold Oper.wpIn
  rw [Oper.semAt_eq _ _ _ (by rw [ho]; intro c h; cases h)]
  have he : a.eval (.tmp q) = .int .i64 x := hq
  unfold execOp Oper.about
  simp only [ho, he]
  go_simp
  first | exact h | (rw [hw]; exact h)
/-- ten zeros written -/
def putZ (w : World) (g : Nat) : World := (((((((((w.setCell ⟨g, 0, none⟩ (.int .i64 0)).setCell ⟨g, 1, none⟩ (.int .i64 0)).setCell ⟨g, 2, none⟩ (.int .i64 0)).setCell ⟨g, 3, none⟩ (.int .i64 0)).setCell ⟨g, 4, none⟩ (.int .i64 0)).setCell ⟨g, 5, none⟩ (.int .i64 0)).setCell ⟨g, 6, none⟩ (.int .i64 0)).setCell ⟨g, 7, none⟩ (.int .i64 0)).setCell ⟨g, 8, none⟩ (.int .i64 0)).setCell ⟨g, 9, none⟩ (.slice none 0 0)
set_option maxRecDepth 100000 in
theorem inStoreZ (q r g : Nat) (ho : o.op = .store 28 (.tmp q) (.tmp r)) (hq : a.tmps.getD q undef = .pointer (some ⟨g, 0, none⟩)) (hr : a.tmps.getD r undef = .agg pgZ) (hg : w.heap[g]? = some (.cells pgZ 28)) (h : K (a.put o.dst undef) (putZ w g)) : o.wpIn F nF Tryz.prog a w K Q := by
  unfold Oper.wpIn
  rw [Oper.semAt_eq _ _ _ (by rw [ho]; intro c h; cases h)]
  have he : a.eval (.tmp q) = .pointer (some ⟨g, 0, none⟩) := hq
  have hv : a.eval (.tmp r) = .agg pgZ := hr
  obtain ⟨c0, c1, c2, c3, c4, c5, c6, c7, c8, c9⟩ := pg_cells (p := pg0) (vl := .slice none 0 0) hg
  have f0 := frozen_cells hg 0
  have f1 := frozen_cells hg 1
  have f2 := frozen_cells hg 2
  have f3 := frozen_cells hg 3
  have f4 := frozen_cells hg 4
  have f5 := frozen_cells hg 5
  have f6 := frozen_cells hg 6
  have f7 := frozen_cells hg 7
  have f8 := frozen_cells hg 8
  have f9 := frozen_cells hg 9
  unfold putZ at h
  unfold pgZ at hv
  unfold execOp Oper.about
  simp only [ho, he, hv]
  go_simp
  exact h
theorem inStoreE (q g : Nat) (u : Value) (ho : o.op = .store 41 (.tmp q) (.const (.int .i64 41))) (hq : a.tmps.getD q undef = .pointer (some ⟨g, 0, none⟩)) (hc : w.cell? ⟨g, 0, none⟩ = some u) (hf : w.frozen? ⟨g, 0, none⟩ = false) (h : K (a.put o.dst undef) (w.setCell ⟨g, 0, none⟩ (.int .i64 41))) : o.wpIn F nF Tryz.prog a w K Q := by
  unfold Oper.wpIn
  rw [Oper.semAt_eq _ _ _ (by rw [ho]; intro c h; cases h)]
  have he : a.eval (.tmp q) = .pointer (some ⟨g, 0, none⟩) := hq
  unfold execOp Oper.about
  simp only [ho, he]
  go_simp
  exact h
theorem inStoreI (q r g : Nat) (x : Int) (u : Value) (ho : o.op = .store 3 (.tmp q) (.tmp r)) (hq : a.tmps.getD q undef = .pointer (some ⟨g, 0, none⟩)) (hr : a.tmps.getD r undef = .int .i64 x) (hc : w.cell? ⟨g, 0, none⟩ = some u) (hf : w.frozen? ⟨g, 0, none⟩ = false) (h : K (a.put o.dst undef) (w.setCell ⟨g, 0, none⟩ (.int .i64 x))) : o.wpIn F nF Tryz.prog a w K Q := by
  unfold Oper.wpIn
  rw [Oper.semAt_eq _ _ _ (by rw [ho]; intro c h; cases h)]
  have he : a.eval (.tmp q) = .pointer (some ⟨g, 0, none⟩) := hq
  have hv : a.eval (.tmp r) = .int .i64 x := hr
  unfold execOp Oper.about
  simp only [ho, he, hv]
  go_simp
  exact h
end
end Go.Proofs.YtijidcigfdblaaaGreatDoor
