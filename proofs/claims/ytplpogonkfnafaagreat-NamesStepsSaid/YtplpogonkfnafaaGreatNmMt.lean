
/- The reference: All. -/
import Derived.Test.YtplpogonkfnafaaGreatNmMo
import Derived.Test.YtplpogonkfnafaaGreatNmAl
namespace Go.Proofs.YtplpogonkfnafaaGreat
open Go.RowKit Go.Nm

structure AlI (V : World) (l : List Int) (R : Value → World → Prop) (bv nv lv mv : Value) (dn : Nat → Bool) (val : Nat → Value) (X : World) : Prop where
  s0 : dn 0 = true → val 0 = bv
  s1 : dn 1 = true → val 1 = nv
  s3 : dn 3 = true → val 3 = lv
  s5 : dn 5 = true → val 5 = mv
  s8 : dn 8 = true → val 8 = (.int .i64 0)
  bel : dn 6 = false → Below V.heap.size V X
  e2 : dn 2 = true → dn 4 = false → OwN V (val 2) [] X
  e4 : dn 4 = true → dn 6 = false → OwN V (val 4) l X
  e6 : dn 6 = true → R (val 6) X
  e7 : dn 7 = true → val 7 = val 6
section
variable {V : World} {l : List Int} {R : Value → World → Prop} {bv nv lv mv : Value} {dn : Nat → Bool} {val : Nat → Value} {X Y : World}
theorem AlI.op0 (h : AlI V l R bv nv lv mv dn val X) : AlI V l R bv nv lv mv (andB dn 0) (updV val 0 (bv)) X :=
  ⟨(fun _ => rfl), h.s1, h.s3, h.s5, h.s8, h.bel, h.e2, h.e4, h.e6, h.e7⟩
theorem AlI.op1 (h : AlI V l R bv nv lv mv dn val X) : AlI V l R bv nv lv mv (andB dn 1) (updV val 1 (nv)) X :=
  ⟨h.s0, (fun _ => rfl), h.s3, h.s5, h.s8, h.bel, h.e2, h.e4, h.e6, h.e7⟩
theorem AlI.op3 (h : AlI V l R bv nv lv mv dn val X) : AlI V l R bv nv lv mv (andB dn 3) (updV val 3 (lv)) X :=
  ⟨h.s0, h.s1, (fun _ => rfl), h.s5, h.s8, h.bel, h.e2, h.e4, h.e6, h.e7⟩
theorem AlI.op5 (h : AlI V l R bv nv lv mv dn val X) : AlI V l R bv nv lv mv (andB dn 5) (updV val 5 (mv)) X :=
  ⟨h.s0, h.s1, h.s3, (fun _ => rfl), h.s8, h.bel, h.e2, h.e4, h.e6, h.e7⟩
theorem AlI.op8 (h : AlI V l R bv nv lv mv dn val X) : AlI V l R bv nv lv mv (andB dn 8) (updV val 8 ((.int .i64 0))) X :=
  ⟨h.s0, h.s1, h.s3, h.s5, (fun _ => rfl), h.bel, h.e2, h.e4, h.e6, h.e7⟩
theorem AlI.op2 (h : AlI V l R bv nv lv mv dn val X) (n4 : dn 4 = false) (n6 : dn 6 = false) (n7 : dn 7 = false) : AlI V l R bv nv lv mv (andB dn 2) (updV val 2 (.slice (some ⟨X.heap.size, 0, none⟩) 0 0)) (X.alloc (.cells #[] 3)) :=
  ⟨h.s0, h.s1, h.s3, h.s5, h.s8, (fun _ => (h.bel n6).trans ((below_new _).mono (h.bel n6).size)), (fun _ _ => ⟨(h.bel n6).trans ((below_new _).mono (h.bel n6).size), World.ownsRow_lit (size := 1) X #[] 0 (h.bel n6).size (by unfold maxLen; omega) rfl⟩), (fun d => f_t n4 d), (fun d => f_t n6 d), (fun d => f_t n7 d)⟩
theorem AlI.op4 (h : AlI V l R bv nv lv mv dn val X) (n6 : dn 6 = false) (n7 : dn 7 = false) {u : Value} (hO : OwN V u l Y) : AlI V l R bv nv lv mv (andB dn 4) (updV val 4 (u)) Y :=
  ⟨h.s0, h.s1, h.s3, h.s5, h.s8, (fun _ => hO.bel), (fun _ n => nomatch n), (fun _ _ => hO), (fun d => f_t n6 d), (fun d => f_t n7 d)⟩
theorem AlI.op6 (h : AlI V l R bv nv lv mv dn val X) (y4 : dn 4 = true) (n7 : dn 7 = false) {u : Value} (hR : R u Y) : AlI V l R bv nv lv mv (andB dn 6) (updV val 6 (u)) Y :=
  ⟨h.s0, h.s1, h.s3, h.s5, h.s8, (fun n => nomatch n), (fun _ n => f_t n y4), (fun _ n => nomatch n), (fun _ => hR), (fun d => f_t n7 d)⟩
theorem AlI.op7 (h : AlI V l R bv nv lv mv dn val X) : AlI V l R bv nv lv mv (andB dn 7) (updV val 7 (val 6)) X :=
  ⟨h.s0, h.s1, h.s3, h.s5, h.s8, h.bel, h.e2, h.e4, h.e6, (fun _ => rfl)⟩
end
section
variable {o : Oper} {a : Act} {w : World} {K : Act → World → Prop} {Q : Exit → Act → World → Prop}
theorem opConst (v : Value) (ho : o.op = .assign (.const v)) (h : K (a.put o.dst v) w) : o.wp Tryz.prog a w K Q := by
  unfold Oper.wp execOp
  simp only [ho]
  go_simp
  exact h
theorem opCallM (q r s t : Nat) (v1 v2 v3 v4 : Value) (R : Ending → World → Prop) (ho : o.op = .call { callee := .value (.func 26), args := #[.tmp q, .tmp r, .tmp s, .tmp t], argTypes := #[25, 3, 22, 3] }) (h1 : a.tmps.getD q undef = v1) (h2 : a.tmps.getD r undef = v2) (h3 : a.tmps.getD s undef = v3) (h4 : a.tmps.getD t undef = v4)
    (hc : Calls Tryz.prog 26 #[v1, v2, v3, v4] w R) (h : ∀ e w', R e w' → ∃ v, e = .returned v ∧ K (a.put o.dst v) w') : o.wp Tryz.prog a w K Q := by
  unfold Oper.wp execOp
  have e1 : a.eval (.tmp q) = v1 := h1
  have e2 : a.eval (.tmp r) = v2 := h2
  have e3 : a.eval (.tmp s) = v3 := h3
  have e4 : a.eval (.tmp t) = v4 := h4
  simp only [ho]
  go_simp
  refine hc.mono ?_
  intro e w' hR
  obtain ⟨v, rfl, hK⟩ := h e w' hR
  exact hK
end
theorem allOut_r (b : Bk) (n m : Int) (l : List Int) : allOut b n l m = if openE b [n, m] = 0 then (if Inc l then (if ∀ z ∈ l, z ∈ rverF b n.toNat then (mns b.chs n.toNat l m.toNat, 0) else ([], 22)) else ([], 1)) else ([], openE b [n, m]) := by
  unfold allOut
  by_cases h : openE b [n, m] = 0
  · rw [if_pos h, if_pos h]
    obtain ⟨hv, hV⟩ := openE_val h
    have hn := hV n (by simp)
    rw [val_len hv] at hn
    obtain ⟨A, hA, hAi, _⟩ := vers_at hv (k := n.toNat) (by omega)
    have e1 := rver_getD hv (by omega) hA
    rw [List.getD_eq_getElem?_getD, hA, Option.getD_some, e1]
    by_cases h2 : Inc l
    · rw [if_pos (decide_eq_true h2), if_pos h2]
      have e2 := wo_nil h2 hAi
      by_cases h3 : ∀ z ∈ l, z ∈ A
      · rw [if_pos (decide_eq_true (e2.2 h3)), if_pos h3]
      · rw [if_neg (by simp only [decide_eq_true_eq]; exact fun h => h3 (e2.1 h)), if_neg h3]
    · rw [if_neg (by simpa using h2), if_neg h2]
  · rw [if_neg h, if_neg h]
end Go.Proofs.YtplpogonkfnafaaGreat
