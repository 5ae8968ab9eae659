
/- The drawn region of the reference's mean. -/
import Derived.Test.YtplpogonkfnafaaGreatNmMg
import Derived.Test.YtplpogonkfnafaaGreatNmFi
namespace Go.Proofs.YtplpogonkfnafaaGreat
open Go.RowKit Go.Nm

structure MnI (V : World) (A : List Int) (R : Value → World → Prop) (p0 cv iv jv p4 xv bv lv : Value) (dn : Nat → Bool) (val : Nat → Value) (X : World) : Prop where
  s0 : dn 0 = true → val 0 = p0
  s1 : dn 1 = true → val 1 = cv
  s2 : dn 2 = true → val 2 = iv
  s3 : dn 3 = true → val 3 = jv
  s4 : dn 4 = true → val 4 = p4
  s5 : dn 5 = true → val 5 = xv
  s6 : dn 6 = true → val 6 = bv
  s7 : dn 7 = true → val 7 = iv
  s8 : dn 8 = true → val 8 = jv
  s10 : dn 10 = true → val 10 = lv
  bel : dn 11 = false → Below V.heap.size V X
  e9 : dn 9 = true → dn 11 = false → InSl X X.heap.size (val 9) A
  e11 : dn 11 = true → R (val 11) X
  e12 : dn 12 = true → val 12 = val 11
section
variable {V : World} {A : List Int} {R : Value → World → Prop} {p0 cv iv jv p4 xv bv lv : Value} {dn : Nat → Bool} {val : Nat → Value} {X Y : World}
theorem MnI.op0 (h : MnI V A R p0 cv iv jv p4 xv bv lv dn val X) : MnI V A R p0 cv iv jv p4 xv bv lv (andB dn 0) (updV val 0 (p0)) X :=
  ⟨(fun _ => rfl), h.s1, h.s2, h.s3, h.s4, h.s5, h.s6, h.s7, h.s8, h.s10, h.bel, h.e9, h.e11, h.e12⟩
theorem MnI.op1 (h : MnI V A R p0 cv iv jv p4 xv bv lv dn val X) : MnI V A R p0 cv iv jv p4 xv bv lv (andB dn 1) (updV val 1 (cv)) X :=
  ⟨h.s0, (fun _ => rfl), h.s2, h.s3, h.s4, h.s5, h.s6, h.s7, h.s8, h.s10, h.bel, h.e9, h.e11, h.e12⟩
theorem MnI.op2 (h : MnI V A R p0 cv iv jv p4 xv bv lv dn val X) : MnI V A R p0 cv iv jv p4 xv bv lv (andB dn 2) (updV val 2 (iv)) X :=
  ⟨h.s0, h.s1, (fun _ => rfl), h.s3, h.s4, h.s5, h.s6, h.s7, h.s8, h.s10, h.bel, h.e9, h.e11, h.e12⟩
theorem MnI.op3 (h : MnI V A R p0 cv iv jv p4 xv bv lv dn val X) : MnI V A R p0 cv iv jv p4 xv bv lv (andB dn 3) (updV val 3 (jv)) X :=
  ⟨h.s0, h.s1, h.s2, (fun _ => rfl), h.s4, h.s5, h.s6, h.s7, h.s8, h.s10, h.bel, h.e9, h.e11, h.e12⟩
theorem MnI.op4 (h : MnI V A R p0 cv iv jv p4 xv bv lv dn val X) : MnI V A R p0 cv iv jv p4 xv bv lv (andB dn 4) (updV val 4 (p4)) X :=
  ⟨h.s0, h.s1, h.s2, h.s3, (fun _ => rfl), h.s5, h.s6, h.s7, h.s8, h.s10, h.bel, h.e9, h.e11, h.e12⟩
theorem MnI.op5 (h : MnI V A R p0 cv iv jv p4 xv bv lv dn val X) : MnI V A R p0 cv iv jv p4 xv bv lv (andB dn 5) (updV val 5 (xv)) X :=
  ⟨h.s0, h.s1, h.s2, h.s3, h.s4, (fun _ => rfl), h.s6, h.s7, h.s8, h.s10, h.bel, h.e9, h.e11, h.e12⟩
theorem MnI.op6 (h : MnI V A R p0 cv iv jv p4 xv bv lv dn val X) : MnI V A R p0 cv iv jv p4 xv bv lv (andB dn 6) (updV val 6 (bv)) X :=
  ⟨h.s0, h.s1, h.s2, h.s3, h.s4, h.s5, (fun _ => rfl), h.s7, h.s8, h.s10, h.bel, h.e9, h.e11, h.e12⟩
theorem MnI.op7 (h : MnI V A R p0 cv iv jv p4 xv bv lv dn val X) : MnI V A R p0 cv iv jv p4 xv bv lv (andB dn 7) (updV val 7 (iv)) X :=
  ⟨h.s0, h.s1, h.s2, h.s3, h.s4, h.s5, h.s6, (fun _ => rfl), h.s8, h.s10, h.bel, h.e9, h.e11, h.e12⟩
theorem MnI.op8 (h : MnI V A R p0 cv iv jv p4 xv bv lv dn val X) : MnI V A R p0 cv iv jv p4 xv bv lv (andB dn 8) (updV val 8 (jv)) X :=
  ⟨h.s0, h.s1, h.s2, h.s3, h.s4, h.s5, h.s6, h.s7, (fun _ => rfl), h.s10, h.bel, h.e9, h.e11, h.e12⟩
theorem MnI.op10 (h : MnI V A R p0 cv iv jv p4 xv bv lv dn val X) : MnI V A R p0 cv iv jv p4 xv bv lv (andB dn 10) (updV val 10 (lv)) X :=
  ⟨h.s0, h.s1, h.s2, h.s3, h.s4, h.s5, h.s6, h.s7, h.s8, (fun _ => rfl), h.bel, h.e9, h.e11, h.e12⟩
theorem MnI.op9 (h : MnI V A R p0 cv iv jv p4 xv bv lv dn val X) (n11 : dn 11 = false) (n12 : dn 12 = false) {u : Value} (hI : InSl Y Y.heap.size u A) (hb : Below X.heap.size X Y) : MnI V A R p0 cv iv jv p4 xv bv lv (andB dn 9) (updV val 9 (u)) Y :=
  ⟨h.s0, h.s1, h.s2, h.s3, h.s4, h.s5, h.s6, h.s7, h.s8, h.s10, (fun _ => (h.bel n11).trans (hb.mono (h.bel n11).size)), (fun _ _ => hI), (fun d => f_t n11 d), (fun d => f_t n12 d)⟩
theorem MnI.op11 (h : MnI V A R p0 cv iv jv p4 xv bv lv dn val X) (n12 : dn 12 = false) {u : Value} (hR : R u Y) : MnI V A R p0 cv iv jv p4 xv bv lv (andB dn 11) (updV val 11 (u)) Y :=
  ⟨h.s0, h.s1, h.s2, h.s3, h.s4, h.s5, h.s6, h.s7, h.s8, h.s10, (fun n => nomatch n), (fun _ n => nomatch n), (fun _ => hR), (fun d => f_t n12 d)⟩
theorem MnI.op12 (h : MnI V A R p0 cv iv jv p4 xv bv lv dn val X) : MnI V A R p0 cv iv jv p4 xv bv lv (andB dn 12) (updV val 12 (val 11)) X :=
  ⟨h.s0, h.s1, h.s2, h.s3, h.s4, h.s5, h.s6, h.s7, h.s8, h.s10, h.bel, h.e9, h.e11, (fun _ => rfl)⟩
end
section
variable {o : Oper} {a : Act} {w : World} {K : Act → World → Prop} {Q : Exit → Act → World → Prop}
theorem opField1 (q g : Nat) (ho : o.op = .fieldAddr 25 (.tmp q) 1) (hq : a.tmps.getD q undef = .pointer (some ⟨g, 0, none⟩)) (h : K (a.put o.dst (.pointer (some ⟨g, 1, none⟩))) w) : o.wp Tryz.prog a w K Q := by
  unfold Oper.wp execOp
  have he : a.eval (.tmp q) = .pointer (some ⟨g, 0, none⟩) := hq
  simp only [ho, he]
  go_simp
  exact h
theorem opLdCs (q : Nat) (ad : Addr) (v : Value) (ho : o.op = .load 23 (.tmp q)) (hq : a.tmps.getD q undef = .pointer (some ad)) (hc : w.cell? ad = some v) (h : K (a.put o.dst v) w) : o.wp Tryz.prog a w K Q := by
  unfold Oper.wp execOp
  have he : a.eval (.tmp q) = .pointer (some ad) := hq
  simp only [ho, he]
  go_simp
  exact h
theorem opSub1 (q : Nat) (i j : Int) (ho : o.op = .binOp .sub 3 (.tmp q) (.const (.int .i64 1)) 3) (hq : a.tmps.getD q undef = .int .i64 i) (hj : IntKind.i64.wrap (i - 1) = j) (h : K (a.put o.dst (.int .i64 j)) w) : o.wp Tryz.prog a w K Q := by
  subst hj
  unfold Oper.wp execOp
  have he : a.eval (.tmp q) = .int .i64 i := hq
  simp only [ho, he]
  go_simp
  exact h
theorem opIxC (q r n c k : Nat) (ad : Addr) (ho : o.op = .indexAddr 23 (.tmp q) (.tmp r)) (hq : a.tmps.getD q undef = .slice (some ad) n c) (hr : a.tmps.getD r undef = .int .i64 (k : Int)) (hk : k < n) (h : K (a.put o.dst (.pointer (some (ad.add (k * 3))))) w) : o.wp Tryz.prog a w K Q := by
  unfold Oper.wp execOp
  have he : a.eval (.tmp q) = .slice (some ad) n c := hq
  have he2 : a.eval (.tmp r) = .int .i64 (k : Int) := hr
  simp only [ho, he, he2]
  go_simp
  exact h
theorem opLdC (q : Nat) (ad : Addr) (v1 v2 v3 : Value) (ho : o.op = .load 52 (.tmp q)) (hq : a.tmps.getD q undef = .pointer (some ad)) (h1 : w.cell? ad = some v1) (h2 : w.cell? ⟨ad.block, ad.off + 1, none⟩ = some v2) (h3 : w.cell? ⟨ad.block, ad.off + 2, none⟩ = some v3) (h : K (a.put o.dst (.agg #[v1, v2, v3])) w) : o.wp Tryz.prog a w K Q := by
  unfold Oper.wp execOp
  have he : a.eval (.tmp q) = .pointer (some ad) := hq
  simp only [ho, he]
  go_simp
  exact h
theorem opLdB (q g : Nat) (v1 v2 : Value) (ho : o.op = .load 25 (.tmp q)) (hq : a.tmps.getD q undef = .pointer (some ⟨g, 0, none⟩)) (hc : w.cell? ⟨g, 0, none⟩ = some v1) (hc2 : w.cell? ⟨g, 1, none⟩ = some v2) (h : K (a.put o.dst (.agg #[v1, v2])) w) : o.wp Tryz.prog a w K Q := by
  unfold Oper.wp execOp
  have he : a.eval (.tmp q) = .pointer (some ⟨g, 0, none⟩) := hq
  simp only [ho, he]
  go_simp
  exact h
theorem opCallV (q r : Nat) (v1 v2 : Value) (R : Ending → World → Prop) (ho : o.op = .call { callee := .value (.func 25), args := #[.tmp q, .tmp r], argTypes := #[25, 3] }) (h1 : a.tmps.getD q undef = v1) (h2 : a.tmps.getD r undef = v2)
    (hc : Calls Tryz.prog 25 #[v1, v2] w R) (h : ∀ e w', R e w' → ∃ v, e = .returned v ∧ K (a.put o.dst v) w') : o.wp Tryz.prog a w K Q := by
  unfold Oper.wp execOp
  have e1 : a.eval (.tmp q) = v1 := h1
  have e2 : a.eval (.tmp r) = v2 := h2
  simp only [ho]
  go_simp
  refine hc.mono ?_
  intro e w' hR
  obtain ⟨v, rfl, hK⟩ := h e w' hR
  exact hK
theorem opCallB (q r s : Nat) (v1 v2 v3 : Value) (R : Ending → World → Prop) (ho : o.op = .call { callee := .value (.func 52), args := #[.tmp q, .tmp r, .tmp s], argTypes := #[52, 22, 22] }) (h1 : a.tmps.getD q undef = v1) (h2 : a.tmps.getD r undef = v2) (h3 : a.tmps.getD s undef = v3)
    (hc : Calls Tryz.prog 52 #[v1, v2, v3] w R) (h : ∀ e w', R e w' → ∃ v, e = .returned v ∧ K (a.put o.dst v) w') : o.wp Tryz.prog a w K Q := by
  unfold Oper.wp execOp
  have e1 : a.eval (.tmp q) = v1 := h1
  have e2 : a.eval (.tmp r) = v2 := h2
  have e3 : a.eval (.tmp s) = v3 := h3
  simp only [ho]
  go_simp
  refine hc.mono ?_
  intro e w' hR
  obtain ⟨v, rfl, hK⟩ := h e w' hR
  exact hK
end
end Go.Proofs.YtplpogonkfnafaaGreat
