
/- The reference: Best. -/
import Derived.Test.YthfegbcbpeedbaaGreatDoorKyPk
namespace Go.Ky
open Go.Nm
def worstE (m : Mx) (l : List Int) (z : Int) : Int := if seenE m [l] = 0 then (if 0 ≤ z ∧ z < m.st.length then 0 else 1) else seenE m [l]
def worstC (m : Mx) (l : List Int) (z : Int) : Int := if worstE m l z = 0 then worstF (remL m.rows l) z.toNat (l.getD z.toNat 0) else 0
end Go.Ky
namespace Go.Proofs.YthfegbcbpeedbaaGreatDoor
open Go.RowKit Go.Nm Go.Ky

end Go.Proofs.YthfegbcbpeedbaaGreatDoor
namespace Go.Proofs.YthfegbcbpeedbaaGreatDoor
open Go.RowKit Go.Nm Go.Ky

structure WsI (V : World) (p0 rv uv : Value) (pb : Addr) (c x W : Int) (RL : List Rw) (dn : Nat → Bool) (val : Nat → Value) (X : World) : Prop where
  s0 : dn 0 = true → val 0 = p0
  s1 : dn 1 = true → val 1 = rv
  s2 : dn 2 = true → val 2 = uv
  s4 : dn 4 = true → val 4 = .int .i64 c
  s5 : dn 5 = true → val 5 = uv
  s6 : dn 6 = true → val 6 = .int .i64 c
  s7 : dn 7 = true → val 7 = .pointer (some pb)
  s8 : dn 8 = true → val 8 = .int .i64 x
  s10 : dn 10 = true → val 10 = .int .i64 W
  s11 : dn 11 = true → val 11 = .int .i64 0
  s9 : dn 9 = true → val 9 = .int .i64 W
  bel : Below V.heap.size V X
  e3 : dn 3 = true → IlSl X X.heap.size (val 3) RL
section
variable {V : World} {p0 rv uv : Value} {pb : Addr} {c x W : Int} {RL : List Rw} {dn : Nat → Bool} {val : Nat → Value} {X Y : World}
theorem WsI.op0 (h : WsI V p0 rv uv pb c x W RL dn val X) : WsI V p0 rv uv pb c x W RL (andB dn 0) (updV val 0 (p0)) X :=
  ⟨(fun _ => rfl), h.s1, h.s2, h.s4, h.s5, h.s6, h.s7, h.s8, h.s10, h.s11, h.s9, h.bel, h.e3⟩
theorem WsI.op1 (h : WsI V p0 rv uv pb c x W RL dn val X) : WsI V p0 rv uv pb c x W RL (andB dn 1) (updV val 1 (rv)) X :=
  ⟨h.s0, (fun _ => rfl), h.s2, h.s4, h.s5, h.s6, h.s7, h.s8, h.s10, h.s11, h.s9, h.bel, h.e3⟩
theorem WsI.op2 (h : WsI V p0 rv uv pb c x W RL dn val X) : WsI V p0 rv uv pb c x W RL (andB dn 2) (updV val 2 (uv)) X :=
  ⟨h.s0, h.s1, (fun _ => rfl), h.s4, h.s5, h.s6, h.s7, h.s8, h.s10, h.s11, h.s9, h.bel, h.e3⟩
theorem WsI.op4 (h : WsI V p0 rv uv pb c x W RL dn val X) : WsI V p0 rv uv pb c x W RL (andB dn 4) (updV val 4 (.int .i64 c)) X :=
  ⟨h.s0, h.s1, h.s2, (fun _ => rfl), h.s5, h.s6, h.s7, h.s8, h.s10, h.s11, h.s9, h.bel, h.e3⟩
theorem WsI.op5 (h : WsI V p0 rv uv pb c x W RL dn val X) : WsI V p0 rv uv pb c x W RL (andB dn 5) (updV val 5 (uv)) X :=
  ⟨h.s0, h.s1, h.s2, h.s4, (fun _ => rfl), h.s6, h.s7, h.s8, h.s10, h.s11, h.s9, h.bel, h.e3⟩
theorem WsI.op6 (h : WsI V p0 rv uv pb c x W RL dn val X) : WsI V p0 rv uv pb c x W RL (andB dn 6) (updV val 6 (.int .i64 c)) X :=
  ⟨h.s0, h.s1, h.s2, h.s4, h.s5, (fun _ => rfl), h.s7, h.s8, h.s10, h.s11, h.s9, h.bel, h.e3⟩
theorem WsI.op7 (h : WsI V p0 rv uv pb c x W RL dn val X) : WsI V p0 rv uv pb c x W RL (andB dn 7) (updV val 7 (.pointer (some pb))) X :=
  ⟨h.s0, h.s1, h.s2, h.s4, h.s5, h.s6, (fun _ => rfl), h.s8, h.s10, h.s11, h.s9, h.bel, h.e3⟩
theorem WsI.op8 (h : WsI V p0 rv uv pb c x W RL dn val X) : WsI V p0 rv uv pb c x W RL (andB dn 8) (updV val 8 (.int .i64 x)) X :=
  ⟨h.s0, h.s1, h.s2, h.s4, h.s5, h.s6, h.s7, (fun _ => rfl), h.s10, h.s11, h.s9, h.bel, h.e3⟩
theorem WsI.op10 (h : WsI V p0 rv uv pb c x W RL dn val X) : WsI V p0 rv uv pb c x W RL (andB dn 10) (updV val 10 (.int .i64 W)) X :=
  ⟨h.s0, h.s1, h.s2, h.s4, h.s5, h.s6, h.s7, h.s8, (fun _ => rfl), h.s11, h.s9, h.bel, h.e3⟩
theorem WsI.op11 (h : WsI V p0 rv uv pb c x W RL dn val X) : WsI V p0 rv uv pb c x W RL (andB dn 11) (updV val 11 (.int .i64 0)) X :=
  ⟨h.s0, h.s1, h.s2, h.s4, h.s5, h.s6, h.s7, h.s8, h.s10, (fun _ => rfl), h.s9, h.bel, h.e3⟩
theorem WsI.op3 (h : WsI V p0 rv uv pb c x W RL dn val X) {v : Value} (hv : IlSl Y Y.heap.size v RL) (hb : Below X.heap.size X Y) : WsI V p0 rv uv pb c x W RL (andB dn 3) (updV val 3 (v)) (Y) :=
  ⟨h.s0, h.s1, h.s2, h.s4, h.s5, h.s6, h.s7, h.s8, h.s10, h.s11, h.s9, h.bel.trans (hb.mono h.bel.size), (fun _ => hv)⟩
theorem WsI.op9 (h : WsI V p0 rv uv pb c x W RL dn val X) (hb : Below X.heap.size X Y) : WsI V p0 rv uv pb c x W RL (andB dn 9) (updV val 9 (.int .i64 W)) (Y) :=
  ⟨h.s0, h.s1, h.s2, h.s4, h.s5, h.s6, h.s7, h.s8, h.s10, h.s11, (fun _ => rfl), h.bel.trans (hb.mono h.bel.size), (fun d => (h.e3 d).step hb)⟩
end
section
variable {o : Oper} {a : Act} {w : World} {K : Act → World → Prop} {Q : Exit → Act → World → Prop}
set_option maxRecDepth 100000 in
theorem opFieldMx (k : Nat) (q g : Nat) (hk : k < 2) (ho : o.op = .fieldAddr 25 (.tmp q) k) (hq : a.tmps.getD q undef = .pointer (some ⟨g, 0, none⟩)) (h : K (a.put o.dst (.pointer (some ⟨g, k, none⟩))) w) : o.wp Tryz.prog a w K Q := by
  unfold Oper.wp execOp
  have he : a.eval (.tmp q) = .pointer (some ⟨g, 0, none⟩) := hq
  simp only [ho, he]
  rcases (show k = 0 ∨ k = 1 by omega) with rfl | rfl
  · go_simp
    exact h
  · go_simp
    exact h
set_option maxRecDepth 100000 in
theorem opCallWo (q r s : Nat) (v1 v2 v3 : Value) (R : Ending → World → Prop) (ho : o.op = .call { callee := .value (.func 77), args := #[.tmp q, .tmp r, .tmp s], argTypes := #[23, 3, 3] }) (h1 : a.tmps.getD q undef = v1) (h2 : a.tmps.getD r undef = v2) (h3 : a.tmps.getD s undef = v3)
    (hc : Calls Tryz.prog 77 #[v1, v2, v3] w R) (h : ∀ e w', R e w' → ∃ v, e = .returned v ∧ K (a.put o.dst v) w') : o.wp Tryz.prog a w K Q := by
  unfold Oper.wp execOp
  have e1 : a.eval (.tmp q) = v1 := h1
  have e2 : a.eval (.tmp r) = v2 := h2
  have e3 : a.eval (.tmp s) = v3 := h3
  simp only [ho]
  go_simp
  refine hc.mono ?_
  intro e w' hR
  obtain ⟨v, rfl, hK⟩ := h e w' hR
  exact hK
end
end Go.Proofs.YthfegbcbpeedbaaGreatDoor
namespace Go.Ky
open Go.Nm
/-- what the reference calls out: -1 so long as none is found -/
def outB (s : Int × Bool × Int) : Int := if s.2.1 = true then s.1 else -1
theorem bestS_nonneg (L : List Rw) (l : List Int) (P : Nat → Bool) : ∀ n, 0 ≤ (bestS L l P n).1
  | 0 => Int.le_refl 0
  | n + 1 => by
    have ih := bestS_nonneg L l P n
    rw [bestS_next]
    unfold bestStep
    split
    · split
      · show (0 : Int) ≤ (n : Int); omega
      · exact ih
    · exact ih
end Go.Ky
namespace Go.Proofs.YthfegbcbpeedbaaGreatDoor
open Go.RowKit Go.Nm Go.Ky

end Go.Proofs.YthfegbcbpeedbaaGreatDoor
namespace Go.Proofs.YthfegbcbpeedbaaGreatDoor
open Go.RowKit Go.Nm Go.Ky

end Go.Proofs.YthfegbcbpeedbaaGreatDoor
