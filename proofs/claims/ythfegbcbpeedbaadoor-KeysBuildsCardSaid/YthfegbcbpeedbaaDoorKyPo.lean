/- The reference: Best. -/
import Derived.Test.YthfegbcbpeedbaaDoorKyPk
namespace Go.Ky
open Go.Nm
def worstE (m : Mx) (l : List Int) (z : Int) : Int := if seenE m [l] = 0 then (if 0 ≤ z ∧ z < m.st.length then 0 else 1) else seenE m [l]
def worstC (m : Mx) (l : List Int) (z : Int) : Int := if worstE m l z = 0 then worstF (remL m.rows l) z.toNat (l.getD z.toNat 0) else 0
end Go.Ky
namespace Go.Proofs.YthfegbcbpeedbaaDoor
open Go.RowKit Go.Nm Go.Ky

set_option maxRecDepth 100000 in
set_option maxHeartbeats 8000000 in
theorem rWorst_any (v u : Value) (m : Mx) (l : List Int) (z : Int) (w : World) (hv : MxV w v m) (hs : MSm m) (hu : InSl w w.heap.size u l) (hl : l.length ≤ 1000000) :
    Calls Tryd.prog 37 #[v, u, .int .i64 z] w fun e w' => e = .returned (.tuple #[.int .i64 (worstC m l z), .int .i64 (worstE m l z)]) ∧ Below w.heap.size w w' := by
  obtain ⟨A1, c1, A2, c2, W0, rfl, hW0, hb0, hM, hS, hR, hX⟩ := mx_box hv
  have HB0 := Lib.hid hb0
  have HW0 := Lib.hid hW0
  have HX := Lib.hid hX
  have hu0 := hu.step hb0
  have HC := Lib.hid (rseenError_any _ u m l W0 (hM W0 (Below.refl _ _)) hs hu0 hl)
  have HWn := Lib.hid (fun n Y => rwithin_any z 0 n Y)
  have HSp := Lib.hid (fun (c : Nat) Y (hb : Below W0.heap.size W0 Y) (hm : mxF m = true) (h : setsF m.st l = true) (hc : c < l.length) (q : Int) (hq : m.st[c]? = some q) => show Calls Tryd.prog 83 _ Y _ from rspread_any _ u m l c Y (hM Y hb) hs (hu0.step hb) hm h hc hq)
  have HOk := Lib.hid (fun h : seenE m [l] = 0 => seen_ok h)
  have HSc := Lib.hid (seen_cases m [l])
  have HE := Lib.hid (show worstE m l z = (if seenE m [l] = 0 then (if 0 ≤ z ∧ z < m.st.length then 0 else 1) else seenE m [l]) ∧ worstC m l z = (if worstE m l z = 0 then worstF (remL m.rows l) z.toNat (l.getD z.toNat 0) else 0) from ⟨rfl, rfl⟩)
  have HLn := Lib.hid (fun h : setsF m.st l = true => sets_len' h)
  have hns : m.st.length ≤ 1000 := hs.1
  obtain ⟨Au, cu, rfl, _⟩ := hu0.form
  obtain ⟨k0, k1⟩ := hX W0 (Below.refl _ _)
  obtain ⟨we, hwe⟩ : ∃ x, worstE m l z = x := ⟨_, rfl⟩
  obtain ⟨wc, hwc⟩ : ∃ x, worstC m l z = x := ⟨_, rfl⟩
  obtain ⟨se, hse⟩ : ∃ x, seenE m [l] = x := ⟨_, rfl⟩
  rw [hse] at HC HOk HSc
  rw [hse, hwe, hwc] at HE
  rw [hwe, hwc]
  obtain ⟨ns, hn⟩ : ∃ n, m.st.length = n := ⟨_, rfl⟩
  have HN := Lib.hid hn
  generalize hnr : m.rows.length = nr at HC HW0 HX HSp k1 ⊢
  rw [hn] at HC HW0 HX HSp HE HLn k0 hns ⊢
  clear hv hs hu hW0 hb0 hM hS hR hX hu0 hwe hwc hse hn hnr hl
  have hsub : IntKind.i64.wrap ((ns : Int) - 1) = (ns : Int) - 1 := by rw [IntKind.wrap_i64]; omega
  go_enter Tryd.func37, Tryd.ntmps37
  go_wp2_with fail
  rw [HW0.out]
  (try go_wp2_with fail)
  (with_reducible refine HC.out.mono ?_)
  rintro e w1 ⟨rfl, hb⟩
  have HB1 := Lib.hid hb
  clear hb k0 k1 HC
  obtain ⟨k0, k1⟩ := HX.out w1 HB1.out
  rcases HSc.out with rfl | rfl | rfl
  rotate_left
  · have HF := Lib.hid (show we = 30 ∧ wc = 0 from by
      have h := HE.out.1
      simp at h
      exact ⟨h, by rw [HE.out.2, h]; simp⟩)
    go_wp2_with fail
    go_ret2
    exact ⟨by rw [HF.out.1, HF.out.2]; rfl, HB0.out.trans (HB1.out.mono HB0.out.size)⟩
  · have HF := Lib.hid (show we = 32 ∧ wc = 0 from by
      have h := HE.out.1
      simp at h
      exact ⟨h, by rw [HE.out.2, h]; simp⟩)
    go_wp2_with fail
    go_ret2
    exact ⟨by rw [HF.out.1, HF.out.2]; rfl, HB0.out.trans (HB1.out.mono HB0.out.size)⟩
  · have HOk1 := Lib.hid (HOk.out (by first | trivial | rfl))
    have HE1 := Lib.hid (show we = (if 0 ≤ z ∧ z < ns then 0 else 1) ∧ wc = (if we = 0 then worstF (remL m.rows l) z.toNat (l.getD z.toNat 0) else 0) from by
      have h := HE.out
      simpa using h)
    have HW1 := Lib.hid (HWn.out ((ns : Int) - 1) w1)
    clear HOk HE HSc HWn
    by_cases hz : 0 ≤ z ∧ z ≤ (ns : Int) - 1
    · rw [decide_eq_true hz] at HW1
      have HF := Lib.hid (show we = 0 ∧ wc = worstF (remL m.rows l) z.toNat (l.getD z.toNat 0) from by
        have h : we = 0 := by rw [HE1.out.1, if_pos (by omega)]
        exact ⟨h, by rw [HE1.out.2, if_pos h]⟩)
      obtain ⟨c, rfl⟩ : ∃ c : Nat, z = (c : Int) := ⟨z.toNat, by omega⟩
      have HLl := Lib.hid (HLn.out HOk1.out.2)
      obtain ⟨q, hq⟩ : ∃ q, m.st[c]? = some q := ⟨_, List.getElem?_eq_getElem (by have := HN.out; omega)⟩
      have HSw := Lib.hid (spS_worst HOk1.out.1 HOk1.out.2 hq)
      have HSp1 := Lib.hid (fun Y hb => HSp.out c Y hb HOk1.out.1 HOk1.out.2 (by have := HLl.out; omega) q hq)
      rw [HSw.out] at HSp1
      have HF2 := Lib.hid (show wc = worstF (remL m.rows l) c (l.getD c 0) from HF.out.2)
      rw [← HF2.out] at HSp1
      obtain ⟨lo, hlo⟩ : ∃ x, (spS m l c q.toNat).1 = x := ⟨_, rfl⟩
      rw [hlo] at HSp1
      clear hz hq hlo HSp HE1 HLn HSw HF2
      go_wp2_with fail
      (with_reducible refine HW1.out.mono ?_)
      rintro e w2 ⟨rfl, hb⟩
      have HB2 := Lib.hid (HB1.out.trans (hb.mono HB1.out.size))
      have HS2 := Lib.hid (HSp1.out w2 HB2.out)
      clear hb k0 k1 HW1 HSp1
      obtain ⟨k0, k1⟩ := HX.out w2 HB2.out
      go_wp2_with fail
      (with_reducible refine HS2.out.mono ?_)
      rintro e w3 ⟨rfl, hb⟩
      have HB3 := Lib.hid (HB2.out.trans (hb.mono HB2.out.size))
      clear hb
      go_wp2_with fail
      go_ret2
      exact ⟨by rw [HF.out.1]; rfl, HB0.out.trans (HB3.out.mono HB0.out.size)⟩
    · rw [decide_eq_false hz] at HW1
      have HF := Lib.hid (show we = 1 ∧ wc = 0 from by
        have h : we = 1 := by rw [HE1.out.1, if_neg (by omega)]
        exact ⟨h, by rw [HE1.out.2, h]; rfl⟩)
      clear hz HE1
      go_wp2_with fail
      (with_reducible refine HW1.out.mono ?_)
      rintro e w2 ⟨rfl, hb⟩
      have HB2 := Lib.hid (HB1.out.trans (hb.mono HB1.out.size))
      clear hb
      go_wp2_with fail
      go_ret2
      exact ⟨by rw [HF.out.1, HF.out.2]; rfl, HB0.out.trans (HB2.out.mono HB0.out.size)⟩
end Go.Proofs.YthfegbcbpeedbaaDoor
namespace Go.Proofs.YthfegbcbpeedbaaDoor
open Go.RowKit Go.Nm Go.Ky

structure WsI (V : World) (p0 rv uv : Value) (pb : Addr) (c x W : Int) (RL : List Rw) (dn : Nat → Bool) (val : Nat → Value) (X : World) : Prop where
  s0 : dn 0 = true → val 0 = p0
  s1 : dn 1 = true → val 1 = rv
  s2 : dn 2 = true → val 2 = uv
  s4 : dn 4 = true → val 4 = .int .i64 c
  s5 : dn 5 = true → val 5 = uv
  s6 : dn 6 = true → val 6 = .int .i64 c
  s7 : dn 7 = true → val 7 = .pointer (some pb)
  s8 : dn 8 = true → val 8 = .int .i64 x
  s10 : dn 10 = true → val 10 = .int .i64 W
  s11 : dn 11 = true → val 11 = .int .i64 0
  s9 : dn 9 = true → val 9 = .int .i64 W
  bel : Below V.heap.size V X
  e3 : dn 3 = true → IlSl X X.heap.size (val 3) RL
section
variable {V : World} {p0 rv uv : Value} {pb : Addr} {c x W : Int} {RL : List Rw} {dn : Nat → Bool} {val : Nat → Value} {X Y : World}
theorem WsI.op0 (h : WsI V p0 rv uv pb c x W RL dn val X) : WsI V p0 rv uv pb c x W RL (andB dn 0) (updV val 0 (p0)) X :=
  ⟨(fun _ => rfl), h.s1, h.s2, h.s4, h.s5, h.s6, h.s7, h.s8, h.s10, h.s11, h.s9, h.bel, h.e3⟩
theorem WsI.op1 (h : WsI V p0 rv uv pb c x W RL dn val X) : WsI V p0 rv uv pb c x W RL (andB dn 1) (updV val 1 (rv)) X :=
  ⟨h.s0, (fun _ => rfl), h.s2, h.s4, h.s5, h.s6, h.s7, h.s8, h.s10, h.s11, h.s9, h.bel, h.e3⟩
theorem WsI.op2 (h : WsI V p0 rv uv pb c x W RL dn val X) : WsI V p0 rv uv pb c x W RL (andB dn 2) (updV val 2 (uv)) X :=
  ⟨h.s0, h.s1, (fun _ => rfl), h.s4, h.s5, h.s6, h.s7, h.s8, h.s10, h.s11, h.s9, h.bel, h.e3⟩
theorem WsI.op4 (h : WsI V p0 rv uv pb c x W RL dn val X) : WsI V p0 rv uv pb c x W RL (andB dn 4) (updV val 4 (.int .i64 c)) X :=
  ⟨h.s0, h.s1, h.s2, (fun _ => rfl), h.s5, h.s6, h.s7, h.s8, h.s10, h.s11, h.s9, h.bel, h.e3⟩
theorem WsI.op5 (h : WsI V p0 rv uv pb c x W RL dn val X) : WsI V p0 rv uv pb c x W RL (andB dn 5) (updV val 5 (uv)) X :=
  ⟨h.s0, h.s1, h.s2, h.s4, (fun _ => rfl), h.s6, h.s7, h.s8, h.s10, h.s11, h.s9, h.bel, h.e3⟩
theorem WsI.op6 (h : WsI V p0 rv uv pb c x W RL dn val X) : WsI V p0 rv uv pb c x W RL (andB dn 6) (updV val 6 (.int .i64 c)) X :=
  ⟨h.s0, h.s1, h.s2, h.s4, h.s5, (fun _ => rfl), h.s7, h.s8, h.s10, h.s11, h.s9, h.bel, h.e3⟩
theorem WsI.op7 (h : WsI V p0 rv uv pb c x W RL dn val X) : WsI V p0 rv uv pb c x W RL (andB dn 7) (updV val 7 (.pointer (some pb))) X :=
  ⟨h.s0, h.s1, h.s2, h.s4, h.s5, h.s6, (fun _ => rfl), h.s8, h.s10, h.s11, h.s9, h.bel, h.e3⟩
theorem WsI.op8 (h : WsI V p0 rv uv pb c x W RL dn val X) : WsI V p0 rv uv pb c x W RL (andB dn 8) (updV val 8 (.int .i64 x)) X :=
  ⟨h.s0, h.s1, h.s2, h.s4, h.s5, h.s6, h.s7, (fun _ => rfl), h.s10, h.s11, h.s9, h.bel, h.e3⟩
theorem WsI.op10 (h : WsI V p0 rv uv pb c x W RL dn val X) : WsI V p0 rv uv pb c x W RL (andB dn 10) (updV val 10 (.int .i64 W)) X :=
  ⟨h.s0, h.s1, h.s2, h.s4, h.s5, h.s6, h.s7, h.s8, (fun _ => rfl), h.s11, h.s9, h.bel, h.e3⟩
theorem WsI.op11 (h : WsI V p0 rv uv pb c x W RL dn val X) : WsI V p0 rv uv pb c x W RL (andB dn 11) (updV val 11 (.int .i64 0)) X :=
  ⟨h.s0, h.s1, h.s2, h.s4, h.s5, h.s6, h.s7, h.s8, h.s10, (fun _ => rfl), h.s9, h.bel, h.e3⟩
theorem WsI.op3 (h : WsI V p0 rv uv pb c x W RL dn val X) {v : Value} (hv : IlSl Y Y.heap.size v RL) (hb : Below X.heap.size X Y) : WsI V p0 rv uv pb c x W RL (andB dn 3) (updV val 3 (v)) (Y) :=
  ⟨h.s0, h.s1, h.s2, h.s4, h.s5, h.s6, h.s7, h.s8, h.s10, h.s11, h.s9, h.bel.trans (hb.mono h.bel.size), (fun _ => hv)⟩
theorem WsI.op9 (h : WsI V p0 rv uv pb c x W RL dn val X) (hb : Below X.heap.size X Y) : WsI V p0 rv uv pb c x W RL (andB dn 9) (updV val 9 (.int .i64 W)) (Y) :=
  ⟨h.s0, h.s1, h.s2, h.s4, h.s5, h.s6, h.s7, h.s8, h.s10, h.s11, (fun _ => rfl), h.bel.trans (hb.mono h.bel.size), (fun d => (h.e3 d).step hb)⟩
end
section
variable {o : Oper} {a : Act} {w : World} {K : Act → World → Prop} {Q : Exit → Act → World → Prop}
set_option maxRecDepth 100000 in
theorem opFieldMx (k : Nat) (q g : Nat) (hk : k < 2) (ho : o.op = .fieldAddr 25 (.tmp q) k) (hq : a.tmps.getD q undef = .pointer (some ⟨g, 0, none⟩)) (h : K (a.put o.dst (.pointer (some ⟨g, k, none⟩))) w) : o.wp Tryd.prog a w K Q := by
  unfold Oper.wp execOp
  have he : a.eval (.tmp q) = .pointer (some ⟨g, 0, none⟩) := hq
  simp only [ho, he]
  rcases (show k = 0 ∨ k = 1 by omega) with rfl | rfl
  · go_simp
    exact h
  · go_simp
    exact h
set_option maxRecDepth 100000 in
theorem opCallWo (q r s : Nat) (v1 v2 v3 : Value) (R : Ending → World → Prop) (ho : o.op = .call { callee := .value (.func 82), args := #[.tmp q, .tmp r, .tmp s], argTypes := #[23, 3, 3] }) (h1 : a.tmps.getD q undef = v1) (h2 : a.tmps.getD r undef = v2) (h3 : a.tmps.getD s undef = v3)
    (hc : Calls Tryd.prog 82 #[v1, v2, v3] w R) (h : ∀ e w', R e w' → ∃ v, e = .returned v ∧ K (a.put o.dst v) w') : o.wp Tryd.prog a w K Q := by
  unfold Oper.wp execOp
  have e1 : a.eval (.tmp q) = v1 := h1
  have e2 : a.eval (.tmp r) = v2 := h2
  have e3 : a.eval (.tmp s) = v3 := h3
  simp only [ho]
  go_simp
  refine hc.mono ?_
  intro e w' hR
  obtain ⟨v, rfl, hK⟩ := h e w' hR
  exact hK
end
set_option maxRecDepth 100000 in
set_option maxHeartbeats 8000000 in
theorem Worst_any (v u : Value) (m : Mx) (l : List Int) (z : Int) (w : World) (hv : MxV w v m) (hs : MSm m) (hu : InSl w w.heap.size u l) (hl : l.length ≤ 1000000) :
    Calls Tryd.prog 36 #[v, u, .int .i64 z] w fun e w' => e = .returned (.tuple #[.int .i64 (worstC m l z), .int .i64 (worstE m l z)]) ∧ Below w.heap.size w w' := by
  obtain ⟨A1, c1, A2, c2, W0, rfl, hW0, hb0, hM, hS, hR, hX⟩ := mx_box hv
  have hz : W0.heap.size = w.heap.size + 1 := by rw [← hW0]; simp
  have HB0 := Lib.hid hb0
  have HW0 := Lib.hid hW0
  have HX := Lib.hid hX
  have hu0 := hu.step hb0
  have hl2 := hl
  obtain ⟨Au, cu, rfl, _⟩ := hu0.form
  have hb1 := below_new (w := W0) (.cells #[.slice Au l.length cu] 22)
  have HB1 := Lib.hid hb1
  have HC := Lib.hid (checkSeen_any _ _ m [l] _ (hM _ hb1) hs (one_box hu0) (by intro L hL; simp at hL; subst hL; exact hl) (by simp))
  have HRm := Lib.hid (fun Y (hb : Below W0.heap.size W0 Y) (hm : mxF m = true) (h : setsF m.st l = true) => remaining_any _ _ m.rows l Y (hR Y hb) (hu0.step hb) (fun r hr => (sets_len' h).trans (sets_len' ((mx_all hm).2.2 r hr)).symm) hs.2.1 hl2)
  have HAu := Lib.hid (show ∀ Y, Below W0.heap.size W0 Y → InA Y Y.heap.size Au l from fun Y h => by obtain ⟨_, _, e, _, _, h⟩ := hu0.step h; cases e; exact h)
  have HOk := Lib.hid (fun h : seenE m [l] = 0 => seen_ok h)
  have HSc := Lib.hid (seen_cases m [l])
  have HE := Lib.hid (show worstE m l z = (if seenE m [l] = 0 then (if 0 ≤ z ∧ z < m.st.length then 0 else 1) else seenE m [l]) ∧ worstC m l z = (if worstE m l z = 0 then worstF (remL m.rows l) z.toNat (l.getD z.toNat 0) else 0) from ⟨rfl, rfl⟩)
  have HLn := Lib.hid (fun h : setsF m.st l = true => sets_len' h)
  have hns : m.st.length ≤ 1000 := hs.1
  have HSm := Lib.hid hs
  obtain ⟨k0, k1⟩ := hX W0 (Below.refl _ _)
  obtain ⟨d0, d1⟩ := hX _ hb1
  obtain ⟨we, hwe⟩ : ∃ x, worstE m l z = x := ⟨_, rfl⟩
  obtain ⟨wc, hwc⟩ : ∃ x, worstC m l z = x := ⟨_, rfl⟩
  obtain ⟨se, hse⟩ : ∃ x, seenE m [l] = x := ⟨_, rfl⟩
  rw [hse] at HC HOk HSc
  rw [hz] at HC
  rw [hse, hwe, hwc] at HE
  rw [hwe, hwc]
  obtain ⟨ns, hn⟩ : ∃ n, m.st.length = n := ⟨_, rfl⟩
  obtain ⟨nr, hnr⟩ : ∃ n, m.rows.length = n := ⟨_, rfl⟩
  obtain ⟨nl, hnl⟩ : ∃ n, l.length = n := ⟨_, rfl⟩
  have HN := Lib.hid (And.intro hn (And.intro hnr hnl))
  rw [hn] at HW0 HX HC HE HLn k0 d0 hns
  rw [hnr] at HW0 HX HC HRm k1 d1
  rw [hnl] at HC HRm HLn d0 d1 HB1
  rw [hn, hnr, hnl]
  clear hv hs hu hW0 hb0 hM hS hR hX hu0 hwe hwc hse hn hnr hnl hl hl2 hb1 hz
  go_enter Tryd.func36, Tryd.ntmps36
  go_wp2_with fail
  rw [HW0.out]
  (try go_wp2_with fail)
  (with_reducible refine HC.out.mono ?_)
  rintro e w1 ⟨rfl, hb⟩
  have HB2 := Lib.hid (HB1.out.trans (hb.mono HB1.out.size))
  clear hb k0 k1 d0 d1 HC HB1
  obtain ⟨k0, k1⟩ := HX.out w1 HB2.out
  rcases HSc.out with rfl | rfl | rfl
  rotate_left
  · have HF := Lib.hid (show we = 30 ∧ wc = 0 from by
      have h := HE.out.1
      simp at h
      exact ⟨h, by rw [HE.out.2, h]; simp⟩)
    go_wp2_with fail
    go_ret2
    exact ⟨by rw [HF.out.1, HF.out.2]; rfl, HB0.out.trans (HB2.out.mono HB0.out.size)⟩
  · have HF := Lib.hid (show we = 32 ∧ wc = 0 from by
      have h := HE.out.1
      simp at h
      exact ⟨h, by rw [HE.out.2, h]; simp⟩)
    go_wp2_with fail
    go_ret2
    exact ⟨by rw [HF.out.1, HF.out.2]; rfl, HB0.out.trans (HB2.out.mono HB0.out.size)⟩
  · have HOk1 := Lib.hid (HOk.out (by first | trivial | rfl))
    have HE1 := Lib.hid (show we = (if 0 ≤ z ∧ z < ns then 0 else 1) ∧ wc = (if we = 0 then worstF (remL m.rows l) z.toNat (l.getD z.toNat 0) else 0) from by
      have h := HE.out
      simpa using h)
    clear HOk HE HSc
    by_cases hz0 : z < 0
    · have HF := Lib.hid (show we = 1 ∧ wc = 0 from by
        have h : we = 1 := by rw [HE1.out.1, if_neg (by omega)]
        exact ⟨h, by rw [HE1.out.2, h]; rfl⟩)
      go_wp2_with fail
      go_ret2
      exact ⟨by rw [HF.out.1, HF.out.2]; rfl, HB0.out.trans (HB2.out.mono HB0.out.size)⟩
    · by_cases hz1 : (ns : Int) ≤ z
      · have HF := Lib.hid (show we = 1 ∧ wc = 0 from by
          have h : we = 1 := by rw [HE1.out.1, if_neg (by omega)]
          exact ⟨h, by rw [HE1.out.2, h]; rfl⟩)
        go_wp2_with fail
        go_ret2
        exact ⟨by rw [HF.out.1, HF.out.2]; rfl, HB0.out.trans (HB2.out.mono HB0.out.size)⟩
      · have HF := Lib.hid (show we = 0 ∧ wc = worstF (remL m.rows l) z.toNat (l.getD z.toNat 0) from by
          have h : we = 0 := by rw [HE1.out.1, if_pos (by omega)]
          exact ⟨h, by rw [HE1.out.2, if_pos h]⟩)
        obtain ⟨c, rfl⟩ : ∃ c : Nat, z = (c : Int) := ⟨z.toNat, by omega⟩
        have hcn : c < nl := by have := HLn.out HOk1.out.2; omega
        obtain ⟨x, bd, hx, rfl, _, hcx⟩ := (HAu.out w1 HB2.out).at_ HN.out.2.2 hcn
        have HF2 := Lib.hid (show wc = worstF (remL m.rows l) c x from by
          rw [HF.out.2]
          show worstF _ c (l.getD c 0) = _
          rw [List.getD_eq_getElem?_getD, hx]; rfl)
        have hx1 := sets_range HOk1.out.1 HOk1.out.2 hx
        have HWo := Lib.hid (fun v Y (h : IlSl Y Y.heap.size v (remL m.rows l)) => worst_any v (remL m.rows l) c x Y h (by have h1 := List.length_filter_le (fun r : Rw => fitsF r.may l) m.rows; have h2 := HSm.out.2.1; unfold remL; omega) (by omega) (fun r hr => by
          have hr1 := (mx_all HOk1.out.1).2.2 r (List.mem_filter.1 hr).1
          have hcr : c < r.may.length := by rw [sets_len' hr1, ← sets_len' HOk1.out.2, HN.out.2.2]; exact hcn
          have h3 := sets_range HOk1.out.1 hr1 (List.getElem?_eq_getElem hcr)
          exact ⟨_, List.getElem?_eq_getElem hcr, by omega, by omega⟩))
        rw [← HF2.out] at HWo
        have HRm1 := Lib.hid (fun Y hb => HRm.out Y hb HOk1.out.1 HOk1.out.2)
        have HCx := Lib.hid hcx
        clear hx hx1 hcx HRm HLn HE1 HF2
        go_wp2_with fail
        clear k0 k1
        refine wp_opaque ?_
        intro t0 ht0
        have hsz0 : t0.size = 35 := by rw [ht0]; rfl
        have q3 : t0.getD 3 undef = .pointer (some ⟨w.heap.size, 0, none⟩) := by rw [ht0]; rfl
        have q1 : t0.getD 1 undef = .slice (some bd) nl cu := by rw [ht0]; rfl
        have q2 : t0.getD 2 undef = .int .i64 (c : Int) := by rw [ht0]; rfl
        have HT0 := Lib.hid ht0
        clear ht0
        have HBd := Lib.hid (fun X (hI : Below w1.drew.heap.size w1.drew X) => (Below.refl w1.heap.size w1).drew.trans hI)
        refine wp_region_vals [some 25, some 26, some 27, some 28, some 29, some 30, some 31, some 32, some 33, some 34, some 6, some 7] (WsI w1.drew (.pointer (some ⟨w.heap.size, 1, none⟩)) (.slice A2 nr c2) (.slice (some bd) nl cu) (bd.add c) c x wc (remL m.rows l)) (by kernel_rfl) (by kernel_rfl) rfl rfl (by simp [hsz0]) (by kernel_rfl) ?_ ?_ ?_
        · intro val
          exact ⟨(fun h => nomatch h), (fun h => nomatch h), (fun h => nomatch h), (fun h => nomatch h), (fun h => nomatch h), (fun h => nomatch h), (fun h => nomatch h), (fun h => nomatch h), (fun h => nomatch h), (fun h => nomatch h), (fun h => nomatch h), Below.refl _ _, (fun h => nomatch h)⟩
        · intro dn q o hi hd hp hc val X a ha hn' hI K hK
          have hq : q < 12 := by
            have := (Array.getElem?_eq_some_iff.1 hi).1
            simpa using this
          have hB := HBd.out X hI.bel
          have hB0 := HB2.out.trans (hB.mono HB2.out.size)
          rcases (show q = 0 ∨ q = 1 ∨ q = 2 ∨ q = 3 ∨ q = 4 ∨ q = 5 ∨ q = 6 ∨ q = 7 ∨ q = 8 ∨ q = 9 ∨ q = 10 ∨ q = 11 by omega) with rfl | rfl | rfl | rfl | rfl | rfl | rfl | rfl | rfl | rfl | rfl | rfl
          · obtain rfl := Option.some.inj hi
            exact opFieldMx 1 3 _ (by decide) rfl ((ha 3).trans q3) (hK _ _ hI.op0)
          · obtain rfl := Option.some.inj hi
            exact opLdRs 25 _ _ rfl ((ha 25).trans (hI.s0 (hp ⟨0, .data⟩ (by simp) rfl))) (HX.out X hB0).2 (hK _ _ hI.op1)
          · obtain rfl := Option.some.inj hi
            exact opMove 1 _ rfl ((ha 1).trans q1) (hK _ _ hI.op2)
          · obtain rfl := Option.some.inj hi
            refine opCallRm 26 27 _ _ _ rfl ((ha 26).trans (hI.s1 (hp ⟨1, .data⟩ (by simp) rfl))) ((ha 27).trans (hI.s2 (hp ⟨2, .data⟩ (by simp) rfl))) (HRm1.out X hB0) ?_
            rintro e Y ⟨⟨r, rfl, hr, _⟩, hb⟩
            exact ⟨r, rfl, hK _ _ (hI.op3 hr hb)⟩
          · obtain rfl := Option.some.inj hi
            exact opMove 2 _ rfl ((ha 2).trans q2) (hK _ _ hI.op4)
          · obtain rfl := Option.some.inj hi
            exact opMove 1 _ rfl ((ha 1).trans q1) (hK _ _ hI.op5)
          · obtain rfl := Option.some.inj hi
            exact opMove 2 _ rfl ((ha 2).trans q2) (hK _ _ hI.op6)
          · obtain rfl := Option.some.inj hi
            exact opIx 30 31 _ _ _ _ rfl ((ha 30).trans (hI.s5 (hp ⟨5, .data⟩ (by simp) rfl))) ((ha 31).trans (hI.s6 (hp ⟨6, .data⟩ (by simp) rfl))) hcn (hK _ _ hI.op7)
          · obtain rfl := Option.some.inj hi
            exact opLd 32 _ _ rfl ((ha 32).trans (hI.s7 (hp ⟨7, .data⟩ (by simp) rfl))) ((hB.cell (World.block_lt_of_cell? _ _ HCx.out)).trans HCx.out) (hK _ _ hI.op8)
          · obtain rfl := Option.some.inj hi
            refine opCallWo 28 29 33 _ _ _ _ rfl (ha 28) ((ha 29).trans (hI.s4 (hp ⟨4, .data⟩ (by simp) rfl))) ((ha 33).trans (hI.s8 (hp ⟨8, .data⟩ (by simp) rfl))) (HWo.out _ X (hI.e3 (hp ⟨3, .data⟩ (by simp) rfl))) ?_
            rintro e Y ⟨rfl, hb⟩
            exact ⟨_, rfl, hK _ _ (hI.op9 hb)⟩
          · obtain rfl := Option.some.inj hi
            exact opAssign 34 _ rfl ((ha 34).trans (hI.s9 (hp ⟨9, .data⟩ (by simp) rfl))) (hK _ _ hI.op10)
          · obtain rfl := Option.some.inj hi
            exact opAssignK _ rfl (hK _ _ hI.op11)
        · intro dn val X hdn hI
          have HB3 := Lib.hid (HB2.out.trans ((HBd.out X hI.bel).mono HB2.out.size))
          have h10 := hI.s10 (hdn 10 (by simp))
          have h11 := hI.s11 (hdn 11 (by simp))
          simp only [wrS, HT0.out]
          simp only [List.setIfInBounds_toArray, List.set_cons_succ, List.set_cons_zero]
          rw [h10, h11]
          (try simp only [Exit.then])
          clear hdn hI h10 h11 HT0 hsz0 q3 q1 q2 HBd
          (try go_wp2_with fail)
          (try rw [Exit.noGoto_ret])
          refine bodyPost_ret (v := .tuple #[.int .i64 wc, .int .i64 0]) (by simp [results, Tryd.results36, go_sem]) rfl ?_
          exact ⟨by rw [HF.out.1], HB0.out.trans (HB3.out.mono HB0.out.size)⟩
end Go.Proofs.YthfegbcbpeedbaaDoor
namespace Go.Ky
open Go.Nm
/-- what the reference calls out: -1 so long as none is found -/
def outB (s : Int × Bool × Int) : Int := if s.2.1 = true then s.1 else -1
theorem bestS_nonneg (L : List Rw) (l : List Int) (P : Nat → Bool) : ∀ n, 0 ≤ (bestS L l P n).1
  | 0 => Int.le_refl 0
  | n + 1 => by
    have ih := bestS_nonneg L l P n
    rw [bestS_next]
    unfold bestStep
    split
    · split
      · show (0 : Int) ≤ (n : Int); omega
      · exact ih
    · exact ih
end Go.Ky
namespace Go.Proofs.YthfegbcbpeedbaaDoor
open Go.RowKit Go.Nm Go.Ky

set_option maxRecDepth 100000 in
set_option maxHeartbeats 8000000 in
theorem rbest_any (v u : Value) (m : Mx) (l : List Int) (w : World) (hv : MxV w v m) (hs : MSm m) (hu : InSl w w.heap.size u l) (hm : mxF m = true) (hl : setsF m.st l = true) :
    Calls Tryd.prog 87 #[v, u, .bool false] w fun e w' => e = .returned (.int .i64 (outB (bestS (remL m.rows l) l (fun c => !decZ (l.getD c 0)) l.length))) ∧ Below w.heap.size w w' := by
  have hll := sets_len' hl
  have hns : m.st.length ≤ 1000 := hs.1
  obtain ⟨A1, c1, A2, c2, W0, rfl, hW0, hb0, hM, hS, hR, hX⟩ := mx_box hv
  have HB0 := Lib.hid hb0
  have HW0 := Lib.hid hW0
  have HX := Lib.hid hX
  have hu0 := hu.step hb0
  have HRe := Lib.hid (rremain_any _ u m l W0 (hM W0 (Below.refl _ _)) hs hu0 (fun r hr => hll.trans (sets_len' ((mx_all hm).2.2 r hr)).symm) (by omega))
  have HSp := Lib.hid (fun (c : Nat) (hc : c < l.length) Y (hb : Below W0.heap.size W0 Y) => show ∃ lo : Int, Calls Tryd.prog 83 _ Y fun e w' => e = .returned (.tuple #[.int .i64 lo, .int .i64 (worstF (remL m.rows l) c (l.getD c 0))]) ∧ Below Y.heap.size Y w' from by
    obtain ⟨q, hq⟩ : ∃ q, m.st[c]? = some q := ⟨_, List.getElem?_eq_getElem (by omega)⟩
    have h := rspread_any _ u m l c Y (hM Y hb) hs (hu0.step hb) hm hl hc hq
    rw [spS_worst hm hl hq] at h
    exact ⟨_, h⟩)
  have HRg := Lib.hid (fun (c : Nat) (x : Int) (hx : l[c]? = some x) => sets_range hm hl hx)
  have HNx := Lib.hid (fun c => bestS_next (remL m.rows l) l (fun c => !decZ (l.getD c 0)) c)
  have HNn := Lib.hid (bestS_nonneg (remL m.rows l) l (fun c => !decZ (l.getD c 0)))
  have HZ := Lib.hid (show bestS (remL m.rows l) l (fun c => !decZ (l.getD c 0)) 0 = (0, false, 0) from rfl)
  have HAu := Lib.hid (show ∀ Y, Below W0.heap.size W0 Y → ∀ A c, u = .slice A l.length c → InA Y Y.heap.size A l from fun Y h A c e => by obtain ⟨_, _, e2, _, _, h⟩ := hu0.step h; rw [e] at e2; cases e2; exact h)
  obtain ⟨Au, cu, rfl, _⟩ := hu0.form
  have HA := Lib.hid (fun Y h => HAu.out Y h Au cu rfl)
  obtain ⟨k0, k1⟩ := hX W0 (Below.refl _ _)
  obtain ⟨B, hB⟩ : ∃ B, bestS (remL m.rows l) l (fun c => !decZ (l.getD c 0)) = B := ⟨_, rfl⟩
  rw [hB] at HNx HNn HZ ⊢
  unfold bestStep at HNx
  generalize m.st.length = ns at *
  generalize m.rows.length = nr at *
  obtain ⟨n, hn⟩ : ∃ n, l.length = n := ⟨_, rfl⟩
  have HN := Lib.hid hn
  have hn1 : n ≤ 1000 := by omega
  rw [hn] at HRe HSp ⊢
  clear hv hs hu hm hl hW0 hb0 hM hS hR hX hu0 HAu hB hn hll hns
  go_enter Tryd.func87, Tryd.ntmps87
  go_wp2_with fail
  rw [HW0.out]
  (try go_wp2_with fail)
  (with_reducible refine HRe.out.mono ?_)
  rintro e w1 ⟨⟨r, rfl, hr, _⟩, hb⟩
  obtain ⟨Ar, cr, rfl, _⟩ := hr.form
  have HB1 := Lib.hid hb
  clear hr hb k0 k1 HRe
  generalize ((remL m.rows l).map (·.nm)).length = nrm at *
  go_wp2_with fail
  go_loopw [7, 8, 10] (fun ov fv iv wr => ∃ i : Nat, ov = .int .i64 (outB (B i)) ∧ fv = .int .i64 (B i).2.2 ∧ iv = .int .i64 (i : Int) ∧ i ≤ n ∧ Below W0.heap.size W0 wr) (fun _ _ iv _ => n - (intOf iv).toNat)
  case atStart => exact ⟨0, by rw [HZ.out]; rfl, by rw [HZ.out], rfl, by omega, HB1.out⟩
  case round =>
    obtain ⟨i, rfl, rfl, rfl, hin, hb⟩ := hrel
    have HB := Lib.hid hb
    clear hb
    by_cases hlt : i < n
    · obtain ⟨x, ad, hx, rfl, _, hcx⟩ := (HA.out wr HB.out).at_ HN.out hlt
      have hx1 := HRg.out i x hx
      obtain ⟨x, rfl⟩ : ∃ k : Nat, x = (k : Int) := ⟨x.toNat, by omega⟩
      have hg : l.getD i 0 = (x : Int) := by rw [List.getD_eq_getElem?_getD, hx]; rfl
      have HD := Lib.hid (rdecided_any x wr (by omega) (by omega))
      have HNi := HNx.out i
      have HS1 := HSp.out i hlt
      simp only [hg] at HNi HS1
      obtain ⟨wo, hwo⟩ : ∃ z, worstF (remL m.rows l) i (x : Int) = z := ⟨_, rfl⟩
      rw [hwo] at HNi HS1
      have HS2 := Lib.hid HS1
      have HNi2 := Lib.hid HNi
      obtain ⟨k0, k1⟩ := HX.out wr HB.out
      clear hx hx1 hg hwo HNi HS1
      cases hd : decZ (x : Int) with
      | true =>
        rw [hd] at HD HNi2
        have HF := Lib.hid (show B (i + 1) = B i from by rw [HNi2.out]; rfl)
        clear hd HNi2
        go_wp2_with fail
        (with_reducible refine HD.out.mono ?_)
        rintro e w2 ⟨rfl, rfl⟩
        go_wp2_with fail
        go_roundw
        case rel => exact ⟨i + 1, by rw [HF.out], by rw [HF.out], by go_num, by omega, HB.out⟩
        case measure => simp [intOf]; omega
      | false =>
        rw [hd] at HD HNi2
        obtain ⟨lo, hS3⟩ := HS2.out wr HB.out
        have HS3 := Lib.hid hS3
        clear hd hS3 HS2
        go_wp2_with fail
        (with_reducible refine HD.out.mono ?_)
        rintro e w2 ⟨rfl, rfl⟩
        go_wp2_with fail
        (with_reducible refine HS3.out.mono ?_)
        rintro e w3 ⟨rfl, hb⟩
        have HB2 := Lib.hid (HB.out.trans (hb.mono HB.out.size))
        have HO := Lib.hid (show outB (B i) = (if (B i).2.1 = true then (B i).1 else -1) from rfl)
        have HNi3 := Lib.hid (show B (i + 1) = (if (!(B i).2.1 || decide (wo < (B i).2.2)) = true then ((i : Int), true, wo) else B i) from by rw [HNi2.out]; rfl)
        have HP := Lib.hid (HNn.out i)
        obtain ⟨ou, hou⟩ : ∃ z, outB (B i) = z := ⟨_, rfl⟩
        obtain ⟨of, hof⟩ : ∃ z, (B i).2.2 = z := ⟨_, rfl⟩
        obtain ⟨fd, hfd⟩ : ∃ z, (B i).2.1 = z := ⟨_, rfl⟩
        have HOu := Lib.hid (And.intro hou hof)
        rw [hou, hfd] at HO
        rw [hof, hfd] at HNi3
        rw [hou, hof]
        clear hb hou hof hfd HNi2 HD HS3 k0 k1
        cases fd with
        | false =>
          have h0 : ou < 0 := by have h := HO.out; simp at h; omega
          have HF := Lib.hid (show B (i + 1) = ((i : Int), true, wo) from by rw [HNi3.out]; rfl)
          go_wp2_with fail
          go_roundw
          case rel => exact ⟨i + 1, by rw [HF.out]; rfl, by rw [HF.out], by go_num, by omega, HB2.out⟩
          case measure => simp [intOf]; omega
        | true =>
          have h0 : ¬ ou < 0 := by have h := HO.out; have h2 := HP.out; simp at h; omega
          by_cases h1 : wo < of
          · have HF := Lib.hid (show B (i + 1) = ((i : Int), true, wo) from by rw [HNi3.out, decide_eq_true h1]; rfl)
            go_wp2_with fail
            go_roundw
            case rel => exact ⟨i + 1, by rw [HF.out]; rfl, by rw [HF.out], by go_num, by omega, HB2.out⟩
            case measure => simp [intOf]; omega
          · have HF := Lib.hid (show B (i + 1) = B i from by rw [HNi3.out, decide_eq_false h1]; rfl)
            go_wp2_with fail
            go_roundw
            case rel => exact ⟨i + 1, by rw [HF.out, HOu.out.1], by rw [HF.out, HOu.out.2], by go_num, by omega, HB2.out⟩
            case measure => simp [intOf]; omega
    · obtain rfl : n = i := by omega
      go_wp2_with fail
      go_ret
      exact ⟨rfl, HB0.out.trans (HB.out.mono HB0.out.size)⟩
end Go.Proofs.YthfegbcbpeedbaaDoor
namespace Go.Proofs.YthfegbcbpeedbaaDoor
open Go.RowKit Go.Nm Go.Ky

set_option maxRecDepth 100000 in
set_option maxHeartbeats 8000000 in
theorem rBest_any (v u : Value) (m : Mx) (l : List Int) (w : World) (hv : MxV w v m) (hs : MSm m) (hu : InSl w w.heap.size u l) (hl : l.length ≤ 1000) :
    Calls Tryd.prog 39 #[v, u] w fun e w' => e = .returned (.tuple #[.int .i64 (bestC m l), .int .i64 (bestE m l)]) ∧ Below w.heap.size w w' := by
  obtain ⟨A1, c1, A2, c2, W0, rfl, hW0, hb0, hM, hS, hR, hX⟩ := mx_box hv
  have HB0 := Lib.hid hb0
  have HW0 := Lib.hid hW0
  have HX := Lib.hid hX
  have hu0 := hu.step hb0
  obtain ⟨Au, cu, rfl, _⟩ := hu0.form
  have HC := Lib.hid (rseenError_any _ _ m l W0 (hM W0 (Below.refl _ _)) hs hu0 (by omega))
  obtain ⟨k0, k1⟩ := hX W0 (Below.refl _ _)
  obtain ⟨bs, hbs⟩ : ∃ bs, bestS (remL m.rows l) l (fun c => !decZ (l.getD c 0)) l.length = bs := ⟨_, rfl⟩
  have HBc := Lib.hid (fun (hm : mxF m = true ∧ setsF m.st l = true) Y (h : Below W0.heap.size W0 Y) => rbest_any _ _ m l Y (hM Y h) hs (hu0.step h) hm.1 hm.2)
  have HNn := Lib.hid (bestS_nonneg (remL m.rows l) l (fun c => !decZ (l.getD c 0)) l.length)
  obtain ⟨er, hr⟩ : ∃ r, seenE m [l] = r := ⟨_, rfl⟩
  have HE := Lib.hid (show er = 0 ∨ er = 30 ∨ er = 32 from by rw [← hr]; exact seen_cases m [l])
  have HO := Lib.hid (show bestE m l = (if er = 0 then (if bs.2.1 = true then 0 else 3) else er) ∧ bestC m l = (if bestE m l = 0 then bs.1 else 0) from by rw [← hr, ← hbs]; exact ⟨rfl, rfl⟩)
  have HG := Lib.hid (show er = 0 → mxF m = true ∧ setsF m.st l = true from fun h => seen_ok (by rw [hr]; exact h))
  have HOb := Lib.hid (show outB bs = (if bs.2.1 = true then bs.1 else -1) from rfl)
  rw [hbs] at HBc HNn
  rw [hr] at HC
  obtain ⟨be, hbe⟩ : ∃ r, bestE m l = r := ⟨_, rfl⟩
  obtain ⟨bc, hbc⟩ : ∃ r, bestC m l = r := ⟨_, rfl⟩
  obtain ⟨ob, hob⟩ : ∃ r, outB bs = r := ⟨_, rfl⟩
  obtain ⟨b1, hb1⟩ : ∃ r, bs.1 = r := ⟨_, rfl⟩
  obtain ⟨b2, hb2⟩ : ∃ r, bs.2.1 = r := ⟨_, rfl⟩
  rw [hbe, hbc, hb1, hb2] at HO
  rw [hob, hb1, hb2] at HOb
  rw [hob] at HBc
  rw [hb1] at HNn
  rw [hbe, hbc]
  generalize m.st.length = ns at *
  generalize m.rows.length = nr at *
  generalize l.length = n at *
  clear hv hu hu0 hW0 hb0 hM hS hR hX hl hr hs hbs hbe hbc hob hb1 hb2
  go_enter Tryd.func39, Tryd.ntmps39
  go_wp2_with fail
  rw [HW0.out]
  (try go_wp2_with fail)
  (with_reducible refine HC.out.mono ?_)
  rintro e w1 ⟨rfl, hb⟩
  have HB2 := Lib.hid hb
  clear hb k0 k1 HC
  rcases HE.out with rfl | rfl | rfl
  · obtain ⟨k0, k1⟩ := HX.out w1 HB2.out
    have HR1 := Lib.hid (HBc.out (HG.out rfl) w1 HB2.out)
    have HO1 := Lib.hid (show be = (if b2 = true then 0 else 3) ∧ bc = (if be = 0 then b1 else 0) from by
      have h := HO.out
      simpa using h)
    clear HBc HG HE HO
    go_wp2_with fail
    (with_reducible refine HR1.out.mono ?_)
    rintro e w2 ⟨rfl, hb⟩
    have HB3 := Lib.hid (HB2.out.trans (hb.mono HB2.out.size))
    clear hb k0 k1 HR1
    cases b2 with
    | false =>
      have h0 : ob < 0 := by have h := HOb.out; simp at h; omega
      have HF := Lib.hid (show be = 3 ∧ bc = 0 from by
        have h := HO1.out.1
        simp at h
        exact ⟨h, by rw [HO1.out.2, h]; simp⟩)
      go_wp2_with fail
      go_ret2
      exact ⟨by rw [HF.out.1, HF.out.2]; rfl, HB0.out.trans (HB3.out.mono HB0.out.size)⟩
    | true =>
      have h1 : ob = b1 := by have h := HOb.out; simpa using h
      have h0 : ¬ ob < 0 := by rw [h1]; have := HNn.out; omega
      have HF := Lib.hid (show be = 0 ∧ bc = ob from by
        have h := HO1.out.1
        simp at h
        exact ⟨h, by rw [HO1.out.2, h, h1]; simp⟩)
      clear h1
      go_wp2_with fail
      go_ret2
      exact ⟨by rw [HF.out.1, HF.out.2]; rfl, HB0.out.trans (HB3.out.mono HB0.out.size)⟩
  · have HF := Lib.hid (show be = 30 ∧ bc = 0 from by
      have h := HO.out.1
      simp at h
      exact ⟨h, by rw [HO.out.2, h]; simp⟩)
    go_wp2_with fail
    go_ret2
    exact ⟨by rw [HF.out.1, HF.out.2]; rfl, HB0.out.trans (HB2.out.mono HB0.out.size)⟩
  · have HF := Lib.hid (show be = 32 ∧ bc = 0 from by
      have h := HO.out.1
      simp at h
      exact ⟨h, by rw [HO.out.2, h]; simp⟩)
    go_wp2_with fail
    go_ret2
    exact ⟨by rw [HF.out.1, HF.out.2]; rfl, HB0.out.trans (HB2.out.mono HB0.out.size)⟩
end Go.Proofs.YthfegbcbpeedbaaDoor
