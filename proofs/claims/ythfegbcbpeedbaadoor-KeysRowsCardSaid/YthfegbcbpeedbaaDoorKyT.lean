/- The reference: at. -/
import Derived.Test.YthfegbcbpeedbaaDoorKyS
namespace Go.Proofs.YthfegbcbpeedbaaDoor
open Go.RowKit Go.Nm Go.Ky

set_option maxRecDepth 100000 in
set_option maxHeartbeats 4000000 in
theorem rat_any (v : Value) (m : Mx) (name : Int) (w : World) (hv : MxV w v m) (hs : MSm m) :
    Calls Tryd.prog 64 #[v, .int .i64 name] w fun e w' =>
      ((∃ (i : Nat) (r : Rw), e = .returned (.int .i64 (i : Int)) ∧ m.rows[i]? = some r ∧ i < m.rows.length ∧ rowO m name = some r) ∨ (e = .returned (.int .i64 (-1)) ∧ rowO m name = none)) ∧ Below w.heap.size w w' := by
  obtain ⟨A1, c1, A2, c2, W0, rfl, hW0, hb0, hM, hS, hR, hX⟩ := mx_box hv
  have HB0 := Lib.hid hb0
  have HW0 := Lib.hid hW0
  have HU := Lib.hid (hR W0 (Below.refl _ _))
  obtain ⟨k0, k1⟩ := hX W0 (Below.refl _ _)
  generalize m.st.length = ns at *
  obtain ⟨n, h⟩ : ∃ n, m.rows.length = n := ⟨_, rfl⟩
  have HN := Lib.hid h
  have hn : n ≤ 1000 := by have := hs.2.1; omega
  have HO := Lib.hid (show rowO m name = m.rows.find? (fun r => decide (r.nm = name)) from rfl)
  rw [h] at HU HW0 k1 ⊢
  obtain ⟨ro, hro⟩ : ∃ ro, rowO m name = ro := ⟨_, rfl⟩
  rw [hro] at HO ⊢
  clear hv hs hW0 hb0 hM hS hR hX h hro
  go_enter Tryd.func64, Tryd.ntmps64
  go_wp2_with fail
  rw [HW0.out]
  (try go_wp2_with fail)
  go_loopw [5] (fun iv wr => ∃ i : Nat, iv = .int .i64 (i : Int) ∧ i ≤ n ∧ W0 = wr ∧ ∀ x ∈ m.rows.take i, decide (x.nm = name) = false) (fun iv _ => n - (intOf iv).toNat)
  case atStart => exact ⟨0, rfl, by omega, rfl, fun x hx => by simp at hx⟩
  case round =>
    obtain ⟨i, rfl, hin, rfl, hno⟩ := hrel
    have HNo := Lib.hid hno
    clear hno
    by_cases hlt : i < n
    · obtain ⟨r, ad, Am, cm, hr, rfl, hY⟩ := HU.out.at_ hlt
      obtain ⟨⟨d0, d1⟩, _⟩ := hY W0 (Below.refl _ _)
      have HR := Lib.hid hr
      clear hr hY
      cases hp : decide (r.nm = name) with
      | true =>
        have HF := Lib.hid (show ro = some r from by rw [HO.out]; exact find_at (p := fun r => decide (r.nm = name)) HR.out hp HNo.out)
        have hpe : r.nm = name := of_decide_eq_true hp
        clear hp
        go_wp2_with fail
        go_ret
        exact ⟨.inl ⟨i, r, rfl, HR.out, hlt, HF.out⟩, HB0.out⟩
      | false =>
        have HP := Lib.hid hp
        have hpe : ¬ r.nm = name := of_decide_eq_false hp
        clear hp
        go_wp2_with fail
        go_roundw
        case rel => exact ⟨i + 1, by go_num, by omega, by first | trivial | rfl, fun x hx => by
          rw [show m.rows.take (i + 1) = m.rows.take i ++ [r] from by rw [List.take_add_one, HR.out]; rfl] at hx
          rcases List.mem_append.1 hx with hx | hx
          · exact HNo.out x hx
          · simp at hx; subst hx; exact HP.out⟩
        case measure => simp [intOf]; omega
    · obtain rfl : n = i := by omega
      have hf : m.rows.find? (fun r => decide (r.nm = name)) = none := List.find?_eq_none.2 fun x hx => by
        have h := HNo.out x (by rw [List.take_of_length_le (by have := HN.out; omega)]; exact hx)
        simpa using h
      have HF := Lib.hid (HO.out.trans hf)
      clear hf
      go_wp2_with fail
      go_ret
      exact ⟨.inr ⟨rfl, HF.out⟩, HB0.out⟩
end Go.Proofs.YthfegbcbpeedbaaDoor
