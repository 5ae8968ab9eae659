/- Tell. -/
import Derived.Test.YthfegbcbpeedbaaDoorKyZ
namespace Go.Ky
open Go.Nm
def tlT (CL : List Int) (i : Nat) : List Int := ((List.range i).filter fun c => decide (CL.getD c 1 = 0)).map fun c => ((c : Nat) : Int)
def tellL (m : Mx) (a b : Int) : List Int := if comE m a b = 0 then tlT (comL m a b) m.st.length else []
theorem tlT_yes {CL : List Int} {i : Nat} (h : CL[i]? = some 0) : tlT CL (i + 1) = tlT CL i ++ [(i : Int)] := by
  unfold tlT
  rw [List.range_succ, List.filter_append, List.map_append]
  simp [h]
theorem tlT_no {CL : List Int} {i : Nat} {z : Int} (h : CL[i]? = some z) (hz : z ≠ 0) : tlT CL (i + 1) = tlT CL i := by
  unfold tlT
  rw [List.range_succ, List.filter_append, List.map_append]
  simp [h, hz]
theorem tlT_len (CL : List Int) (i : Nat) : (tlT CL i).length ≤ i := by
  unfold tlT
  rw [List.length_map]
  have := List.length_filter_le (fun c => decide (CL.getD c 1 = 0)) (List.range i)
  rwa [List.length_range] at this
end Go.Ky
namespace Go.Proofs.YthfegbcbpeedbaaDoor
open Go.RowKit Go.Nm Go.Ky

theorem com_cases (m : Mx) (a b : Int) : comE m a b = 0 ∨ comE m a b = 1 ∨ comE m a b = 30 := by
  unfold comE
  rcases row_all m a with ⟨h1, _⟩ | ⟨h1, _⟩
  · rw [if_pos h1]
    rcases row_all m b with ⟨h2, _⟩ | ⟨h2, _⟩ <;> omega
  · rw [if_neg (by omega)]; omega
set_option maxRecDepth 100000 in
set_option maxHeartbeats 8000000 in
theorem Tell_any (v : Value) (m : Mx) (a b : Int) (w : World) (hv : MxV w v m) (hs : MSm m) :
    Calls Tryd.prog 34 #[v, .int .i64 a, .int .i64 b] w fun e w' => (∃ u, e = .returned (.tuple #[u, .int .i64 (comE m a b)]) ∧ Fr w.heap.size w' u (tellL m a b)) ∧ Below w.heap.size w w' := by
  obtain ⟨A1, c1, A2, c2, W0, rfl, hW0, hb0, hM, hS, hR, hX⟩ := mx_box hv
  have HB0 := Lib.hid hb0
  have HW0 := Lib.hid hW0
  obtain ⟨k0, k1⟩ := hX W0 (Below.refl _ _)
  have HC := Lib.hid (commonOf_any _ m a b W0 (hM W0 (Below.refl _ _)) hs)
  have HO := Lib.hid (show tellL m a b = (if comE m a b = 0 then tlT (comL m a b) m.st.length else []) from rfl)
  have HOk := Lib.hid (fun h : comE m a b = 0 => (com_ok h).2.2.2.2.2)
  have hns : m.st.length ≤ 1000 := hs.1
  have HCe := Lib.hid (com_cases m a b)
  obtain ⟨ce, hce⟩ : ∃ r, comE m a b = r := ⟨_, rfl⟩
  obtain ⟨CL, hCL⟩ : ∃ r, comL m a b = r := ⟨_, rfl⟩
  obtain ⟨tl, htl⟩ : ∃ r, tellL m a b = r := ⟨_, rfl⟩
  rw [hce, hCL] at HC HOk
  rw [hce] at HCe
  rw [hce, hCL, htl] at HO
  rw [hce, htl]
  generalize m.rows.length = nr at *
  obtain ⟨ns, hn⟩ : ∃ n, m.st.length = n := ⟨_, rfl⟩
  rw [hn] at HW0 HC HOk HO k0 hns
  rw [hn]
  clear hv hs hW0 hb0 hM hS hR hX hce hCL htl hn
  go_enter Tryd.func34, Tryd.ntmps34
  go_wp2_with fail
  rw [HW0.out]
  (try go_wp2_with fail)
  (with_reducible refine HC.out.mono ?_)
  rintro e w1 ⟨hcase, hb⟩
  have HB1 := Lib.hid hb
  clear hb k0 k1 HC
  rcases hcase with ⟨rfl, gw, rfl, f, hI, hf⟩ | ⟨hne, rfl⟩
  case inr =>
    have HF := Lib.hid (show tl = [] from by rw [HO.out, if_neg hne])
    rcases HCe.out with rfl | rfl | rfl
    · exact absurd rfl hne
    · clear hne
      go_wp2_with fail
      go_ret2
      exact ⟨⟨_, rfl, by rw [HF.out]; exact Fr.nil _ _⟩, HB0.out.trans (HB1.out.mono HB0.out.size)⟩
    · clear hne
      go_wp2_with fail
      go_ret2
      exact ⟨⟨_, rfl, by rw [HF.out]; exact Fr.nil _ _⟩, HB0.out.trans (HB1.out.mono HB0.out.size)⟩
  case inl =>
  have HLn := Lib.hid (HOk.out rfl)
  have HE := Lib.hid (show tl = tlT CL ns from by rw [HO.out, if_pos rfl])
  have HF0 := Lib.hid hf
  have HI0 := Lib.hid hI
  have HR0 := Lib.hid (OwN.start w1)
  clear hI hf HO HOk HCe
  go_wp2_with fail
  go_loopw [10, 25] (fun ov iv wr => ∃ (i : Nat) (Ao : Option Addr) (no co : Nat), ov = .slice Ao no co ∧ iv = .int .i64 (i : Int) ∧ i ≤ ns ∧ OwN w1 ov (tlT CL i) wr) (fun _ iv _ => ns - (intOf iv).toNat)
  case atStart => exact ⟨0, _, _, _, rfl, rfl, by omega, HR0.out⟩
  case round =>
    obtain ⟨i, Ao, no, co, rfl, rfl, hin, hI⟩ := hrel
    have HI := Lib.hid hI
    clear hI
    by_cases hlt : i < ns
    · obtain ⟨z, hz⟩ : ∃ z, CL[i]? = some z := ⟨_, List.getElem?_eq_getElem (by have := HLn.out; omega)⟩
      have hc1 := HI0.out.cell hlt
      rw [HF0.out i z hz] at hc1
      have hco := (HI.out.bel.cell (World.block_lt_of_cell? _ _ hc1)).trans hc1
      rw [← add_zero_k gw i] at hco
      have hco2 := hco
      rw [add_zero_k] at hco2
      have HZ := Lib.hid hz
      have HLq := Lib.hid (show (tlT CL i).length + [(i : Int)].length ≤ 3000000 from by have := tlT_len CL i; simp; omega)
      clear hz hc1
      by_cases hn0 : z = 0
      · subst hn0
        have HP := Lib.hid (tlT_yes HZ.out)
        go_wp2_with (at_builtin; refine wpList_appN rfl _ _ rfl (HI.out.step (below_new _)) rfl rfl (box_sl (y := (i : Int)) (World.alloc_heap_new _ _)) HLq.out ?_; intro v6 w6 hI6 _; obtain ⟨A6, n6, c6, e6⟩ := hI6.slice; subst e6; have HI6 := Lib.hid hI6; clear hI6)
        go_roundw
        case rel => exact ⟨i + 1, _, _, _, rfl, by go_num, by omega, by rw [HP.out]; exact HI6.out⟩
        case measure => simp [intOf]; omega
      · have HP := Lib.hid (tlT_no HZ.out hn0)
        go_wp2_with fail
        go_roundw
        case rel => exact ⟨i + 1, _, _, _, rfl, by go_num, by omega, by rw [HP.out]; exact HI.out⟩
        case measure => simp [intOf]; omega
    · obtain rfl : ns = i := by omega
      have HI2 := Lib.hid HI.out
      rw [← HE.out] at HI2
      go_wp2_with fail
      go_ret2
      exact ⟨⟨_, rfl, HI2.out.sl, fun g e => ⟨Nat.le_trans HB0.out.size (Nat.le_trans HB1.out.size (HI2.out.own.lt g e).1), (HI2.out.own.lt g e).2⟩⟩, HB0.out.trans ((HB1.out.trans (HI2.out.bel.mono HB1.out.size)).mono HB0.out.size)⟩
end Go.Proofs.YthfegbcbpeedbaaDoor
