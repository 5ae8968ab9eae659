/- The reference: Both. -/
import Derived.Test.YthfegbcbpeedbaaDoorKyZ
namespace Go.Ky
open Go.Nm
def tlT (CL : List Int) (i : Nat) : List Int := ((List.range i).filter fun c => decide (CL.getD c 1 = 0)).map fun c => ((c : Nat) : Int)
def tellL (m : Mx) (a b : Int) : List Int := if comE m a b = 0 then tlT (comL m a b) m.st.length else []
theorem tlT_yes {CL : List Int} {i : Nat} (h : CL[i]? = some 0) : tlT CL (i + 1) = tlT CL i ++ [(i : Int)] := by
  unfold tlT
  rw [List.range_succ, List.filter_append, List.map_append]
  simp [h]
theorem tlT_no {CL : List Int} {i : Nat} {z : Int} (h : CL[i]? = some z) (hz : z ≠ 0) : tlT CL (i + 1) = tlT CL i := by
  unfold tlT
  rw [List.range_succ, List.filter_append, List.map_append]
  simp [h, hz]
theorem tlT_len (CL : List Int) (i : Nat) : (tlT CL i).length ≤ i := by
  unfold tlT
  rw [List.length_map]
  have := List.length_filter_le (fun c => decide (CL.getD c 1 = 0)) (List.range i)
  rwa [List.length_range] at this
end Go.Ky
namespace Go.Proofs.YthfegbcbpeedbaaDoor
open Go.RowKit Go.Nm Go.Ky

theorem com_cases (m : Mx) (a b : Int) : comE m a b = 0 ∨ comE m a b = 1 ∨ comE m a b = 30 := by
  unfold comE
  rcases row_all m a with ⟨h1, _⟩ | ⟨h1, _⟩
  · rw [if_pos h1]
    rcases row_all m b with ⟨h2, _⟩ | ⟨h2, _⟩ <;> omega
  · rw [if_neg (by omega)]; omega
set_option maxRecDepth 100000 in
set_option maxHeartbeats 8000000 in
theorem Tell_any (v : Value) (m : Mx) (a b : Int) (w : World) (hv : MxV w v m) (hs : MSm m) :
    Calls Tryd.prog 34 #[v, .int .i64 a, .int .i64 b] w fun e w' => (∃ u, e = .returned (.tuple #[u, .int .i64 (comE m a b)]) ∧ Fr w.heap.size w' u (tellL m a b)) ∧ Below w.heap.size w w' := by
  obtain ⟨A1, c1, A2, c2, W0, rfl, hW0, hb0, hM, hS, hR, hX⟩ := mx_box hv
  have HB0 := Lib.hid hb0
  have HW0 := Lib.hid hW0
  obtain ⟨k0, k1⟩ := hX W0 (Below.refl _ _)
  have HC := Lib.hid (commonOf_any _ m a b W0 (hM W0 (Below.refl _ _)) hs)
  have HO := Lib.hid (show tellL m a b = (if comE m a b = 0 then tlT (comL m a b) m.st.length else []) from rfl)
  have HOk := Lib.hid (fun h : comE m a b = 0 => (com_ok h).2.2.2.2.2)
  have hns : m.st.length ≤ 1000 := hs.1
  have HCe := Lib.hid (com_cases m a b)
  obtain ⟨ce, hce⟩ : ∃ r, comE m a b = r := ⟨_, rfl⟩
  obtain ⟨CL, hCL⟩ : ∃ r, comL m a b = r := ⟨_, rfl⟩
  obtain ⟨tl, htl⟩ : ∃ r, tellL m a b = r := ⟨_, rfl⟩
  rw [hce, hCL] at HC HOk
  rw [hce] at HCe
  rw [hce, hCL, htl] at HO
  rw [hce, htl]
  generalize m.rows.length = nr at *
  obtain ⟨ns, hn⟩ : ∃ n, m.st.length = n := ⟨_, rfl⟩
  rw [hn] at HW0 HC HOk HO k0 hns
  rw [hn]
  clear hv hs hW0 hb0 hM hS hR hX hce hCL htl hn
  go_enter Tryd.func34, Tryd.ntmps34
  go_wp2_with fail
  rw [HW0.out]
  (try go_wp2_with fail)
  (with_reducible refine HC.out.mono ?_)
  rintro e w1 ⟨hcase, hb⟩
  have HB1 := Lib.hid hb
  clear hb k0 k1 HC
  rcases hcase with ⟨rfl, gw, rfl, f, hI, hf⟩ | ⟨hne, rfl⟩
  case inr =>
    have HF := Lib.hid (show tl = [] from by rw [HO.out, if_neg hne])
    rcases HCe.out with rfl | rfl | rfl
    · exact absurd rfl hne
    · clear hne
      go_wp2_with fail
      go_ret2
      exact ⟨⟨_, rfl, by rw [HF.out]; exact Fr.nil _ _⟩, HB0.out.trans (HB1.out.mono HB0.out.size)⟩
    · clear hne
      go_wp2_with fail
      go_ret2
      exact ⟨⟨_, rfl, by rw [HF.out]; exact Fr.nil _ _⟩, HB0.out.trans (HB1.out.mono HB0.out.size)⟩
  case inl =>
  have HLn := Lib.hid (HOk.out rfl)
  have HE := Lib.hid (show tl = tlT CL ns from by rw [HO.out, if_pos rfl])
  have HF0 := Lib.hid hf
  have HI0 := Lib.hid hI
  have HR0 := Lib.hid (OwN.start w1)
  clear hI hf HO HOk HCe
  go_wp2_with fail
  go_loopw [10, 25] (fun ov iv wr => ∃ (i : Nat) (Ao : Option Addr) (no co : Nat), ov = .slice Ao no co ∧ iv = .int .i64 (i : Int) ∧ i ≤ ns ∧ OwN w1 ov (tlT CL i) wr) (fun _ iv _ => ns - (intOf iv).toNat)
  case atStart => exact ⟨0, _, _, _, rfl, rfl, by omega, HR0.out⟩
  case round =>
    obtain ⟨i, Ao, no, co, rfl, rfl, hin, hI⟩ := hrel
    have HI := Lib.hid hI
    clear hI
    by_cases hlt : i < ns
    · obtain ⟨z, hz⟩ : ∃ z, CL[i]? = some z := ⟨_, List.getElem?_eq_getElem (by have := HLn.out; omega)⟩
      have hc1 := HI0.out.cell hlt
      rw [HF0.out i z hz] at hc1
      have hco := (HI.out.bel.cell (World.block_lt_of_cell? _ _ hc1)).trans hc1
      rw [← add_zero_k gw i] at hco
      have hco2 := hco
      rw [add_zero_k] at hco2
      have HZ := Lib.hid hz
      have HLq := Lib.hid (show (tlT CL i).length + [(i : Int)].length ≤ 3000000 from by have := tlT_len CL i; simp; omega)
      clear hz hc1
      by_cases hn0 : z = 0
      · subst hn0
        have HP := Lib.hid (tlT_yes HZ.out)
        go_wp2_with (at_builtin; refine wpList_appN rfl _ _ rfl (HI.out.step (below_new _)) rfl rfl (box_sl (y := (i : Int)) (World.alloc_heap_new _ _)) HLq.out ?_; intro v6 w6 hI6 _; obtain ⟨A6, n6, c6, e6⟩ := hI6.slice; subst e6; have HI6 := Lib.hid hI6; clear hI6)
        go_roundw
        case rel => exact ⟨i + 1, _, _, _, rfl, by go_num, by omega, by rw [HP.out]; exact HI6.out⟩
        case measure => simp [intOf]; omega
      · have HP := Lib.hid (tlT_no HZ.out hn0)
        go_wp2_with fail
        go_roundw
        case rel => exact ⟨i + 1, _, _, _, rfl, by go_num, by omega, by rw [HP.out]; exact HI.out⟩
        case measure => simp [intOf]; omega
    · obtain rfl : ns = i := by omega
      have HI2 := Lib.hid HI.out
      rw [← HE.out] at HI2
      go_wp2_with fail
      go_ret2
      exact ⟨⟨_, rfl, HI2.out.sl, fun g e => ⟨Nat.le_trans HB0.out.size (Nat.le_trans HB1.out.size (HI2.out.own.lt g e).1), (HI2.out.own.lt g e).2⟩⟩, HB0.out.trans ((HB1.out.trans (HI2.out.bel.mono HB1.out.size)).mono HB0.out.size)⟩
end Go.Proofs.YthfegbcbpeedbaaDoor
namespace Go.Proofs.YthfegbcbpeedbaaDoor
open Go.RowKit Go.Nm Go.Ky

set_option maxRecDepth 100000 in
set_option maxHeartbeats 8000000 in
theorem rtwo_any (v : Value) (m : Mx) (a b : Int) (w : World) (hv : MxV w v m) (hs : MSm m) :
    Calls Tryd.prog 80 #[v, .int .i64 a, .int .i64 b] w fun e w' =>
      ((comE m a b = 0 ∧ ∃ Ax cx Ay cy, e = .returned (.tuple #[.slice Ax (rowF m a).may.length cx, .slice Ay (rowF m b).may.length cy, .int .i64 0]) ∧ InSl w' w'.heap.size (.slice Ax (rowF m a).may.length cx) (rowF m a).may ∧ InSl w' w'.heap.size (.slice Ay (rowF m b).may.length cy) (rowF m b).may) ∨
        (comE m a b ≠ 0 ∧ e = .returned (.tuple #[.slice none 0 0, .slice none 0 0, .int .i64 (comE m a b)]))) ∧ Below w.heap.size w w' := by
  obtain ⟨A1, c1, A2, c2, W0, rfl, hW0, hb0, hM, hS, hR, hX⟩ := mx_box hv
  have HB0 := Lib.hid hb0
  have HW0 := Lib.hid hW0
  have HX := Lib.hid hX
  have HC := Lib.hid (rCheckMatrix_any _ m W0 (hM W0 (Below.refl _ _)) hs)
  have HAa := Lib.hid (fun Y (h : Below W0.heap.size W0 Y) => rat_any _ m a Y (hM Y h) hs)
  have HAb := Lib.hid (fun Y (h : Below W0.heap.size W0 Y) => rat_any _ m b Y (hM Y h) hs)
  have HRr := Lib.hid (hR W0 (Below.refl _ _))
  obtain ⟨k0, k1⟩ := hX W0 (Below.refl _ _)
  generalize m.st.length = ns at *
  obtain ⟨nr, hnr⟩ : ∃ n, m.rows.length = n := ⟨_, rfl⟩
  have hnr1 : nr ≤ 1000 := by have := hs.2.1; omega
  rw [hnr] at HC HW0 HX HAa HAb HRr k1 ⊢
  clear hv hs hW0 hb0 hM hS hR hX hnr
  cases hm : mxF m with
  | false =>
    have HF := Lib.hid (show cmE m = 30 ∧ comE m a b = 30 from ⟨by unfold cmE; simp [hm], by unfold comE rowE; simp [hm]⟩)
    rw [HF.out.1] at HC
    rw [HF.out.2]
    clear hm HF HAa HAb
    go_enter Tryd.func80, Tryd.ntmps80
    go_wp2_with fail
    rw [HW0.out]
    (try go_wp2_with fail)
    (with_reducible refine HC.out.mono ?_)
    rintro e w1 ⟨rfl, hb⟩
    have HB2 := Lib.hid (HB0.out.trans (hb.mono HB0.out.size))
    clear hb k0 k1
    go_wp2_with fail
    refine bodyPost_ret (v := .tuple #[.slice none 0 0, .slice none 0 0, .int .i64 30]) (by simp [results, Tryd.results80, go_sem]) rfl ?_
    exact ⟨.inr ⟨by decide, rfl⟩, HB2.out⟩
  | true =>
    have hE : ∀ nm, rowE m nm = (if (rowO m nm).isSome = true then 0 else 1) := fun nm => by unfold rowE; simp [hm]
    have hF : ∀ nm, rowF m nm = (rowO m nm).getD ⟨0, []⟩ := fun nm => by unfold rowF; simp [hm]
    have HF := Lib.hid (show cmE m = 0 from by unfold cmE; simp [hm])
    obtain ⟨oa, hoa⟩ : ∃ o, rowO m a = o := ⟨_, rfl⟩
    obtain ⟨ob, hob⟩ : ∃ o, rowO m b = o := ⟨_, rfl⟩
    have HCo := Lib.hid (show comE m a b = (if oa.isSome = true then (if ob.isSome = true then 0 else 1) else 1) from by
      unfold comE
      rw [hE, hE, hoa, hob]
      cases oa <;> cases ob <;> simp)
    rw [HF.out] at HC
    rw [hF a, hF b, hoa, hob]
    rw [hoa] at HAa
    rw [hob] at HAb
    obtain ⟨ce, hce⟩ : ∃ c, comE m a b = c := ⟨_, rfl⟩
    rw [hce] at HCo ⊢
    clear hm HF hE hF hoa hob hce
    go_enter Tryd.func80, Tryd.ntmps80
    go_wp2_with fail
    rw [HW0.out]
    (try go_wp2_with fail)
    (with_reducible refine HC.out.mono ?_)
    rintro e w1 ⟨rfl, hb⟩
    have HB2 := Lib.hid hb
    have HA1 := Lib.hid (HAa.out w1 hb)
    clear hb k0 k1 HC HAa
    obtain ⟨k0, k1⟩ := HX.out w1 HB2.out
    go_wp2_with fail
    (with_reducible refine HA1.out.mono ?_)
    rintro e w2 ⟨hcase, hb⟩
    have HB3 := Lib.hid (HB2.out.trans (hb.mono HB2.out.size))
    have HA2 := Lib.hid (HAb.out w2 HB3.out)
    clear hb k0 k1 HA1 HAb
    obtain ⟨k0, k1⟩ := HX.out w2 HB3.out
    rcases hcase with ⟨i, r, rfl, hri, hin, rfl⟩ | ⟨rfl, rfl⟩
    · have HRi := Lib.hid hri
      have hi0 : ¬ (i : Int) < 0 := by omega
      clear hri
      go_wp2_with fail
      (with_reducible refine HA2.out.mono ?_)
      rintro e w3 ⟨hcase, hb⟩
      have HB4 := Lib.hid (HB3.out.trans (hb.mono HB3.out.size))
      clear hb k0 k1 HA2
      rcases hcase with ⟨j, s, rfl, hrj, hjn, rfl⟩ | ⟨rfl, rfl⟩
      · have HRj := Lib.hid hrj
        have hj0 : ¬ (j : Int) < 0 := by omega
        clear hrj
        have HCe := Lib.hid (show ce = 0 from by rw [HCo.out]; rfl)
        obtain ⟨r', ad, Am, cm, hr', rfl, hY⟩ := HRr.out.at_ hin
        obtain ⟨s', ad', An, cn, hs', hA', hZ⟩ := HRr.out.at_ hjn
        obtain rfl := Option.some.inj hA'
        rw [HRi.out] at hr'; injection hr' with hr'; subst hr'
        rw [HRj.out] at hs'; injection hs' with hs'; subst hs'
        have HY := Lib.hid hY
        have HZ := Lib.hid hZ
        have ss := fun z : Wb w3 => And.intro (HX.out z.v (HB4.out.trans (z.h.mono HB4.out.size))) (And.intro (HY.out z.v (HB4.out.trans (z.h.mono HB4.out.size))).1 (HZ.out z.v (HB4.out.trans (z.h.mono HB4.out.size))).1)
        clear hY hZ HCo
        generalize hrl : r.may.length = rl at *
        generalize hsl : s.may.length = sl at *
        go_wp2_with fail
        refine wp_region_wb (by kernel_rfl) (by kernel_rfl) ?_; (repeat ((with_reducible refine wpQuiet_step ?_); intro K hK; go_simp; (try (refine ite_neg_of (by simp [undef]) ?_)); first | (with_reducible refine hK _ ?_; clear hK K) | (apply Exists.intro; (with_reducible refine ⟨fun _ => ?_, hK _ ?_⟩); (fail); clear hK K))); (with_reducible refine wpQuiet_nil ?_); rintro w1 ⟨⟨_, hb1⟩, rfl⟩; (try dsimp only)
        have HB5 := Lib.hid (HB4.out.trans (hb1.mono HB4.out.size))
        have HIy := Lib.hid (HY.out w1 HB5.out).2
        have HIz := Lib.hid (HZ.out w1 HB5.out).2
        clear ss hb1
        (try go_wp2_with fail)
        refine bodyPost_ret (v := .tuple #[.slice Am rl cm, .slice An sl cn, .int .i64 0]) (by simp [results, Tryd.results80, go_sem]) rfl ?_
        exact ⟨.inl ⟨HCe.out, Am, cm, An, cn, by simp [hrl, hsl], by simpa [hrl] using HIy.out, by simpa [hsl] using HIz.out⟩, HB0.out.trans (HB5.out.mono HB0.out.size)⟩
      · have HCe := Lib.hid (show ce = 1 from by rw [HCo.out]; rfl)
        clear HCo
        go_wp2_with fail
        refine bodyPost_ret (v := .tuple #[.slice none 0 0, .slice none 0 0, .int .i64 1]) (by simp [results, Tryd.results80, go_sem]) rfl ?_
        exact ⟨.inr ⟨by rw [HCe.out]; decide, by rw [HCe.out]⟩, HB0.out.trans (HB4.out.mono HB0.out.size)⟩
    · have HCe := Lib.hid (show ce = 1 from by rw [HCo.out]; rfl)
      clear HCo
      go_wp2_with fail
      (with_reducible refine HA2.out.mono ?_)
      rintro e w3 ⟨hcase, hb⟩
      have HB4 := Lib.hid (HB3.out.trans (hb.mono HB3.out.size))
      clear hb k0 k1 HA2
      rcases hcase with ⟨j, s, rfl, hrj, hjn, rfl⟩ | ⟨rfl, rfl⟩
      · clear hrj
        go_wp2_with fail
        refine bodyPost_ret (v := .tuple #[.slice none 0 0, .slice none 0 0, .int .i64 1]) (by simp [results, Tryd.results80, go_sem]) rfl ?_
        exact ⟨.inr ⟨by rw [HCe.out]; decide, by rw [HCe.out]⟩, HB0.out.trans (HB4.out.mono HB0.out.size)⟩
      · go_wp2_with fail
        refine bodyPost_ret (v := .tuple #[.slice none 0 0, .slice none 0 0, .int .i64 1]) (by simp [results, Tryd.results80, go_sem]) rfl ?_
        exact ⟨.inr ⟨by rw [HCe.out]; decide, by rw [HCe.out]⟩, HB0.out.trans (HB4.out.mono HB0.out.size)⟩
end Go.Proofs.YthfegbcbpeedbaaDoor
namespace Go.Proofs.YthfegbcbpeedbaaDoor
open Go.RowKit Go.Nm Go.Ky

theorem com_get {m : Mx} {a b : Int} {i : Nat} {x y : Int} (hx : (rowF m a).may[i]? = some x) (hy : (rowF m b).may[i]? = some y) : (comL m a b)[i]? = some (meetF x y) := by
  unfold comL
  rw [List.getElem?_zipWith, hx, hy]
set_option maxRecDepth 100000 in
set_option maxHeartbeats 8000000 in
theorem rTell_any (v : Value) (m : Mx) (a b : Int) (w : World) (hv : MxV w v m) (hs : MSm m) :
    Calls Tryd.prog 35 #[v, .int .i64 a, .int .i64 b] w fun e w' => (∃ u, e = .returned (.tuple #[u, .int .i64 (comE m a b)]) ∧ Fr w.heap.size w' u (tellL m a b)) ∧ Below w.heap.size w w' := by
  obtain ⟨A1, c1, A2, c2, W0, rfl, hW0, hb0, hM, hS, hR, hX⟩ := mx_box hv
  have HB0 := Lib.hid hb0
  have HW0 := Lib.hid hW0
  obtain ⟨k0, k1⟩ := hX W0 (Below.refl _ _)
  have HC := Lib.hid (rtwo_any _ m a b W0 (hM W0 (Below.refl _ _)) hs)
  have HO := Lib.hid (show tellL m a b = (if comE m a b = 0 then tlT (comL m a b) m.st.length else []) from rfl)
  have HOk := Lib.hid (fun h : comE m a b = 0 => And.intro (com_ok h).2.2.2.1 (com_ok h).2.2.2.2.1)
  have HGt := Lib.hid (fun (i : Nat) (x y : Int) (hx : (rowF m a).may[i]? = some x) (hy : (rowF m b).may[i]? = some y) => com_get hx hy)
  have hns : m.st.length ≤ 1000 := hs.1
  have HCe := Lib.hid (com_cases m a b)
  obtain ⟨ce, hce⟩ : ∃ r, comE m a b = r := ⟨_, rfl⟩
  obtain ⟨CL, hCL⟩ : ∃ r, comL m a b = r := ⟨_, rfl⟩
  obtain ⟨tl, htl⟩ : ∃ r, tellL m a b = r := ⟨_, rfl⟩
  obtain ⟨ra, hra⟩ : ∃ r, (rowF m a).may = r := ⟨_, rfl⟩
  obtain ⟨rb, hrb⟩ : ∃ r, (rowF m b).may = r := ⟨_, rfl⟩
  rw [hce, hra, hrb] at HC HOk
  rw [hce] at HCe
  rw [hra, hrb, hCL] at HGt
  rw [hce, hCL, htl] at HO
  rw [hce, htl]
  generalize m.rows.length = nr at *
  obtain ⟨ns, hn⟩ : ∃ n, m.st.length = n := ⟨_, rfl⟩
  rw [hn] at HW0 HC HOk HO k0 hns
  rw [hn]
  clear hv hs hW0 hb0 hM hS hR hX hce hCL htl hra hrb hn
  go_enter Tryd.func35, Tryd.ntmps35
  go_wp2_with fail
  rw [HW0.out]
  (try go_wp2_with fail)
  (with_reducible refine HC.out.mono ?_)
  rintro e w1 ⟨hcase, hb⟩
  have HB1 := Lib.hid hb
  clear hb k0 k1 HC
  rcases hcase with ⟨rfl, Ax, cx, Ay, cy, rfl, hx, hy⟩ | ⟨hne, rfl⟩
  case inr =>
    have HF := Lib.hid (show tl = [] from by rw [HO.out, if_neg hne])
    rcases HCe.out with rfl | rfl | rfl
    · exact absurd rfl hne
    · clear hne
      go_wp2_with fail
      go_ret2
      exact ⟨⟨_, rfl, by rw [HF.out]; exact Fr.nil _ _⟩, HB0.out.trans (HB1.out.mono HB0.out.size)⟩
    · clear hne
      go_wp2_with fail
      go_ret2
      exact ⟨⟨_, rfl, by rw [HF.out]; exact Fr.nil _ _⟩, HB0.out.trans (HB1.out.mono HB0.out.size)⟩
  case inl =>
  have HLn := Lib.hid (HOk.out rfl)
  have HE := Lib.hid (show tl = tlT CL ns from by rw [HO.out, if_pos rfl])
  have HA := Lib.hid (show InA w1 w1.heap.size Ax ra from by obtain ⟨_, _, e, _, _, h⟩ := hx; cases e; exact h)
  have HBy := Lib.hid (show InA w1 w1.heap.size Ay rb from by obtain ⟨_, _, e, _, _, h⟩ := hy; cases e; exact h)
  have HR0 := Lib.hid (OwN.start w1)
  rw [HLn.out.1, HLn.out.2]
  clear hx hy HO HOk HCe
  go_wp2_with fail
  go_loopw [11, 12] (fun ov iv wr => ∃ (i : Nat) (Ao : Option Addr) (no co : Nat), ov = .slice Ao no co ∧ iv = .int .i64 (i : Int) ∧ i ≤ ns ∧ OwN w1 ov (tlT CL i) wr) (fun _ iv _ => ns - (intOf iv).toNat)
  case atStart => exact ⟨0, _, _, _, rfl, rfl, by omega, HR0.out⟩
  case round =>
    obtain ⟨i, Ao, no, co, rfl, rfl, hin, hI⟩ := hrel
    have HI := Lib.hid hI
    clear hI
    by_cases hlt : i < ns
    · obtain ⟨x, ad, hx, rfl, _, hcx⟩ := (HA.out.below HI.out.bel).at_ HLn.out.1 hlt
      obtain ⟨y, bd, hy, rfl, _, hcy⟩ := (HBy.out.below HI.out.bel).at_ HLn.out.2 hlt
      have HQ := Lib.hid (HGt.out i x y hx hy)
      obtain ⟨z, hz⟩ : ∃ z, bits BinOp.and IntKind.i64 x y = z := ⟨_, rfl⟩
      have HZ := Lib.hid (show CL[i]? = some z from by rw [HQ.out]; unfold meetF; rw [hz])
      have HLq := Lib.hid (show (tlT CL i).length + [(i : Int)].length ≤ 3000000 from by have := tlT_len CL i; simp; omega)
      have ss := fun z => And.intro (Wb.cell hcx z) (Wb.cell hcy z)
      clear hx hy
      by_cases h0 : z = 0
      · subst h0
        have HP := Lib.hid (tlT_yes HZ.out)
        go_wp2_with fail
        refine wp_region_wb (by kernel_rfl) (by kernel_rfl) ?_; (repeat ((with_reducible refine wpQuiet_step ?_); intro K hK; go_simp; (try (refine ite_neg_of (by simp [undef]) ?_)); first | (with_reducible refine hK _ ?_; clear hK K) | (apply Exists.intro; (with_reducible refine ⟨fun _ => ?_, hK _ ?_⟩); (fail); clear hK K))); (with_reducible refine wpQuiet_nil ?_); rintro w1 ⟨⟨_, hb1⟩, rfl⟩; (try dsimp only)
        have HI3 := Lib.hid (HI.out.step hb1)
        clear hb1 ss
        go_wp2_with (at_builtin; refine wpList_appN rfl _ _ rfl (HI3.out.step (below_new _)) rfl rfl (box_sl (y := (i : Int)) (World.alloc_heap_new _ _)) HLq.out ?_; intro v6 w6 hI6 _; obtain ⟨A6, n6, c6, e6⟩ := hI6.slice; subst e6; have HI6 := Lib.hid hI6; clear hI6)
        go_roundw
        case rel => exact ⟨i + 1, _, _, _, rfl, by go_num, by omega, by rw [HP.out]; exact HI6.out⟩
        case measure => simp [intOf]; omega
      · have HP := Lib.hid (tlT_no HZ.out h0)
        go_wp2_with fail
        refine wp_region_wb (by kernel_rfl) (by kernel_rfl) ?_; (repeat ((with_reducible refine wpQuiet_step ?_); intro K hK; go_simp; (try (refine ite_neg_of (by simp [undef]) ?_)); first | (with_reducible refine hK _ ?_; clear hK K) | (apply Exists.intro; (with_reducible refine ⟨fun _ => ?_, hK _ ?_⟩); (fail); clear hK K))); (with_reducible refine wpQuiet_nil ?_); rintro w1 ⟨⟨_, hb1⟩, rfl⟩; (try dsimp only)
        have HI3 := Lib.hid (HI.out.step hb1)
        clear hb1 ss
        go_wp2_with fail
        go_roundw
        case rel => exact ⟨i + 1, _, _, _, rfl, by go_num, by omega, by rw [HP.out]; exact HI3.out⟩
        case measure => simp [intOf]; omega
    · obtain rfl : ns = i := by omega
      have HI2 := Lib.hid HI.out
      rw [← HE.out] at HI2
      go_wp2_with fail
      go_ret2
      exact ⟨⟨_, rfl, HI2.out.sl, fun g e => ⟨Nat.le_trans HB0.out.size (Nat.le_trans HB1.out.size (HI2.out.own.lt g e).1), (HI2.out.own.lt g e).2⟩⟩, HB0.out.trans ((HB1.out.trans (HI2.out.bel.mono HB1.out.size)).mono HB0.out.size)⟩
end Go.Proofs.YthfegbcbpeedbaaDoor
namespace Go.Ky
theorem tz_low {x i : Nat} (h0 : 0 < x) (h : x < 65536) (hi : i < tzN x) : x / 2 ^ i % 2 = 0 := by
  have h1 := (tz_ok h0 h).2.2
  obtain ⟨t, ht⟩ : ∃ t, tzN x = t := ⟨_, rfl⟩
  rw [ht] at h1 hi
  obtain ⟨q, hq⟩ := Nat.dvd_of_mod_eq_zero h1
  obtain ⟨d, rfl⟩ : ∃ d, t = i + 1 + d := ⟨t - (i + 1), by omega⟩
  have e : x = 2 ^ i * (2 * (2 ^ d * q)) := by
    conv => lhs; rw [hq, Nat.pow_add, Nat.pow_succ]
    simp only [Nat.mul_assoc]
  rw [e, Nat.mul_div_cancel_left _ (Nat.two_pow_pos i)]
  exact Nat.mul_mod_right 2 _
theorem tz_one {x : Nat} (h0 : 0 < x) (h : x < 65536) : x / 2 ^ tzN x % 2 = 1 := by
  have h1 := (tz_ok h0 h).2.1
  rw [Nat.testBit_eq_decide_div_mod_eq] at h1
  exact of_decide_eq_true h1
end Go.Ky
namespace Go.Proofs.YthfegbcbpeedbaaDoor
open Go.RowKit Go.Nm Go.Ky

set_option maxRecDepth 100000 in
set_option maxHeartbeats 4000000 in
theorem rleast_any (x : Nat) (w : World) (h0 : 0 < x) (hx : x < 65536) :
    Calls Tryd.prog 81 #[.int .i64 (x : Int)] w fun e w' => e = .returned (.int .i64 ((tzN x : Nat) : Int)) ∧ w = w' := by
  have HL := Lib.hid (fun i (hi : i < tzN x) => tz_low h0 hx hi)
  have HO := Lib.hid (tz_one h0 hx)
  have ht := (tz_ok h0 hx).1
  obtain ⟨t, e⟩ : ∃ t, tzN x = t := ⟨_, rfl⟩
  rw [e] at HL HO ht ⊢
  clear e
  go_enter Tryd.func81, Tryd.ntmps81
  go_wp2_with fail
  go_loopw [3] (fun iv wr => ∃ i : Nat, iv = .int .i64 (i : Int) ∧ i ≤ t ∧ w = wr) (fun iv _ => t - (intOf iv).toNat)
  case atStart => exact ⟨0, rfl, by omega, rfl⟩
  case round =>
    obtain ⟨i, rfl, hin, rfl⟩ := hrel
    obtain ⟨q, hq⟩ : ∃ q, x / 2 ^ i = q := ⟨_, rfl⟩
    have hqi : (x : Int) / 2 ^ i = (q : Int) := by rw [← hq]; simp
    have hi0 : ¬ (i : Int) < 0 := by omega
    have hi64 : i < 64 := by omega
    by_cases hlt : i < t
    · have hr := HL.out i hlt
      rw [hq] at hr
      have hrm : (q : Int) % 2 = 0 := by omega
      have hrt : Int.tmod (q : Int) 2 = 0 := by rw [Int.tmod_eq_emod_of_nonneg (by omega)]; exact hrm
      clear hq hr
      go_wp2_with fail
      go_roundw
      case rel => exact ⟨i + 1, by go_num, by omega, by first | trivial | rfl⟩
      case measure => simp [intOf]; omega
    · obtain rfl : t = i := by omega
      have hr := HO.out
      rw [hq] at hr
      have hrm : (q : Int) % 2 = 1 := by omega
      have hrt : Int.tmod (q : Int) 2 = 1 := by rw [Int.tmod_eq_emod_of_nonneg (by omega)]; exact hrm
      clear hq hr
      go_wp2_with fail
      go_ret
      exact ⟨rfl, rfl⟩
end Go.Proofs.YthfegbcbpeedbaaDoor
namespace Go.Ky
open Go.Nm
theorem zip_all : ∀ (a b : List Int), ((a.zip b).all fun p => decide (meetF p.1 p.2 ≠ 0)) = (List.zipWith meetF a b).all fun z => decide (z ≠ 0)
  | [], _ => by simp
  | _ :: _, [] => by simp
  | x :: a, y :: b => by simp only [List.zip_cons_cons, List.all_cons, List.zipWith_cons_cons, zip_all a b]
theorem com_all (m : Mx) (a b : Int) : fitsF (rowF m a).may (rowF m b).may = (comL m a b).all fun z => decide (z ≠ 0) := zip_all _ _
end Go.Ky
namespace Go.Proofs.YthfegbcbpeedbaaDoor
open Go.RowKit Go.Nm Go.Ky

structure SaI (V W : World) (ad bd : Addr) (ov : Value) (i n n2 cx cy : Nat) (x y z t : Int) (M : List Int) (dn : Nat → Bool) (val : Nat → Value) (X : World) : Prop where
  s0 : dn 0 = true → val 0 = ov
  s1 : dn 1 = true → val 1 = .slice (some ad) n cx
  s2 : dn 2 = true → val 2 = .int .i64 (i : Int)
  s3 : dn 3 = true → val 3 = .pointer (some (ad.add i))
  s4 : dn 4 = true → val 4 = .int .i64 x
  s5 : dn 5 = true → val 5 = .slice (some bd) n2 cy
  s6 : dn 6 = true → val 6 = .int .i64 (i : Int)
  s7 : dn 7 = true → val 7 = .pointer (some (bd.add i))
  s8 : dn 8 = true → val 8 = .int .i64 y
  s9 : dn 9 = true → val 9 = .int .i64 z
  s10 : dn 10 = true → val 10 = .int .i64 t
  bel : dn 12 = false → Below V.heap.size V X
  eB : dn 11 = true → dn 12 = false → ∃ g, val 11 = .slice (some ⟨g, 0, none⟩) 1 1 ∧ X.heap[g]? = some (.cells #[.int .i64 t] 3)
  eA : dn 12 = true → OwN W (val 12) M X
  eZ : dn 13 = true → dn 12 = true ∧ val 13 = val 12
section
variable {V W : World} {ad bd : Addr} {ov : Value} {i n n2 cx cy : Nat} {x y z t : Int} {M : List Int} {dn : Nat → Bool} {val : Nat → Value} {X Y : World}
theorem SaI.op0 (h : SaI V W ad bd ov i n n2 cx cy x y z t M dn val X) : SaI V W ad bd ov i n n2 cx cy x y z t M (andB dn 0) (updV val 0 (ov)) X :=
  ⟨(fun _ => rfl), h.s1, h.s2, h.s3, h.s4, h.s5, h.s6, h.s7, h.s8, h.s9, h.s10, h.bel, h.eB, h.eA, h.eZ⟩
theorem SaI.op1 (h : SaI V W ad bd ov i n n2 cx cy x y z t M dn val X) : SaI V W ad bd ov i n n2 cx cy x y z t M (andB dn 1) (updV val 1 (.slice (some ad) n cx)) X :=
  ⟨h.s0, (fun _ => rfl), h.s2, h.s3, h.s4, h.s5, h.s6, h.s7, h.s8, h.s9, h.s10, h.bel, h.eB, h.eA, h.eZ⟩
theorem SaI.op2 (h : SaI V W ad bd ov i n n2 cx cy x y z t M dn val X) : SaI V W ad bd ov i n n2 cx cy x y z t M (andB dn 2) (updV val 2 (.int .i64 (i : Int))) X :=
  ⟨h.s0, h.s1, (fun _ => rfl), h.s3, h.s4, h.s5, h.s6, h.s7, h.s8, h.s9, h.s10, h.bel, h.eB, h.eA, h.eZ⟩
theorem SaI.op3 (h : SaI V W ad bd ov i n n2 cx cy x y z t M dn val X) : SaI V W ad bd ov i n n2 cx cy x y z t M (andB dn 3) (updV val 3 (.pointer (some (ad.add i)))) X :=
  ⟨h.s0, h.s1, h.s2, (fun _ => rfl), h.s4, h.s5, h.s6, h.s7, h.s8, h.s9, h.s10, h.bel, h.eB, h.eA, h.eZ⟩
theorem SaI.op4 (h : SaI V W ad bd ov i n n2 cx cy x y z t M dn val X) : SaI V W ad bd ov i n n2 cx cy x y z t M (andB dn 4) (updV val 4 (.int .i64 x)) X :=
  ⟨h.s0, h.s1, h.s2, h.s3, (fun _ => rfl), h.s5, h.s6, h.s7, h.s8, h.s9, h.s10, h.bel, h.eB, h.eA, h.eZ⟩
theorem SaI.op5 (h : SaI V W ad bd ov i n n2 cx cy x y z t M dn val X) : SaI V W ad bd ov i n n2 cx cy x y z t M (andB dn 5) (updV val 5 (.slice (some bd) n2 cy)) X :=
  ⟨h.s0, h.s1, h.s2, h.s3, h.s4, (fun _ => rfl), h.s6, h.s7, h.s8, h.s9, h.s10, h.bel, h.eB, h.eA, h.eZ⟩
theorem SaI.op6 (h : SaI V W ad bd ov i n n2 cx cy x y z t M dn val X) : SaI V W ad bd ov i n n2 cx cy x y z t M (andB dn 6) (updV val 6 (.int .i64 (i : Int))) X :=
  ⟨h.s0, h.s1, h.s2, h.s3, h.s4, h.s5, (fun _ => rfl), h.s7, h.s8, h.s9, h.s10, h.bel, h.eB, h.eA, h.eZ⟩
theorem SaI.op7 (h : SaI V W ad bd ov i n n2 cx cy x y z t M dn val X) : SaI V W ad bd ov i n n2 cx cy x y z t M (andB dn 7) (updV val 7 (.pointer (some (bd.add i)))) X :=
  ⟨h.s0, h.s1, h.s2, h.s3, h.s4, h.s5, h.s6, (fun _ => rfl), h.s8, h.s9, h.s10, h.bel, h.eB, h.eA, h.eZ⟩
theorem SaI.op8 (h : SaI V W ad bd ov i n n2 cx cy x y z t M dn val X) : SaI V W ad bd ov i n n2 cx cy x y z t M (andB dn 8) (updV val 8 (.int .i64 y)) X :=
  ⟨h.s0, h.s1, h.s2, h.s3, h.s4, h.s5, h.s6, h.s7, (fun _ => rfl), h.s9, h.s10, h.bel, h.eB, h.eA, h.eZ⟩
theorem SaI.op9 (h : SaI V W ad bd ov i n n2 cx cy x y z t M dn val X) : SaI V W ad bd ov i n n2 cx cy x y z t M (andB dn 9) (updV val 9 (.int .i64 z)) X :=
  ⟨h.s0, h.s1, h.s2, h.s3, h.s4, h.s5, h.s6, h.s7, h.s8, (fun _ => rfl), h.s10, h.bel, h.eB, h.eA, h.eZ⟩
theorem SaI.op10 (h : SaI V W ad bd ov i n n2 cx cy x y z t M dn val X) : SaI V W ad bd ov i n n2 cx cy x y z t M (andB dn 10) (updV val 10 (.int .i64 t)) X :=
  ⟨h.s0, h.s1, h.s2, h.s3, h.s4, h.s5, h.s6, h.s7, h.s8, h.s9, (fun _ => rfl), h.bel, h.eB, h.eA, h.eZ⟩
theorem SaI.op11 (h : SaI V W ad bd ov i n n2 cx cy x y z t M dn val X) (nA : dn 12 = false) : SaI V W ad bd ov i n n2 cx cy x y z t M (andB dn 11) (updV val 11 (.slice (some ⟨X.heap.size, 0, none⟩) 1 1)) (X.alloc (.cells #[.int .i64 t] 3)) :=
  ⟨h.s0, h.s1, h.s2, h.s3, h.s4, h.s5, h.s6, h.s7, h.s8, h.s9, h.s10, (fun n => (h.bel n).alloc (h.bel n).size _), (fun _ _ => ⟨_, rfl, World.alloc_heap_new X _⟩), (fun d => f_t nA d), h.eZ⟩
theorem SaI.op12 (h : SaI V W ad bd ov i n n2 cx cy x y z t M dn val X) (nZ : dn 13 = false) {v : Value} (hO : OwN W v M Y) : SaI V W ad bd ov i n n2 cx cy x y z t M (andB dn 12) (updV val 12 (v)) (Y) :=
  ⟨h.s0, h.s1, h.s2, h.s3, h.s4, h.s5, h.s6, h.s7, h.s8, h.s9, h.s10, (fun n => nomatch n), (fun _ n => nomatch n), (fun _ => hO), (fun d => f_t nZ d)⟩
theorem SaI.op13 (h : SaI V W ad bd ov i n n2 cx cy x y z t M dn val X) (yA : dn 12 = true) : SaI V W ad bd ov i n n2 cx cy x y z t M (andB dn 13) (updV val 13 (val 12)) (X) :=
  ⟨h.s0, h.s1, h.s2, h.s3, h.s4, h.s5, h.s6, h.s7, h.s8, h.s9, h.s10, h.bel, h.eB, h.eA, (fun _ => ⟨yA, rfl⟩)⟩
end
structure BoI (V W : World) (ad bd : Addr) (ov : Value) (i n n2 cx cy : Nat) (x y z t : Int) (M : List Int) (dn : Nat → Bool) (val : Nat → Value) (X : World) : Prop where
  s0 : dn 0 = true → val 0 = ov
  s1 : dn 1 = true → val 1 = .slice (some ad) n cx
  s2 : dn 2 = true → val 2 = .int .i64 (i : Int)
  s3 : dn 3 = true → val 3 = .pointer (some (ad.add i))
  s4 : dn 4 = true → val 4 = .int .i64 x
  s5 : dn 5 = true → val 5 = .slice (some bd) n2 cy
  s6 : dn 6 = true → val 6 = .int .i64 (i : Int)
  s7 : dn 7 = true → val 7 = .pointer (some (bd.add i))
  s8 : dn 8 = true → val 8 = .int .i64 y
  s9 : dn 9 = true → val 9 = .int .i64 z
  bel : dn 11 = false → Below V.heap.size V X
  eB : dn 10 = true → dn 11 = false → ∃ g, val 10 = .slice (some ⟨g, 0, none⟩) 1 1 ∧ X.heap[g]? = some (.cells #[.int .i64 t] 3)
  eA : dn 11 = true → OwN W (val 11) M X
  eZ : dn 12 = true → dn 11 = true ∧ val 12 = val 11
section
variable {V W : World} {ad bd : Addr} {ov : Value} {i n n2 cx cy : Nat} {x y z t : Int} {M : List Int} {dn : Nat → Bool} {val : Nat → Value} {X Y : World}
theorem BoI.op0 (h : BoI V W ad bd ov i n n2 cx cy x y z t M dn val X) : BoI V W ad bd ov i n n2 cx cy x y z t M (andB dn 0) (updV val 0 (ov)) X :=
  ⟨(fun _ => rfl), h.s1, h.s2, h.s3, h.s4, h.s5, h.s6, h.s7, h.s8, h.s9, h.bel, h.eB, h.eA, h.eZ⟩
theorem BoI.op1 (h : BoI V W ad bd ov i n n2 cx cy x y z t M dn val X) : BoI V W ad bd ov i n n2 cx cy x y z t M (andB dn 1) (updV val 1 (.slice (some ad) n cx)) X :=
  ⟨h.s0, (fun _ => rfl), h.s2, h.s3, h.s4, h.s5, h.s6, h.s7, h.s8, h.s9, h.bel, h.eB, h.eA, h.eZ⟩
theorem BoI.op2 (h : BoI V W ad bd ov i n n2 cx cy x y z t M dn val X) : BoI V W ad bd ov i n n2 cx cy x y z t M (andB dn 2) (updV val 2 (.int .i64 (i : Int))) X :=
  ⟨h.s0, h.s1, (fun _ => rfl), h.s3, h.s4, h.s5, h.s6, h.s7, h.s8, h.s9, h.bel, h.eB, h.eA, h.eZ⟩
theorem BoI.op3 (h : BoI V W ad bd ov i n n2 cx cy x y z t M dn val X) : BoI V W ad bd ov i n n2 cx cy x y z t M (andB dn 3) (updV val 3 (.pointer (some (ad.add i)))) X :=
  ⟨h.s0, h.s1, h.s2, (fun _ => rfl), h.s4, h.s5, h.s6, h.s7, h.s8, h.s9, h.bel, h.eB, h.eA, h.eZ⟩
theorem BoI.op4 (h : BoI V W ad bd ov i n n2 cx cy x y z t M dn val X) : BoI V W ad bd ov i n n2 cx cy x y z t M (andB dn 4) (updV val 4 (.int .i64 x)) X :=
  ⟨h.s0, h.s1, h.s2, h.s3, (fun _ => rfl), h.s5, h.s6, h.s7, h.s8, h.s9, h.bel, h.eB, h.eA, h.eZ⟩
theorem BoI.op5 (h : BoI V W ad bd ov i n n2 cx cy x y z t M dn val X) : BoI V W ad bd ov i n n2 cx cy x y z t M (andB dn 5) (updV val 5 (.slice (some bd) n2 cy)) X :=
  ⟨h.s0, h.s1, h.s2, h.s3, h.s4, (fun _ => rfl), h.s6, h.s7, h.s8, h.s9, h.bel, h.eB, h.eA, h.eZ⟩
theorem BoI.op6 (h : BoI V W ad bd ov i n n2 cx cy x y z t M dn val X) : BoI V W ad bd ov i n n2 cx cy x y z t M (andB dn 6) (updV val 6 (.int .i64 (i : Int))) X :=
  ⟨h.s0, h.s1, h.s2, h.s3, h.s4, h.s5, (fun _ => rfl), h.s7, h.s8, h.s9, h.bel, h.eB, h.eA, h.eZ⟩
theorem BoI.op7 (h : BoI V W ad bd ov i n n2 cx cy x y z t M dn val X) : BoI V W ad bd ov i n n2 cx cy x y z t M (andB dn 7) (updV val 7 (.pointer (some (bd.add i)))) X :=
  ⟨h.s0, h.s1, h.s2, h.s3, h.s4, h.s5, h.s6, (fun _ => rfl), h.s8, h.s9, h.bel, h.eB, h.eA, h.eZ⟩
theorem BoI.op8 (h : BoI V W ad bd ov i n n2 cx cy x y z t M dn val X) : BoI V W ad bd ov i n n2 cx cy x y z t M (andB dn 8) (updV val 8 (.int .i64 y)) X :=
  ⟨h.s0, h.s1, h.s2, h.s3, h.s4, h.s5, h.s6, h.s7, (fun _ => rfl), h.s9, h.bel, h.eB, h.eA, h.eZ⟩
theorem BoI.op9 (h : BoI V W ad bd ov i n n2 cx cy x y z t M dn val X) : BoI V W ad bd ov i n n2 cx cy x y z t M (andB dn 9) (updV val 9 (.int .i64 z)) X :=
  ⟨h.s0, h.s1, h.s2, h.s3, h.s4, h.s5, h.s6, h.s7, h.s8, (fun _ => rfl), h.bel, h.eB, h.eA, h.eZ⟩
theorem BoI.op10 (h : BoI V W ad bd ov i n n2 cx cy x y z t M dn val X) (nA : dn 11 = false) : BoI V W ad bd ov i n n2 cx cy x y z t M (andB dn 10) (updV val 10 (.slice (some ⟨X.heap.size, 0, none⟩) 1 1)) (X.alloc (.cells #[.int .i64 t] 3)) :=
  ⟨h.s0, h.s1, h.s2, h.s3, h.s4, h.s5, h.s6, h.s7, h.s8, h.s9, (fun n => (h.bel n).alloc (h.bel n).size _), (fun _ _ => ⟨_, rfl, World.alloc_heap_new X _⟩), (fun d => f_t nA d), h.eZ⟩
theorem BoI.op11 (h : BoI V W ad bd ov i n n2 cx cy x y z t M dn val X) (nZ : dn 12 = false) {v : Value} (hO : OwN W v M Y) : BoI V W ad bd ov i n n2 cx cy x y z t M (andB dn 11) (updV val 11 (v)) (Y) :=
  ⟨h.s0, h.s1, h.s2, h.s3, h.s4, h.s5, h.s6, h.s7, h.s8, h.s9, (fun n => nomatch n), (fun _ n => nomatch n), (fun _ => hO), (fun d => f_t nZ d)⟩
theorem BoI.op12 (h : BoI V W ad bd ov i n n2 cx cy x y z t M dn val X) (yA : dn 11 = true) : BoI V W ad bd ov i n n2 cx cy x y z t M (andB dn 12) (updV val 12 (val 11)) (X) :=
  ⟨h.s0, h.s1, h.s2, h.s3, h.s4, h.s5, h.s6, h.s7, h.s8, h.s9, h.bel, h.eB, h.eA, (fun _ => ⟨yA, rfl⟩)⟩
end
section
variable {o : Oper} {a : Act} {w : World} {K : Act → World → Prop} {Q : Exit → Act → World → Prop}
theorem opAndI (q r : Nat) (x y z : Int) (hz : bits BinOp.and IntKind.i64 x y = z) (ho : o.op = .binOp .and 3 (.tmp q) (.tmp r) 3) (hq : a.tmps.getD q undef = .int .i64 x) (hr : a.tmps.getD r undef = .int .i64 y) (h : K (a.put o.dst (.int .i64 z)) w) : o.wp Tryd.prog a w K Q := by
  unfold Oper.wp execOp
  have he : a.eval (.tmp q) = .int .i64 x := hq
  have he2 : a.eval (.tmp r) = .int .i64 y := hr
  simp only [ho, he, he2]
  go_simp
  exact h
set_option maxRecDepth 100000 in
theorem opCallLs (q : Nat) (v1 : Value) {t : Int} (ho : o.op = .call { callee := .value (.func 81), args := #[.tmp q], argTypes := #[3] }) (h1 : a.tmps.getD q undef = v1)
    (hc : Calls Tryd.prog 81 #[v1] w fun e w' => e = .returned (.int .i64 t) ∧ w = w') (h : K (a.put o.dst (.int .i64 t)) w) : o.wp Tryd.prog a w K Q := by
  unfold Oper.wp execOp
  have e1 : a.eval (.tmp q) = v1 := h1
  simp only [ho]
  go_simp
  refine hc.mono ?_
  rintro e w' ⟨rfl, rfl⟩
  exact h
end
set_option maxRecDepth 100000 in
set_option maxHeartbeats 8000000 in
theorem rSame_any (v : Value) (m : Mx) (a b : Int) (w : World) (hv : MxV w v m) (hs : MSm m) :
    Calls Tryd.prog 33 #[v, .int .i64 a, .int .i64 b] w fun e w' => (∃ u, e = .returned (.tuple #[u, .int .i64 (sameE m a b)]) ∧ Fr w.heap.size w' u (sameL m a b)) ∧ Below w.heap.size w w' := by
  obtain ⟨A1, c1, A2, c2, W0, rfl, hW0, hb0, hM, hS, hR, hX⟩ := mx_box hv
  have HB0 := Lib.hid hb0
  have HW0 := Lib.hid hW0
  obtain ⟨k0, k1⟩ := hX W0 (Below.refl _ _)
  have HC := Lib.hid (rtwo_any _ m a b W0 (hM W0 (Below.refl _ _)) hs)
  have HO := Lib.hid (show sameE m a b = (if comE m a b = 0 then (if fitsF (rowF m a).may (rowF m b).may = true then 0 else 3) else comE m a b) ∧ sameL m a b = (if sameE m a b = 0 then (comL m a b).map leastI else []) from ⟨by rw [com_all]; rfl, rfl⟩)
  have HAl := Lib.hid (com_all m a b)
  have HOk := Lib.hid (fun h : comE m a b = 0 => And.intro (com_ok h).2.2.2.1 (And.intro (com_ok h).2.2.2.2.1 (fun k z (hz : (comL m a b)[k]? = some z) => com_range h hz)))
  have HOl := Lib.hid (fun h : comE m a b = 0 => (com_ok h).2.2.2.2.2)
  have HGt := Lib.hid (fun (i : Nat) (x y : Int) (hx : (rowF m a).may[i]? = some x) (hy : (rowF m b).may[i]? = some y) => com_get hx hy)
  have hns : m.st.length ≤ 1000 := hs.1
  have HCe := Lib.hid (com_cases m a b)
  obtain ⟨ce, hce⟩ : ∃ r, comE m a b = r := ⟨_, rfl⟩
  obtain ⟨CL, hCL⟩ : ∃ r, comL m a b = r := ⟨_, rfl⟩
  obtain ⟨se, hse⟩ : ∃ r, sameE m a b = r := ⟨_, rfl⟩
  obtain ⟨sl, hsl⟩ : ∃ r, sameL m a b = r := ⟨_, rfl⟩
  obtain ⟨ra, hra⟩ : ∃ r, (rowF m a).may = r := ⟨_, rfl⟩
  obtain ⟨rb, hrb⟩ : ∃ r, (rowF m b).may = r := ⟨_, rfl⟩
  rw [hce, hra, hrb] at HC
  rw [hce, hra, hrb, hCL] at HOk
  rw [hce, hCL] at HOl
  rw [hce] at HCe
  rw [hra, hrb, hCL] at HGt HAl
  rw [hce, hCL, hse, hsl, hra, hrb] at HO
  rw [hse, hsl]
  generalize m.rows.length = nr at *
  obtain ⟨ns, hn⟩ : ∃ n, m.st.length = n := ⟨_, rfl⟩
  rw [hn] at HW0 HC HOk HOl k0 hns
  rw [hn]
  clear hv hs hW0 hb0 hM hS hR hX hce hCL hse hsl hra hrb hn
  go_enter Tryd.func33, Tryd.ntmps33
  go_wp2_with fail
  rw [HW0.out]
  (try go_wp2_with fail)
  (with_reducible refine HC.out.mono ?_)
  rintro e w1 ⟨hcase, hb⟩
  have HB1 := Lib.hid hb
  clear hb k0 k1 HC
  rcases hcase with ⟨rfl, Ax, cx, Ay, cy, rfl, hx, hy⟩ | ⟨hne, rfl⟩
  case inr =>
    have HF := Lib.hid (show se = ce ∧ sl = [] from by
      have h := HO.out.1
      rw [if_neg hne] at h
      exact ⟨h, by rw [HO.out.2, h, if_neg hne]⟩)
    rcases HCe.out with rfl | rfl | rfl
    · exact absurd rfl hne
    · clear hne
      go_wp2_with fail
      go_ret2
      exact ⟨⟨_, by rw [HF.out.1]; rfl, by rw [HF.out.2]; exact Fr.nil _ _⟩, HB0.out.trans (HB1.out.mono HB0.out.size)⟩
    · clear hne
      go_wp2_with fail
      go_ret2
      exact ⟨⟨_, by rw [HF.out.1]; rfl, by rw [HF.out.2]; exact Fr.nil _ _⟩, HB0.out.trans (HB1.out.mono HB0.out.size)⟩
  case inl =>
  have HLn := Lib.hid (HOk.out rfl)
  have HLc := Lib.hid (HOl.out rfl)
  have HA0 := Lib.hid (show InA w1 w1.heap.size Ax ra from by obtain ⟨_, _, e, _, _, h⟩ := hx; cases e; exact h)
  have HY0 := Lib.hid (show InA w1 w1.heap.size Ay rb from by obtain ⟨_, _, e, _, _, h⟩ := hy; cases e; exact h)
  have hme := rmeet_any _ _ ra rb w1 hx hy (HLn.out.2.1.trans HLn.out.1.symm) (by have := HLn.out.1; omega)
  obtain ⟨ft, hft⟩ : ∃ f, fitsF ra rb = f := ⟨_, rfl⟩
  rw [hft] at hme HO HAl
  have HMe := Lib.hid hme
  rw [HLn.out.1, HLn.out.2.1] at HMe ⊢
  clear hx hy hme hft HOk HOl HCe
  go_wp2_with fail
  (with_reducible refine HMe.out.mono ?_)
  rintro e w2 ⟨rfl, hb⟩
  have HB2 := Lib.hid (HB1.out.trans (hb.mono HB1.out.size))
  have HA := Lib.hid (show InA w2 w2.heap.size Ax ra from (HA0.out.below hb).mono hb.size)
  have HBy := Lib.hid (show InA w2 w2.heap.size Ay rb from (HY0.out.below hb).mono hb.size)
  clear hb HMe HA0 HY0
  cases ft with
  | false =>
    have HF := Lib.hid (show se = 3 ∧ sl = [] from by
      have h := HO.out.1
      simp at h
      exact ⟨h, by rw [HO.out.2, h]; simp⟩)
    go_wp2_with fail
    go_ret2
    exact ⟨⟨_, by rw [HF.out.1]; rfl, by rw [HF.out.2]; exact Fr.nil _ _⟩, HB0.out.trans (HB2.out.mono HB0.out.size)⟩
  | true =>
  have HF := Lib.hid (show se = 0 ∧ sl = CL.map leastI from by
    have h := HO.out.1
    simp at h
    exact ⟨h, by rw [HO.out.2, h]; simp⟩)
  have HR0 := Lib.hid (OwN.start w2)
  clear HO
  go_wp2_with fail
  go_loopw [11, 12] (fun ov iv wr => ∃ (i : Nat) (Ao : Option Addr) (no co : Nat), ov = .slice Ao no co ∧ iv = .int .i64 (i : Int) ∧ i ≤ ns ∧ OwN w2 ov ((CL.take i).map leastI) wr) (fun _ iv _ => ns - (intOf iv).toNat)
  case atStart => exact ⟨0, _, _, _, rfl, rfl, by omega, HR0.out⟩
  case round =>
    obtain ⟨i, Ao, no, co, rfl, rfl, hin, hI⟩ := hrel
    have HI := Lib.hid hI
    clear hI
    by_cases hlt : i < ns
    · obtain ⟨x, ad, hx, rfl, _, hcx⟩ := (HA.out.below HI.out.bel).at_ HLn.out.1 hlt
      obtain ⟨y, bd, hy, rfl, _, hcy⟩ := (HBy.out.below HI.out.bel).at_ HLn.out.2.1 hlt
      obtain ⟨z, hz⟩ : ∃ z, bits BinOp.and IntKind.i64 x y = z := ⟨_, rfl⟩
      have hQ : CL[i]? = some z := by rw [HGt.out i x y hx hy]; unfold meetF; rw [hz]
      have hz1 := HLn.out.2.2 i z hQ
      have hz0 : z ≠ 0 := of_decide_eq_true ((List.all_eq_true.1 HAl.out.symm) z (List.mem_of_getElem? hQ))
      obtain ⟨n, rfl⟩ : ∃ n : Nat, z = (n : Int) := ⟨z.toNat, by omega⟩
      have HLs := Lib.hid (fun X => rleast_any n X (by omega) (by omega))
      obtain ⟨t, ht⟩ : ∃ t : Int, ((tzN n : Nat) : Int) = t := ⟨_, rfl⟩
      rw [ht] at HLs
      have HP := Lib.hid (show (CL.take (i + 1)).map leastI = (CL.take i).map leastI ++ [t] from by
        rw [List.take_add_one, hQ, List.map_append]
        show _ = _ ++ [t]
        rw [← ht]
        simp [leastI])
      have HZa := Lib.hid hz
      have HCx := Lib.hid hcx
      have HCy := Lib.hid hcy
      have HLq := Lib.hid (show ((CL.take i).map leastI).length + [t].length ≤ 3000000 from by have := List.length_take_le i CL; simp; omega)
      clear hx hy hz hQ hz1 hz0 hcx hcy ht
      go_wp2_with fail
      refine wp_opaque ?_
      intro t0 ht0
      have hsz0 : t0.size = 48 := by rw [ht0]; rfl
      have q0 : t0.getD 11 undef = .slice Ao no co := by rw [ht0]; rfl
      have q1 : t0.getD 8 undef = .slice (some ad) ns cx := by rw [ht0]; rfl
      have q2 : t0.getD 12 undef = .int .i64 (i : Int) := by rw [ht0]; rfl
      have q3 : t0.getD 9 undef = .slice (some bd) ns cy := by rw [ht0]; rfl
      have HT0 := Lib.hid ht0
      clear ht0
      have HBd := Lib.hid (fun X (hI : Below wr.drew.heap.size wr.drew X) => (Below.refl wr.heap.size wr).drew.trans hI)
      refine wp_region_vals [some 34, some 35, some 36, some 37, some 38, some 39, some 40, some 41, some 42, some 43, some 44, some 45, some 46, some 11] (SaI wr.drew w2 ad bd (.slice Ao no co) i ns ns cx cy x y (n : Int) t ((CL.take i).map leastI ++ [t])) (by kernel_rfl) (by kernel_rfl) rfl rfl (by simp [hsz0]) (by kernel_rfl) ?_ ?_ ?_
      · intro val
        exact ⟨(fun h => nomatch h), (fun h => nomatch h), (fun h => nomatch h), (fun h => nomatch h), (fun h => nomatch h), (fun h => nomatch h), (fun h => nomatch h), (fun h => nomatch h), (fun h => nomatch h), (fun h => nomatch h), (fun h => nomatch h), fun _ => Below.refl _ _, (fun h => nomatch h), (fun h => nomatch h), (fun h => nomatch h)⟩
      · intro dn q o hi hd hp hc val X a ha hn' hI K hK
        have hq : q < 14 := by
          have := (Array.getElem?_eq_some_iff.1 hi).1
          simpa using this
        have cZ : dn 13 = true → dn 12 = true := fun h => hc 13 _ rfl h ⟨12, .data⟩ (by simp) rfl
        have cA : dn 12 = true → dn 0 = true ∧ dn 11 = true := fun h => ⟨hc 12 _ rfl h ⟨0, .data⟩ (by simp) rfl, hc 12 _ rfl h ⟨11, .data⟩ (by simp) rfl⟩
        have cB : dn 11 = true → dn 10 = true := fun h => hc 11 _ rfl h ⟨10, .data⟩ (by simp) rfl
        have cL : dn 10 = true → dn 9 = true := fun h => hc 10 _ rfl h ⟨9, .data⟩ (by simp) rfl
        have c9 : dn 9 = true → dn 4 = true ∧ dn 8 = true := fun h => ⟨hc 9 _ rfl h ⟨4, .data⟩ (by simp) rfl, hc 9 _ rfl h ⟨8, .data⟩ (by simp) rfl⟩
        have bf : ∀ {q : Bool}, (q = true → False) → q = false := fun {q} h => by cases q; rfl; exact (h rfl).elim
        have up : dn 12 = true → dn 9 = true := fun h => cL (cB (cA h).2)
        rcases (show q = 0 ∨ q = 1 ∨ q = 2 ∨ q = 3 ∨ q = 4 ∨ q = 5 ∨ q = 6 ∨ q = 7 ∨ q = 8 ∨ q = 9 ∨ q = 10 ∨ q = 11 ∨ q = 12 ∨ q = 13 by omega) with rfl | rfl | rfl | rfl | rfl | rfl | rfl | rfl | rfl | rfl | rfl | rfl | rfl | rfl
        · obtain rfl := Option.some.inj hi
          have nZ : dn 13 = false := bf fun h => f_t hd (cA (cZ h)).1
          exact opMove 11 _ rfl ((ha 11).trans ((hn' 13 11 nZ rfl).trans q0)) (hK _ _ hI.op0)
        · obtain rfl := Option.some.inj hi
          exact opMove 8 _ rfl ((ha 8).trans q1) (hK _ _ hI.op1)
        · obtain rfl := Option.some.inj hi
          exact opMove 12 _ rfl ((ha 12).trans q2) (hK _ _ hI.op2)
        · obtain rfl := Option.some.inj hi
          exact opIx 35 36 _ _ _ _ rfl ((ha 35).trans (hI.s1 (hp ⟨1, .data⟩ (by simp) rfl))) ((ha 36).trans (hI.s2 (hp ⟨2, .data⟩ (by simp) rfl))) hlt (hK _ _ hI.op3)
        · obtain rfl := Option.some.inj hi
          have nA : dn 12 = false := bf fun h => f_t hd (c9 (up h)).1
          exact opLd 37 _ _ rfl ((ha 37).trans (hI.s3 (hp ⟨3, .data⟩ (by simp) rfl))) (((HBd.out X (hI.bel nA)).cell (World.block_lt_of_cell? _ _ HCx.out)).trans HCx.out) (hK _ _ hI.op4)
        · obtain rfl := Option.some.inj hi
          exact opMove 9 _ rfl ((ha 9).trans q3) (hK _ _ hI.op5)
        · obtain rfl := Option.some.inj hi
          exact opMove 12 _ rfl ((ha 12).trans q2) (hK _ _ hI.op6)
        · obtain rfl := Option.some.inj hi
          exact opIx 39 40 _ _ _ _ rfl ((ha 39).trans (hI.s5 (hp ⟨5, .data⟩ (by simp) rfl))) ((ha 40).trans (hI.s6 (hp ⟨6, .data⟩ (by simp) rfl))) hlt (hK _ _ hI.op7)
        · obtain rfl := Option.some.inj hi
          have nA : dn 12 = false := bf fun h => f_t hd (c9 (up h)).2
          exact opLd 41 _ _ rfl ((ha 41).trans (hI.s7 (hp ⟨7, .data⟩ (by simp) rfl))) (((HBd.out X (hI.bel nA)).cell (World.block_lt_of_cell? _ _ HCy.out)).trans HCy.out) (hK _ _ hI.op8)
        · obtain rfl := Option.some.inj hi
          exact opAndI 38 42 _ _ _ HZa.out rfl ((ha 38).trans (hI.s4 (hp ⟨4, .data⟩ (by simp) rfl))) ((ha 42).trans (hI.s8 (hp ⟨8, .data⟩ (by simp) rfl))) (hK _ _ hI.op9)
        · obtain rfl := Option.some.inj hi
          exact opCallLs 43 _ rfl ((ha 43).trans (hI.s9 (hp ⟨9, .data⟩ (by simp) rfl))) (HLs.out X) (hK _ _ hI.op10)
        · obtain rfl := Option.some.inj hi
          have nA : dn 12 = false := bf fun h => f_t hd (cA h).2
          exact opBox 44 _ rfl ((ha 44).trans (hI.s10 (hp ⟨10, .data⟩ (by simp) rfl))) (hK _ _ (hI.op11 nA))
        · obtain rfl := Option.some.inj hi
          have nZ : dn 13 = false := bf fun h => f_t hd (cZ h)
          have yB := hp ⟨11, .data⟩ (by simp) rfl
          obtain ⟨g, eB, hg⟩ := hI.eB yB hd
          refine run_appN (.tmp 34) (.tmp 45) rfl (HI.out.step (HBd.out X (hI.bel hd))) ((ha 34).trans (hI.s0 (hp ⟨0, .data⟩ (by simp) rfl))) ((ha 45).trans eB) (box_sl hg) HLq.out ?_
          intro v' w' hO' _ _
          exact hK _ _ (hI.op12 nZ hO')
        · obtain rfl := Option.some.inj hi
          exact opAssign 46 _ rfl (ha 46) (hK _ _ (hI.op13 (hp ⟨12, .data⟩ (by simp) rfl)))
      · intro dn val X hdn hI
        have HR := Lib.hid (hI.eA (hdn 12 (by simp)))
        have hz := (hI.eZ (hdn 13 (by simp))).2
        simp only [wrS, HT0.out]
        simp only [List.setIfInBounds_toArray, List.set_cons_succ, List.set_cons_zero]
        rw [hz]
        (try simp only [Exit.then])
        obtain ⟨A6, n6, c6, e6⟩ := HR.out.slice
        rw [e6] at HR ⊢
        clear hdn hI hz e6 HT0 hsz0 q0 q1 q2 q3 HBd
        (try go_wp2_with fail)
        go_roundw
        case rel => exact ⟨i + 1, _, _, _, rfl, by go_num, by omega, by rw [HP.out]; exact HR.out⟩
        case measure => simp [intOf]; omega
    · obtain rfl : ns = i := by omega
      have HI2 := Lib.hid HI.out
      rw [show CL.take ns = CL from List.take_of_length_le (by have := HLc.out; omega), ← HF.out.2] at HI2
      go_wp2_with fail
      go_ret2
      exact ⟨⟨_, by rw [HF.out.1]; rfl, HI2.out.sl, fun g e => ⟨Nat.le_trans HB0.out.size (Nat.le_trans HB2.out.size (HI2.out.own.lt g e).1), (HI2.out.own.lt g e).2⟩⟩, HB0.out.trans ((HB2.out.trans (HI2.out.bel.mono HB2.out.size)).mono HB0.out.size)⟩
end Go.Proofs.YthfegbcbpeedbaaDoor
namespace Go.Ky
open Go.Nm
def bothE (m : Mx) (a b : List Int) : Int := if seenE m [a, b] = 0 then (if fitsF a b = true then 0 else 3) else seenE m [a, b]
def bothL (m : Mx) (a b : List Int) : List Int := if bothE m a b = 0 then List.zipWith meetF a b else []
theorem seen2 {m : Mx} {a b : List Int} (h : mxF m = true) : seenE m [a, b] = if setsF m.st a = true ∧ setsF m.st b = true then 0 else 32 := by
  rw [seenE_ok h]
  simp
theorem both_bad {m : Mx} {a b : List Int} (h : seenE m [a, b] ≠ 0) : bothE m a b = seenE m [a, b] ∧ bothL m a b = [] := by
  have h1 : bothE m a b = seenE m [a, b] := by unfold bothE; rw [if_neg h]
  exact ⟨h1, by unfold bothL; rw [h1, if_neg h]⟩
theorem both_no {m : Mx} {a b : List Int} (h : seenE m [a, b] = 0) (hf : fitsF a b = false) : bothE m a b = 3 ∧ bothL m a b = [] := by
  have h1 : bothE m a b = 3 := by unfold bothE; rw [if_pos h, hf]; rfl
  exact ⟨h1, by unfold bothL; rw [h1]; rfl⟩
theorem both_yes {m : Mx} {a b : List Int} (h : seenE m [a, b] = 0) (hf : fitsF a b = true) : bothE m a b = 0 ∧ bothL m a b = List.zipWith meetF a b := by
  have h1 : bothE m a b = 0 := by unfold bothE; rw [if_pos h, hf]; rfl
  exact ⟨h1, by unfold bothL; rw [h1]; rfl⟩
end Go.Ky
namespace Go.Proofs.YthfegbcbpeedbaaDoor
open Go.RowKit Go.Nm Go.Ky

set_option maxRecDepth 100000 in
set_option maxHeartbeats 8000000 in
theorem rBoth_any (v ua ub : Value) (m : Mx) (a b : List Int) (w : World) (hv : MxV w v m) (hs : MSm m) (hua : InSl w w.heap.size ua a) (hub : InSl w w.heap.size ub b) (hla : a.length ≤ 100000) (hlb : b.length ≤ 100000) :
    Calls Tryd.prog 31 #[v, ua, ub] w fun e w' => (∃ u, e = .returned (.tuple #[u, .int .i64 (bothE m a b)]) ∧ Fr w.heap.size w' u (bothL m a b)) ∧ Below w.heap.size w w' := by
  obtain ⟨A1, c1, A2, c2, W0, rfl, hW0, hb0, hM, hS, hR, hX⟩ := mx_box hv
  have HB0 := Lib.hid hb0
  have HW0 := Lib.hid hW0
  have HX := Lib.hid hX
  have hua0 := hua.step hb0
  have hub0 := hub.step hb0
  obtain ⟨Ax, cx, rfl, _⟩ := hua0.form
  obtain ⟨Ay, cy, rfl, _⟩ := hub0.form
  have HC := Lib.hid (rCheckMatrix_any _ m W0 (hM W0 (Below.refl _ _)) hs)
  have HSa := Lib.hid (fun (h : mxF m = true) Y (hb : Below W0.heap.size W0 Y) => rsets_any _ _ m.st a Y (hS Y hb) (hua0.step hb) (fun q hq => st_range h hq) (by have := hs.1; omega) (by omega))
  have HSb := Lib.hid (fun (h : mxF m = true) Y (hb : Below W0.heap.size W0 Y) => rsets_any _ _ m.st b Y (hS Y hb) (hub0.step hb) (fun q hq => st_range h hq) (by have := hs.1; omega) (by omega))
  have HMe := Lib.hid (fun (h : b.length = a.length) Y (hb : Below W0.heap.size W0 Y) => rmeet_any _ _ a b Y (hua0.step hb) (hub0.step hb) h (by omega))
  have HA := Lib.hid (show InA W0 W0.heap.size Ax a from by obtain ⟨_, _, e, _, _, h⟩ := hua0; cases e; exact h)
  have HBy := Lib.hid (show InA W0 W0.heap.size Ay b from by obtain ⟨_, _, e, _, _, h⟩ := hub0; cases e; exact h)
  have HSe := Lib.hid (fun h : mxF m = true => seen2 (a := a) (b := b) h)
  have HSn := Lib.hid (fun h : mxF m = false => seenE_bad (LL := [a, b]) h)
  have HBd := Lib.hid (fun h : seenE m [a, b] ≠ 0 => both_bad h)
  have HNo := Lib.hid (fun (h : seenE m [a, b] = 0) (hf : fitsF a b = false) => both_no h hf)
  have HYe := Lib.hid (fun (h : seenE m [a, b] = 0) (hf : fitsF a b = true) => both_yes h hf)
  have HLa := Lib.hid (fun (h : setsF m.st a = true) (h2 : setsF m.st b = true) => show b.length = a.length from (sets_len h2).trans (sets_len h).symm)
  obtain ⟨k0, k1⟩ := hX W0 (Below.refl _ _)
  have HCm := Lib.hid (show cmE m = (if mxF m = true then 0 else 30) from rfl)
  obtain ⟨be, hbe⟩ : ∃ x, bothE m a b = x := ⟨_, rfl⟩
  obtain ⟨bl, hbl⟩ : ∃ x, bothL m a b = x := ⟨_, rfl⟩
  obtain ⟨se, hse⟩ : ∃ x, seenE m [a, b] = x := ⟨_, rfl⟩
  rw [hbe, hbl, hse] at HBd HNo HYe
  rw [hse] at HSe HSn
  rw [hbe, hbl]
  obtain ⟨ce, hce⟩ : ∃ x, cmE m = x := ⟨_, rfl⟩
  rw [hce] at HC HCm
  generalize m.rows.length = nr at *
  obtain ⟨ns, hn⟩ : ∃ n, m.st.length = n := ⟨_, rfl⟩
  obtain ⟨na, hna⟩ : ∃ n, a.length = n := ⟨_, rfl⟩
  obtain ⟨nb, hnb⟩ : ∃ n, b.length = n := ⟨_, rfl⟩
  rw [hn] at HW0 HX HC HSa HSb k0
  rw [hna] at HSa HMe HLa hla
  rw [hnb] at HSb HMe HLa hlb
  rw [hn, hna, hnb]
  have HNa := Lib.hid (And.intro hna hnb)
  clear hv hs hua hub hua0 hub0 hW0 hb0 hM hS hR hX hbe hbl hse hce hn hna hnb
  go_enter Tryd.func31, Tryd.ntmps31
  go_wp2_with fail
  rw [HW0.out]
  (try go_wp2_with fail)
  (with_reducible refine HC.out.mono ?_)
  rintro e w1 ⟨rfl, hb⟩
  have HB1 := Lib.hid hb
  clear hb k0 k1 HC
  obtain ⟨k0, k1⟩ := HX.out w1 HB1.out
  cases hm : mxF m with
  | false =>
    have hce : ce = 30 := by rw [HCm.out, hm]; rfl
    subst hce
    have HF := Lib.hid (show be = 30 ∧ bl = [] from by
      have h := HSn.out hm
      subst h
      exact HBd.out (by decide))
    clear hm HCm
    go_wp2_with fail
    go_ret2
    exact ⟨⟨_, by rw [HF.out.1]; rfl, by rw [HF.out.2]; exact Fr.nil _ _⟩, HB0.out.trans (HB1.out.mono HB0.out.size)⟩
  | true =>
  have hce : ce = 0 := by rw [HCm.out, hm]; rfl
  subst hce
  have HS1 := Lib.hid (HSa.out hm w1 HB1.out)
  have HS2 := Lib.hid (HSb.out hm)
  have HSe1 := Lib.hid (HSe.out hm)
  clear hm HCm HSa HSb HSe HSn
  go_wp2_with fail
  (with_reducible refine HS1.out.mono ?_)
  rintro e w2 ⟨rfl, hb⟩
  have HB2 := Lib.hid (HB1.out.trans (hb.mono HB1.out.size))
  clear hb k0 k1 HS1
  obtain ⟨k0, k1⟩ := HX.out w2 HB2.out
  cases ha : setsF m.st a with
  | false =>
    have HF := Lib.hid (show be = 32 ∧ bl = [] from by
      have h := HSe1.out
      rw [ha] at h
      simp at h
      subst h
      exact HBd.out (by decide))
    clear ha
    go_wp2_with fail
    go_ret2
    exact ⟨⟨_, by rw [HF.out.1]; rfl, by rw [HF.out.2]; exact Fr.nil _ _⟩, HB0.out.trans (HB2.out.mono HB0.out.size)⟩
  | true =>
  have HS3 := Lib.hid (HS2.out w2 HB2.out)
  have HLb := Lib.hid (HLa.out ha)
  rw [ha] at HSe1
  clear ha HLa HS2
  go_wp2_with fail
  (with_reducible refine HS3.out.mono ?_)
  rintro e w3 ⟨rfl, hb⟩
  have HB3 := Lib.hid (HB2.out.trans (hb.mono HB2.out.size))
  clear hb k0 k1 HS3
  cases hb : setsF m.st b with
  | false =>
    have HF := Lib.hid (show be = 32 ∧ bl = [] from by
      have h := HSe1.out
      rw [hb] at h
      simp at h
      subst h
      exact HBd.out (by decide))
    clear hb
    go_wp2_with fail
    go_ret2
    exact ⟨⟨_, by rw [HF.out.1]; rfl, by rw [HF.out.2]; exact Fr.nil _ _⟩, HB0.out.trans (HB3.out.mono HB0.out.size)⟩
  | true =>
  have hnn := HLb.out hb
  subst hnn
  have HM1 := Lib.hid (HMe.out rfl w3 HB3.out)
  have HSz := Lib.hid (show se = 0 from by
    have h := HSe1.out
    rw [hb] at h
    simpa using h)
  clear hb HLb HMe HSe1
  go_wp2_with fail
  (with_reducible refine HM1.out.mono ?_)
  rintro e w4 ⟨rfl, hb⟩
  have HB4 := Lib.hid (HB3.out.trans (hb.mono HB3.out.size))
  clear hb HM1
  cases hf : fitsF a b with
  | false =>
    have HF := Lib.hid (show be = 3 ∧ bl = [] from HNo.out HSz.out hf)
    clear hf
    go_wp2_with fail
    go_ret2
    exact ⟨⟨_, by rw [HF.out.1]; rfl, by rw [HF.out.2]; exact Fr.nil _ _⟩, HB0.out.trans (HB4.out.mono HB0.out.size)⟩
  | true =>
  have HF := Lib.hid (show be = 0 ∧ bl = List.zipWith meetF a b from HYe.out HSz.out hf)
  have HGt := Lib.hid (fun (i : Nat) (x y : Int) (hx : a[i]? = some x) (hy : b[i]? = some y) => show (List.zipWith meetF a b)[i]? = some (meetF x y) from by rw [List.getElem?_zipWith, hx, hy])
  have HLc := Lib.hid (show (List.zipWith meetF a b).length ≤ nb from by rw [List.length_zipWith, HNa.out.1, HNa.out.2]; omega)
  have HAw := Lib.hid (show InA w4 w4.heap.size Ax a from (HA.out.below HB4.out).mono HB4.out.size)
  have HBw := Lib.hid (show InA w4 w4.heap.size Ay b from (HBy.out.below HB4.out).mono HB4.out.size)
  obtain ⟨CL, hCL⟩ : ∃ x, List.zipWith meetF a b = x := ⟨_, rfl⟩
  rw [hCL] at HF HGt HLc
  have HR0 := Lib.hid (OwN.start w4)
  clear hf hCL HBd HNo HYe
  go_wp2_with fail
  go_loopw [8, 9] (fun ov iv wr => ∃ (i : Nat) (Ao : Option Addr) (no co : Nat), ov = .slice Ao no co ∧ iv = .int .i64 (i : Int) ∧ i ≤ nb ∧ OwN w4 ov (CL.take i) wr) (fun _ iv _ => nb - (intOf iv).toNat)
  case atStart => exact ⟨0, _, _, _, rfl, rfl, by omega, HR0.out⟩
  case round =>
    obtain ⟨i, Ao, no, co, rfl, rfl, hin, hI⟩ := hrel
    have HI := Lib.hid hI
    clear hI
    by_cases hlt : i < nb
    · obtain ⟨x, ad, hx, rfl, _, hcx⟩ := (HAw.out.below HI.out.bel).at_ HNa.out.1 hlt
      obtain ⟨y, bd, hy, rfl, _, hcy⟩ := (HBw.out.below HI.out.bel).at_ HNa.out.2 hlt
      obtain ⟨z, hz⟩ : ∃ z, bits BinOp.and IntKind.i64 x y = z := ⟨_, rfl⟩
      have HP := Lib.hid (show CL.take (i + 1) = CL.take i ++ [z] from by
        rw [List.take_add_one, HGt.out i x y hx hy]
        unfold meetF
        rw [hz]
        rfl)
      have HZa := Lib.hid hz
      have HCx := Lib.hid hcx
      have HCy := Lib.hid hcy
      have HLq := Lib.hid (show (CL.take i).length + [z].length ≤ 3000000 from by have := List.length_take_le i CL; simp; omega)
      clear hx hy hz hcx hcy
      go_wp2_with fail
      refine wp_opaque ?_
      intro t0 ht0
      have hsz0 : t0.size = 48 := by rw [ht0]; rfl
      have q0 : t0.getD 8 undef = .slice Ao no co := by rw [ht0]; rfl
      have q1 : t0.getD 1 undef = .slice (some ad) nb cx := by rw [ht0]; rfl
      have q2 : t0.getD 9 undef = .int .i64 (i : Int) := by rw [ht0]; rfl
      have q3 : t0.getD 2 undef = .slice (some bd) nb cy := by rw [ht0]; rfl
      have HT0 := Lib.hid ht0
      clear ht0
      have HBd := Lib.hid (fun X (hI : Below wr.drew.heap.size wr.drew X) => (Below.refl wr.heap.size wr).drew.trans hI)
      refine wp_region_vals [some 35, some 36, some 37, some 38, some 39, some 40, some 41, some 42, some 43, some 44, some 45, some 46, some 8] (BoI wr.drew w4 ad bd (.slice Ao no co) i nb nb cx cy x y z z (CL.take i ++ [z])) (by kernel_rfl) (by kernel_rfl) rfl rfl (by simp [hsz0]) (by kernel_rfl) ?_ ?_ ?_
      · intro val
        exact ⟨(fun h => nomatch h), (fun h => nomatch h), (fun h => nomatch h), (fun h => nomatch h), (fun h => nomatch h), (fun h => nomatch h), (fun h => nomatch h), (fun h => nomatch h), (fun h => nomatch h), (fun h => nomatch h), fun _ => Below.refl _ _, (fun h => nomatch h), (fun h => nomatch h), (fun h => nomatch h)⟩
      · intro dn q o hi hd hp hc val X a ha hn' hI K hK
        have hq : q < 13 := by
          have := (Array.getElem?_eq_some_iff.1 hi).1
          simpa using this
        have cZ : dn 12 = true → dn 11 = true := fun h => hc 12 _ rfl h ⟨11, .data⟩ (by simp) rfl
        have cA : dn 11 = true → dn 0 = true ∧ dn 10 = true := fun h => ⟨hc 11 _ rfl h ⟨0, .data⟩ (by simp) rfl, hc 11 _ rfl h ⟨10, .data⟩ (by simp) rfl⟩
        have cB : dn 10 = true → dn 9 = true := fun h => hc 10 _ rfl h ⟨9, .data⟩ (by simp) rfl
        have c9 : dn 9 = true → dn 4 = true ∧ dn 8 = true := fun h => ⟨hc 9 _ rfl h ⟨4, .data⟩ (by simp) rfl, hc 9 _ rfl h ⟨8, .data⟩ (by simp) rfl⟩
        have bf : ∀ {q : Bool}, (q = true → False) → q = false := fun {q} h => by cases q; rfl; exact (h rfl).elim
        have up : dn 11 = true → dn 9 = true := fun h => cB (cA h).2
        rcases (show q = 0 ∨ q = 1 ∨ q = 2 ∨ q = 3 ∨ q = 4 ∨ q = 5 ∨ q = 6 ∨ q = 7 ∨ q = 8 ∨ q = 9 ∨ q = 10 ∨ q = 11 ∨ q = 12 by omega) with rfl | rfl | rfl | rfl | rfl | rfl | rfl | rfl | rfl | rfl | rfl | rfl | rfl
        · obtain rfl := Option.some.inj hi
          have nZ : dn 12 = false := bf fun h => f_t hd (cA (cZ h)).1
          exact opMove 8 _ rfl ((ha 8).trans ((hn' 12 8 nZ rfl).trans q0)) (hK _ _ hI.op0)
        · obtain rfl := Option.some.inj hi
          exact opMove 1 _ rfl ((ha 1).trans q1) (hK _ _ hI.op1)
        · obtain rfl := Option.some.inj hi
          exact opMove 9 _ rfl ((ha 9).trans q2) (hK _ _ hI.op2)
        · obtain rfl := Option.some.inj hi
          exact opIx 36 37 _ _ _ _ rfl ((ha 36).trans (hI.s1 (hp ⟨1, .data⟩ (by simp) rfl))) ((ha 37).trans (hI.s2 (hp ⟨2, .data⟩ (by simp) rfl))) hlt (hK _ _ hI.op3)
        · obtain rfl := Option.some.inj hi
          have nA : dn 11 = false := bf fun h => f_t hd (c9 (up h)).1
          exact opLd 38 _ _ rfl ((ha 38).trans (hI.s3 (hp ⟨3, .data⟩ (by simp) rfl))) (((HBd.out X (hI.bel nA)).cell (World.block_lt_of_cell? _ _ HCx.out)).trans HCx.out) (hK _ _ hI.op4)
        · obtain rfl := Option.some.inj hi
          exact opMove 2 _ rfl ((ha 2).trans q3) (hK _ _ hI.op5)
        · obtain rfl := Option.some.inj hi
          exact opMove 9 _ rfl ((ha 9).trans q2) (hK _ _ hI.op6)
        · obtain rfl := Option.some.inj hi
          exact opIx 40 41 _ _ _ _ rfl ((ha 40).trans (hI.s5 (hp ⟨5, .data⟩ (by simp) rfl))) ((ha 41).trans (hI.s6 (hp ⟨6, .data⟩ (by simp) rfl))) hlt (hK _ _ hI.op7)
        · obtain rfl := Option.some.inj hi
          have nA : dn 11 = false := bf fun h => f_t hd (c9 (up h)).2
          exact opLd 42 _ _ rfl ((ha 42).trans (hI.s7 (hp ⟨7, .data⟩ (by simp) rfl))) (((HBd.out X (hI.bel nA)).cell (World.block_lt_of_cell? _ _ HCy.out)).trans HCy.out) (hK _ _ hI.op8)
        · obtain rfl := Option.some.inj hi
          exact opAndI 39 43 _ _ _ HZa.out rfl ((ha 39).trans (hI.s4 (hp ⟨4, .data⟩ (by simp) rfl))) ((ha 43).trans (hI.s8 (hp ⟨8, .data⟩ (by simp) rfl))) (hK _ _ hI.op9)
        · obtain rfl := Option.some.inj hi
          have nA : dn 11 = false := bf fun h => f_t hd (cA h).2
          exact opBox 44 _ rfl ((ha 44).trans (hI.s9 (hp ⟨9, .data⟩ (by simp) rfl))) (hK _ _ (hI.op10 nA))
        · obtain rfl := Option.some.inj hi
          have nZ : dn 12 = false := bf fun h => f_t hd (cZ h)
          have yB := hp ⟨10, .data⟩ (by simp) rfl
          obtain ⟨g, eB, hg⟩ := hI.eB yB hd
          refine run_appN (.tmp 35) (.tmp 45) rfl (HI.out.step (HBd.out X (hI.bel hd))) ((ha 35).trans (hI.s0 (hp ⟨0, .data⟩ (by simp) rfl))) ((ha 45).trans eB) (box_sl hg) HLq.out ?_
          intro v' w' hO' _ _
          exact hK _ _ (hI.op11 nZ hO')
        · obtain rfl := Option.some.inj hi
          exact opAssign 46 _ rfl (ha 46) (hK _ _ (hI.op12 (hp ⟨11, .data⟩ (by simp) rfl)))
      · intro dn val X hdn hI
        have HR := Lib.hid (hI.eA (hdn 11 (by simp)))
        have hz := (hI.eZ (hdn 12 (by simp))).2
        simp only [wrS, HT0.out]
        simp only [List.setIfInBounds_toArray, List.set_cons_succ, List.set_cons_zero]
        rw [hz]
        (try simp only [Exit.then])
        obtain ⟨A6, n6, c6, e6⟩ := HR.out.slice
        rw [e6] at HR ⊢
        clear hdn hI hz e6 HT0 hsz0 q0 q1 q2 q3 HBd
        (try go_wp2_with fail)
        go_roundw
        case rel => exact ⟨i + 1, _, _, _, rfl, by go_num, by omega, by rw [HP.out]; exact HR.out⟩
        case measure => simp [intOf]; omega
    · obtain rfl : nb = i := by omega
      have HI2 := Lib.hid HI.out
      rw [show CL.take nb = CL from List.take_of_length_le HLc.out, ← HF.out.2] at HI2
      go_wp2_with fail
      go_ret2
      exact ⟨⟨_, by rw [HF.out.1]; rfl, HI2.out.sl, fun g e => ⟨Nat.le_trans HB0.out.size (Nat.le_trans HB4.out.size (HI2.out.own.lt g e).1), (HI2.out.own.lt g e).2⟩⟩, HB0.out.trans ((HB4.out.trans (HI2.out.bel.mono HB4.out.size)).mono HB0.out.size)⟩
end Go.Proofs.YthfegbcbpeedbaaDoor
