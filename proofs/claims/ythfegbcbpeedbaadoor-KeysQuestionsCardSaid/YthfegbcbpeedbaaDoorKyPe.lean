/- The reference: least. -/
import Derived.Test.YthfegbcbpeedbaaDoorKyPb
namespace Go.Proofs.YthfegbcbpeedbaaDoor
open Go.RowKit Go.Nm Go.Ky

set_option maxRecDepth 100000 in
set_option maxHeartbeats 8000000 in
theorem rtwo_any (v : Value) (m : Mx) (a b : Int) (w : World) (hv : MxV w v m) (hs : MSm m) :
    Calls Tryd.prog 80 #[v, .int .i64 a, .int .i64 b] w fun e w' =>
      ((comE m a b = 0 ∧ ∃ Ax cx Ay cy, e = .returned (.tuple #[.slice Ax (rowF m a).may.length cx, .slice Ay (rowF m b).may.length cy, .int .i64 0]) ∧ InSl w' w'.heap.size (.slice Ax (rowF m a).may.length cx) (rowF m a).may ∧ InSl w' w'.heap.size (.slice Ay (rowF m b).may.length cy) (rowF m b).may) ∨
        (comE m a b ≠ 0 ∧ e = .returned (.tuple #[.slice none 0 0, .slice none 0 0, .int .i64 (comE m a b)]))) ∧ Below w.heap.size w w' := by
  obtain ⟨A1, c1, A2, c2, W0, rfl, hW0, hb0, hM, hS, hR, hX⟩ := mx_box hv
  have HB0 := Lib.hid hb0
  have HW0 := Lib.hid hW0
  have HX := Lib.hid hX
  have HC := Lib.hid (rCheckMatrix_any _ m W0 (hM W0 (Below.refl _ _)) hs)
  have HAa := Lib.hid (fun Y (h : Below W0.heap.size W0 Y) => rat_any _ m a Y (hM Y h) hs)
  have HAb := Lib.hid (fun Y (h : Below W0.heap.size W0 Y) => rat_any _ m b Y (hM Y h) hs)
  have HRr := Lib.hid (hR W0 (Below.refl _ _))
  obtain ⟨k0, k1⟩ := hX W0 (Below.refl _ _)
  generalize m.st.length = ns at *
  obtain ⟨nr, hnr⟩ : ∃ n, m.rows.length = n := ⟨_, rfl⟩
  have hnr1 : nr ≤ 1000 := by have := hs.2.1; omega
  rw [hnr] at HC HW0 HX HAa HAb HRr k1 ⊢
  clear hv hs hW0 hb0 hM hS hR hX hnr
  cases hm : mxF m with
  | false =>
    have HF := Lib.hid (show cmE m = 30 ∧ comE m a b = 30 from ⟨by unfold cmE; simp [hm], by unfold comE rowE; simp [hm]⟩)
    rw [HF.out.1] at HC
    rw [HF.out.2]
    clear hm HF HAa HAb
    go_enter Tryd.func80, Tryd.ntmps80
    go_wp2_with fail
    rw [HW0.out]
    (try go_wp2_with fail)
    (with_reducible refine HC.out.mono ?_)
    rintro e w1 ⟨rfl, hb⟩
    have HB2 := Lib.hid (HB0.out.trans (hb.mono HB0.out.size))
    clear hb k0 k1
    go_wp2_with fail
    refine bodyPost_ret (v := .tuple #[.slice none 0 0, .slice none 0 0, .int .i64 30]) (by simp [results, Tryd.results80, go_sem]) rfl ?_
    exact ⟨.inr ⟨by decide, rfl⟩, HB2.out⟩
  | true =>
    have hE : ∀ nm, rowE m nm = (if (rowO m nm).isSome = true then 0 else 1) := fun nm => by unfold rowE; simp [hm]
    have hF : ∀ nm, rowF m nm = (rowO m nm).getD ⟨0, []⟩ := fun nm => by unfold rowF; simp [hm]
    have HF := Lib.hid (show cmE m = 0 from by unfold cmE; simp [hm])
    obtain ⟨oa, hoa⟩ : ∃ o, rowO m a = o := ⟨_, rfl⟩
    obtain ⟨ob, hob⟩ : ∃ o, rowO m b = o := ⟨_, rfl⟩
    have HCo := Lib.hid (show comE m a b = (if oa.isSome = true then (if ob.isSome = true then 0 else 1) else 1) from by
      unfold comE
      rw [hE, hE, hoa, hob]
      cases oa <;> cases ob <;> simp)
    rw [HF.out] at HC
    rw [hF a, hF b, hoa, hob]
    rw [hoa] at HAa
    rw [hob] at HAb
    obtain ⟨ce, hce⟩ : ∃ c, comE m a b = c := ⟨_, rfl⟩
    rw [hce] at HCo ⊢
    clear hm HF hE hF hoa hob hce
    go_enter Tryd.func80, Tryd.ntmps80
    go_wp2_with fail
    rw [HW0.out]
    (try go_wp2_with fail)
    (with_reducible refine HC.out.mono ?_)
    rintro e w1 ⟨rfl, hb⟩
    have HB2 := Lib.hid hb
    have HA1 := Lib.hid (HAa.out w1 hb)
    clear hb k0 k1 HC HAa
    obtain ⟨k0, k1⟩ := HX.out w1 HB2.out
    go_wp2_with fail
    (with_reducible refine HA1.out.mono ?_)
    rintro e w2 ⟨hcase, hb⟩
    have HB3 := Lib.hid (HB2.out.trans (hb.mono HB2.out.size))
    have HA2 := Lib.hid (HAb.out w2 HB3.out)
    clear hb k0 k1 HA1 HAb
    obtain ⟨k0, k1⟩ := HX.out w2 HB3.out
    rcases hcase with ⟨i, r, rfl, hri, hin, rfl⟩ | ⟨rfl, rfl⟩
    · have HRi := Lib.hid hri
      have hi0 : ¬ (i : Int) < 0 := by omega
      clear hri
      go_wp2_with fail
      (with_reducible refine HA2.out.mono ?_)
      rintro e w3 ⟨hcase, hb⟩
      have HB4 := Lib.hid (HB3.out.trans (hb.mono HB3.out.size))
      clear hb k0 k1 HA2
      rcases hcase with ⟨j, s, rfl, hrj, hjn, rfl⟩ | ⟨rfl, rfl⟩
      · have HRj := Lib.hid hrj
        have hj0 : ¬ (j : Int) < 0 := by omega
        clear hrj
        have HCe := Lib.hid (show ce = 0 from by rw [HCo.out]; rfl)
        obtain ⟨r', ad, Am, cm, hr', rfl, hY⟩ := HRr.out.at_ hin
        obtain ⟨s', ad', An, cn, hs', hA', hZ⟩ := HRr.out.at_ hjn
        obtain rfl := Option.some.inj hA'
        rw [HRi.out] at hr'; injection hr' with hr'; subst hr'
        rw [HRj.out] at hs'; injection hs' with hs'; subst hs'
        have HY := Lib.hid hY
        have HZ := Lib.hid hZ
        have ss := fun z : Wb w3 => And.intro (HX.out z.v (HB4.out.trans (z.h.mono HB4.out.size))) (And.intro (HY.out z.v (HB4.out.trans (z.h.mono HB4.out.size))).1 (HZ.out z.v (HB4.out.trans (z.h.mono HB4.out.size))).1)
        clear hY hZ HCo
        generalize hrl : r.may.length = rl at *
        generalize hsl : s.may.length = sl at *
        go_wp2_with fail
        refine wp_region_wb (by kernel_rfl) (by kernel_rfl) ?_; (repeat ((with_reducible refine wpQuiet_step ?_); intro K hK; go_simp; (try (refine ite_neg_of (by simp [undef]) ?_)); first | (with_reducible refine hK _ ?_; clear hK K) | (apply Exists.intro; (with_reducible refine ⟨fun _ => ?_, hK _ ?_⟩); (fail); clear hK K))); (with_reducible refine wpQuiet_nil ?_); rintro w1 ⟨⟨_, hb1⟩, rfl⟩; (try dsimp only)
        have HB5 := Lib.hid (HB4.out.trans (hb1.mono HB4.out.size))
        have HIy := Lib.hid (HY.out w1 HB5.out).2
        have HIz := Lib.hid (HZ.out w1 HB5.out).2
        clear ss hb1
        (try go_wp2_with fail)
        refine bodyPost_ret (v := .tuple #[.slice Am rl cm, .slice An sl cn, .int .i64 0]) (by simp [results, Tryd.results80, go_sem]) rfl ?_
        exact ⟨.inl ⟨HCe.out, Am, cm, An, cn, by simp [hrl, hsl], by simpa [hrl] using HIy.out, by simpa [hsl] using HIz.out⟩, HB0.out.trans (HB5.out.mono HB0.out.size)⟩
      · have HCe := Lib.hid (show ce = 1 from by rw [HCo.out]; rfl)
        clear HCo
        go_wp2_with fail
        refine bodyPost_ret (v := .tuple #[.slice none 0 0, .slice none 0 0, .int .i64 1]) (by simp [results, Tryd.results80, go_sem]) rfl ?_
        exact ⟨.inr ⟨by rw [HCe.out]; decide, by rw [HCe.out]⟩, HB0.out.trans (HB4.out.mono HB0.out.size)⟩
    · have HCe := Lib.hid (show ce = 1 from by rw [HCo.out]; rfl)
      clear HCo
      go_wp2_with fail
      (with_reducible refine HA2.out.mono ?_)
      rintro e w3 ⟨hcase, hb⟩
      have HB4 := Lib.hid (HB3.out.trans (hb.mono HB3.out.size))
      clear hb k0 k1 HA2
      rcases hcase with ⟨j, s, rfl, hrj, hjn, rfl⟩ | ⟨rfl, rfl⟩
      · clear hrj
        go_wp2_with fail
        refine bodyPost_ret (v := .tuple #[.slice none 0 0, .slice none 0 0, .int .i64 1]) (by simp [results, Tryd.results80, go_sem]) rfl ?_
        exact ⟨.inr ⟨by rw [HCe.out]; decide, by rw [HCe.out]⟩, HB0.out.trans (HB4.out.mono HB0.out.size)⟩
      · go_wp2_with fail
        refine bodyPost_ret (v := .tuple #[.slice none 0 0, .slice none 0 0, .int .i64 1]) (by simp [results, Tryd.results80, go_sem]) rfl ?_
        exact ⟨.inr ⟨by rw [HCe.out]; decide, by rw [HCe.out]⟩, HB0.out.trans (HB4.out.mono HB0.out.size)⟩
end Go.Proofs.YthfegbcbpeedbaaDoor
namespace Go.Proofs.YthfegbcbpeedbaaDoor
open Go.RowKit Go.Nm Go.Ky

theorem com_get {m : Mx} {a b : Int} {i : Nat} {x y : Int} (hx : (rowF m a).may[i]? = some x) (hy : (rowF m b).may[i]? = some y) : (comL m a b)[i]? = some (meetF x y) := by
  unfold comL
  rw [List.getElem?_zipWith, hx, hy]
set_option maxRecDepth 100000 in
set_option maxHeartbeats 8000000 in
theorem rTell_any (v : Value) (m : Mx) (a b : Int) (w : World) (hv : MxV w v m) (hs : MSm m) :
    Calls Tryd.prog 35 #[v, .int .i64 a, .int .i64 b] w fun e w' => (∃ u, e = .returned (.tuple #[u, .int .i64 (comE m a b)]) ∧ Fr w.heap.size w' u (tellL m a b)) ∧ Below w.heap.size w w' := by
  obtain ⟨A1, c1, A2, c2, W0, rfl, hW0, hb0, hM, hS, hR, hX⟩ := mx_box hv
  have HB0 := Lib.hid hb0
  have HW0 := Lib.hid hW0
  obtain ⟨k0, k1⟩ := hX W0 (Below.refl _ _)
  have HC := Lib.hid (rtwo_any _ m a b W0 (hM W0 (Below.refl _ _)) hs)
  have HO := Lib.hid (show tellL m a b = (if comE m a b = 0 then tlT (comL m a b) m.st.length else []) from rfl)
  have HOk := Lib.hid (fun h : comE m a b = 0 => And.intro (com_ok h).2.2.2.1 (com_ok h).2.2.2.2.1)
  have HGt := Lib.hid (fun (i : Nat) (x y : Int) (hx : (rowF m a).may[i]? = some x) (hy : (rowF m b).may[i]? = some y) => com_get hx hy)
  have hns : m.st.length ≤ 1000 := hs.1
  have HCe := Lib.hid (com_cases m a b)
  obtain ⟨ce, hce⟩ : ∃ r, comE m a b = r := ⟨_, rfl⟩
  obtain ⟨CL, hCL⟩ : ∃ r, comL m a b = r := ⟨_, rfl⟩
  obtain ⟨tl, htl⟩ : ∃ r, tellL m a b = r := ⟨_, rfl⟩
  obtain ⟨ra, hra⟩ : ∃ r, (rowF m a).may = r := ⟨_, rfl⟩
  obtain ⟨rb, hrb⟩ : ∃ r, (rowF m b).may = r := ⟨_, rfl⟩
  rw [hce, hra, hrb] at HC HOk
  rw [hce] at HCe
  rw [hra, hrb, hCL] at HGt
  rw [hce, hCL, htl] at HO
  rw [hce, htl]
  generalize m.rows.length = nr at *
  obtain ⟨ns, hn⟩ : ∃ n, m.st.length = n := ⟨_, rfl⟩
  rw [hn] at HW0 HC HOk HO k0 hns
  rw [hn]
  clear hv hs hW0 hb0 hM hS hR hX hce hCL htl hra hrb hn
  go_enter Tryd.func35, Tryd.ntmps35
  go_wp2_with fail
  rw [HW0.out]
  (try go_wp2_with fail)
  (with_reducible refine HC.out.mono ?_)
  rintro e w1 ⟨hcase, hb⟩
  have HB1 := Lib.hid hb
  clear hb k0 k1 HC
  rcases hcase with ⟨rfl, Ax, cx, Ay, cy, rfl, hx, hy⟩ | ⟨hne, rfl⟩
  case inr =>
    have HF := Lib.hid (show tl = [] from by rw [HO.out, if_neg hne])
    rcases HCe.out with rfl | rfl | rfl
    · exact absurd rfl hne
    · clear hne
      go_wp2_with fail
      go_ret2
      exact ⟨⟨_, rfl, by rw [HF.out]; exact Fr.nil _ _⟩, HB0.out.trans (HB1.out.mono HB0.out.size)⟩
    · clear hne
      go_wp2_with fail
      go_ret2
      exact ⟨⟨_, rfl, by rw [HF.out]; exact Fr.nil _ _⟩, HB0.out.trans (HB1.out.mono HB0.out.size)⟩
  case inl =>
  have HLn := Lib.hid (HOk.out rfl)
  have HE := Lib.hid (show tl = tlT CL ns from by rw [HO.out, if_pos rfl])
  have HA := Lib.hid (show InA w1 w1.heap.size Ax ra from by obtain ⟨_, _, e, _, _, h⟩ := hx; cases e; exact h)
  have HBy := Lib.hid (show InA w1 w1.heap.size Ay rb from by obtain ⟨_, _, e, _, _, h⟩ := hy; cases e; exact h)
  have HR0 := Lib.hid (OwN.start w1)
  rw [HLn.out.1, HLn.out.2]
  clear hx hy HO HOk HCe
  go_wp2_with fail
  go_loopw [11, 12] (fun ov iv wr => ∃ (i : Nat) (Ao : Option Addr) (no co : Nat), ov = .slice Ao no co ∧ iv = .int .i64 (i : Int) ∧ i ≤ ns ∧ OwN w1 ov (tlT CL i) wr) (fun _ iv _ => ns - (intOf iv).toNat)
  case atStart => exact ⟨0, _, _, _, rfl, rfl, by omega, HR0.out⟩
  case round =>
    obtain ⟨i, Ao, no, co, rfl, rfl, hin, hI⟩ := hrel
    have HI := Lib.hid hI
    clear hI
    by_cases hlt : i < ns
    · obtain ⟨x, ad, hx, rfl, _, hcx⟩ := (HA.out.below HI.out.bel).at_ HLn.out.1 hlt
      obtain ⟨y, bd, hy, rfl, _, hcy⟩ := (HBy.out.below HI.out.bel).at_ HLn.out.2 hlt
      have HQ := Lib.hid (HGt.out i x y hx hy)
      obtain ⟨z, hz⟩ : ∃ z, bits BinOp.and IntKind.i64 x y = z := ⟨_, rfl⟩
      have HZ := Lib.hid (show CL[i]? = some z from by rw [HQ.out]; unfold meetF; rw [hz])
      have HLq := Lib.hid (show (tlT CL i).length + [(i : Int)].length ≤ 3000000 from by have := tlT_len CL i; simp; omega)
      have ss := fun z => And.intro (Wb.cell hcx z) (Wb.cell hcy z)
      clear hx hy
      by_cases h0 : z = 0
      · subst h0
        have HP := Lib.hid (tlT_yes HZ.out)
        go_wp2_with fail
        refine wp_region_wb (by kernel_rfl) (by kernel_rfl) ?_; (repeat ((with_reducible refine wpQuiet_step ?_); intro K hK; go_simp; (try (refine ite_neg_of (by simp [undef]) ?_)); first | (with_reducible refine hK _ ?_; clear hK K) | (apply Exists.intro; (with_reducible refine ⟨fun _ => ?_, hK _ ?_⟩); (fail); clear hK K))); (with_reducible refine wpQuiet_nil ?_); rintro w1 ⟨⟨_, hb1⟩, rfl⟩; (try dsimp only)
        have HI3 := Lib.hid (HI.out.step hb1)
        clear hb1 ss
        go_wp2_with (at_builtin; refine wpList_appN rfl _ _ rfl (HI3.out.step (below_new _)) rfl rfl (box_sl (y := (i : Int)) (World.alloc_heap_new _ _)) HLq.out ?_; intro v6 w6 hI6 _; obtain ⟨A6, n6, c6, e6⟩ := hI6.slice; subst e6; have HI6 := Lib.hid hI6; clear hI6)
        go_roundw
        case rel => exact ⟨i + 1, _, _, _, rfl, by go_num, by omega, by rw [HP.out]; exact HI6.out⟩
        case measure => simp [intOf]; omega
      · have HP := Lib.hid (tlT_no HZ.out h0)
        go_wp2_with fail
        refine wp_region_wb (by kernel_rfl) (by kernel_rfl) ?_; (repeat ((with_reducible refine wpQuiet_step ?_); intro K hK; go_simp; (try (refine ite_neg_of (by simp [undef]) ?_)); first | (with_reducible refine hK _ ?_; clear hK K) | (apply Exists.intro; (with_reducible refine ⟨fun _ => ?_, hK _ ?_⟩); (fail); clear hK K))); (with_reducible refine wpQuiet_nil ?_); rintro w1 ⟨⟨_, hb1⟩, rfl⟩; (try dsimp only)
        have HI3 := Lib.hid (HI.out.step hb1)
        clear hb1 ss
        go_wp2_with fail
        go_roundw
        case rel => exact ⟨i + 1, _, _, _, rfl, by go_num, by omega, by rw [HP.out]; exact HI3.out⟩
        case measure => simp [intOf]; omega
    · obtain rfl : ns = i := by omega
      have HI2 := Lib.hid HI.out
      rw [← HE.out] at HI2
      go_wp2_with fail
      go_ret2
      exact ⟨⟨_, rfl, HI2.out.sl, fun g e => ⟨Nat.le_trans HB0.out.size (Nat.le_trans HB1.out.size (HI2.out.own.lt g e).1), (HI2.out.own.lt g e).2⟩⟩, HB0.out.trans ((HB1.out.trans (HI2.out.bel.mono HB1.out.size)).mono HB0.out.size)⟩
end Go.Proofs.YthfegbcbpeedbaaDoor
namespace Go.Ky
theorem tz_low {x i : Nat} (h0 : 0 < x) (h : x < 65536) (hi : i < tzN x) : x / 2 ^ i % 2 = 0 := by
  have h1 := (tz_ok h0 h).2.2
  obtain ⟨t, ht⟩ : ∃ t, tzN x = t := ⟨_, rfl⟩
  rw [ht] at h1 hi
  obtain ⟨q, hq⟩ := Nat.dvd_of_mod_eq_zero h1
  obtain ⟨d, rfl⟩ : ∃ d, t = i + 1 + d := ⟨t - (i + 1), by omega⟩
  have e : x = 2 ^ i * (2 * (2 ^ d * q)) := by
    conv => lhs; rw [hq, Nat.pow_add, Nat.pow_succ]
    simp only [Nat.mul_assoc]
  rw [e, Nat.mul_div_cancel_left _ (Nat.two_pow_pos i)]
  exact Nat.mul_mod_right 2 _
theorem tz_one {x : Nat} (h0 : 0 < x) (h : x < 65536) : x / 2 ^ tzN x % 2 = 1 := by
  have h1 := (tz_ok h0 h).2.1
  rw [Nat.testBit_eq_decide_div_mod_eq] at h1
  exact of_decide_eq_true h1
end Go.Ky
namespace Go.Proofs.YthfegbcbpeedbaaDoor
open Go.RowKit Go.Nm Go.Ky

set_option maxRecDepth 100000 in
set_option maxHeartbeats 4000000 in
theorem rleast_any (x : Nat) (w : World) (h0 : 0 < x) (hx : x < 65536) :
    Calls Tryd.prog 81 #[.int .i64 (x : Int)] w fun e w' => e = .returned (.int .i64 ((tzN x : Nat) : Int)) ∧ w = w' := by
  have HL := Lib.hid (fun i (hi : i < tzN x) => tz_low h0 hx hi)
  have HO := Lib.hid (tz_one h0 hx)
  have ht := (tz_ok h0 hx).1
  obtain ⟨t, e⟩ : ∃ t, tzN x = t := ⟨_, rfl⟩
  rw [e] at HL HO ht ⊢
  clear e
  go_enter Tryd.func81, Tryd.ntmps81
  go_wp2_with fail
  go_loopw [3] (fun iv wr => ∃ i : Nat, iv = .int .i64 (i : Int) ∧ i ≤ t ∧ w = wr) (fun iv _ => t - (intOf iv).toNat)
  case atStart => exact ⟨0, rfl, by omega, rfl⟩
  case round =>
    obtain ⟨i, rfl, hin, rfl⟩ := hrel
    obtain ⟨q, hq⟩ : ∃ q, x / 2 ^ i = q := ⟨_, rfl⟩
    have hqi : (x : Int) / 2 ^ i = (q : Int) := by rw [← hq]; simp
    have hi0 : ¬ (i : Int) < 0 := by omega
    have hi64 : i < 64 := by omega
    by_cases hlt : i < t
    · have hr := HL.out i hlt
      rw [hq] at hr
      have hrm : (q : Int) % 2 = 0 := by omega
      have hrt : Int.tmod (q : Int) 2 = 0 := by rw [Int.tmod_eq_emod_of_nonneg (by omega)]; exact hrm
      clear hq hr
      go_wp2_with fail
      go_roundw
      case rel => exact ⟨i + 1, by go_num, by omega, by first | trivial | rfl⟩
      case measure => simp [intOf]; omega
    · obtain rfl : t = i := by omega
      have hr := HO.out
      rw [hq] at hr
      have hrm : (q : Int) % 2 = 1 := by omega
      have hrt : Int.tmod (q : Int) 2 = 1 := by rw [Int.tmod_eq_emod_of_nonneg (by omega)]; exact hrm
      clear hq hr
      go_wp2_with fail
      go_ret
      exact ⟨rfl, rfl⟩
end Go.Proofs.YthfegbcbpeedbaaDoor
