/- Depth of the reference. -/
import Derived.Test.YthfegbcbpeedbaaGreatDoorKzA
import Derived.Test.YthfegbcbpeedbaaGreatDoorKyDp
namespace Go.Ky
open Go.Nm
open Go.Proofs.YthfegbcbpeedbaaGreatDoor (updP)
theorem dq_start {f : Int → Int} {i : Nat} {r : Rw} : updP (fun j : Nat => f (j : Int)) i 1 = fun j : Nat => dqN i r f 0 (j : Int) := by
  funext j
  show (if j = i then 1 else f (j : Int)) = if (j : Int) = (i : Int) then 1 else f (j : Int)
  by_cases h : j = i
  · subst h; rw [if_pos rfl, if_pos rfl]
  · rw [if_neg h, if_neg (by omega)]
theorem dq_put {f : Int → Int} {i s : Nat} {r : Rw} {x : Int} (h : r.may[s]? = some x) (h0 : 0 ≤ x) : updP (fun j : Nat => dqN i r f s (j : Int)) i (max (dqN i r f s i) (1 + dqN i r f s x)) = fun j : Nat => dqN i r f (s + 1) (j : Int) := by
  rw [dq_next h]
  funext j
  unfold dqS
  rw [if_pos h0]
  show (if j = i then _ else _) = if (j : Int) = (i : Int) then _ else _
  by_cases h : j = i
  · subst h; rw [if_pos rfl, if_pos rfl]
  · rw [if_neg h, if_neg (by omega)]
theorem dq_skip {f : Int → Int} {i s : Nat} {r : Rw} {x : Int} (h : r.may[s]? = some x) (h0 : ¬ 0 ≤ x) : dqN i r f (s + 1) = dqN i r f s := by
  rw [dq_next h]
  unfold dqS
  rw [if_neg h0]
theorem dq_bd {nd : List Rw} {t i : Nat} {r : Rw} (hi : i + t + 1 = nd.length) (hx : ∀ x ∈ r.may, 0 ≤ x → (i : Int) < x) (hb : ∀ r ∈ nd, r.may.length ≤ 1000) {j : Nat} (hj : j ≤ r.may.length) (k : Int) : 0 ≤ dqN i r (dpM nd t) j k ∧ dqN i r (dpM nd t) j k ≤ (t : Int) * 1000 + j + 1 := by
  have h0 := dpM_bd hb t (by omega)
  rw [dq_dp (dpM_low t (by omega) _ (by omega)) (fun z hz => dpM_low t (by omega) z (by omega)) hx _ hj]
  have h1 := dpN_bd (i := i) (r := r) h0 (by omega) j
  have h2 := h1 k
  have h3 := h1 i
  show 0 ≤ (if k = (i : Int) then _ else _) ∧ (if k = (i : Int) then _ else _) ≤ _
  split <;> omega
end Go.Ky
namespace Go.Proofs.YthfegbcbpeedbaaGreatDoor
open Go.RowKit Go.Nm Go.Ky Go.Maps

set_option maxRecDepth 100000 in
set_option maxHeartbeats 16000000 in
theorem rDepth_any (v u : Value) (m : Mx) (k : Kx) (w : World) (hv : MxV w v m) (hs : MSm m) (hu : KyV w u k) (hk : KSm k) :
    Calls Tryz.prog 14 #[v, u] w fun e w' => e = .returned (.tuple #[.int .i64 (depC m k), .int .i64 (ckE m k)]) ∧ Below w.heap.size w w' := by
  obtain ⟨A1, c1, A2, c2, W0, rfl, hW0, hb0, hM, hS, hR, hX⟩ := mx_box hv
  have hz : W0.heap.size = w.heap.size + 1 := by rw [← hW0]; simp
  obtain ⟨B1, d1, B2, d2, W1, rfl, hW1, hb1, hK, hNd, hV, hX1⟩ := ky_box (hu.step hb0)
  rw [hz] at hX1
  have HW := Lib.hid (And.intro hW0 hW1)
  have hB1 := hb0.trans (hb1.mono hb0.size)
  have HB1 := Lib.hid hB1
  have HX := Lib.hid (fun Y (h : Below W1.heap.size W1 Y) => And.intro (hX Y (hb1.trans (h.mono hb1.size))) (hX1 Y h))
  have HC := Lib.hid (rCheckKey_any _ _ m k W1 (hM W1 hb1) hs (hK W1 (Below.refl _ _)) hk)
  have HNd := Lib.hid hNd
  have HCk := Lib.hid (ck_cases m k)
  have HOk := Lib.hid (fun h : ckE m k = 0 => (ck_ok h).2.2)
  have HE := Lib.hid (show depC m k = (if ckE m k = 0 then dpM k.nd k.nd.length 0 else 0) from rfl)
  have HSm := Lib.hid hk.2.2.1
  obtain ⟨ce, hce⟩ : ∃ c, ckE m k = c := ⟨_, rfl⟩
  obtain ⟨dc, hdc⟩ : ∃ c, depC m k = c := ⟨_, rfl⟩
  rw [hce] at HC HE HCk HOk
  rw [hdc] at HE
  rw [hdc, hce]
  obtain ⟨nn, hnn⟩ : ∃ n, k.nd.length = n := ⟨_, rfl⟩
  have HN := Lib.hid hnn
  rw [hnn] at HX HW HC HNd HE
  rw [hnn]
  obtain ⟨⟨k0, k1⟩, k2, k3⟩ := HX.out W1 (Below.refl _ _)
  generalize k.lv.length = nl at *
  generalize m.rows.length = nr at *
  generalize m.st.length = ns at *
  clear hv hu hs hk hW0 hb0 hM hS hR hX hz hW1 hb1 hK hNd hV hX1 hce hdc hB1 hnn
  go_enter Tryz.func14, Tryz.ntmps14
  go_wp2_with fail
  rw [HW.out.1, HW.out.2]
  (try go_wp2_with fail)
  (with_reducible refine HC.out.mono ?_)
  rintro e y1 ⟨rfl, hb⟩
  have HB2 := Lib.hid hb
  clear k0 k1 k2 k3 HC hb
  obtain ⟨⟨k0, k1⟩, k2, k3⟩ := HX.out y1 HB2.out
  rcases HCk.out with h0 | h0 | h0
  rotate_left
  · subst h0
    have HF := Lib.hid (show dc = 0 from by rw [HE.out]; simp)
    go_wp2_with fail
    go_ret2
    exact ⟨by rw [HF.out]; rfl, HB1.out.trans (HB2.out.mono HB1.out.size)⟩
  · subst h0
    have HF := Lib.hid (show dc = 0 from by rw [HE.out]; simp)
    go_wp2_with fail
    go_ret2
    exact ⟨by rw [HF.out]; rfl, HB1.out.trans (HB2.out.mono HB1.out.size)⟩
  subst h0
  have HF := Lib.hid (show dc = dpM k.nd nn 0 from by rw [HE.out]; simp)
  have HOk2 := Lib.hid (HOk.out rfl)
  have hn1 : nn ≤ 1000 := by have := HOk2.out.nn; have := HN.out; omega
  clear HE HCk HOk
  have hwn : IntKind.i64.wrap ((nn : Int) + 1) = ((nn + 1 : Nat) : Int) := by rw [IntKind.wrap_i64]; omega
  obtain ⟨zn, hzn⟩ : ∃ zn, (nn : Int) - 1 = zn := ⟨_, rfl⟩
  have hwm : IntKind.i64.wrap ((nn : Int) - 1) = zn := by rw [IntKind.wrap_i64]; omega
  have HZn := Lib.hid hzn
  clear hzn
  go_wp2_with (refine wpList_make_ints rfl _ _ rfl (nn + 1) rfl rfl (by omega) ?_; intro cs hcs1 hcs2; have HI0 := Lib.hid (IwI.start (W := y1) hcs1 hcs2); clear hcs1 hcs2 k0 k1 k2 k3; obtain ⟨V, hV⟩ : ∃ V, y1.alloc (.cells cs 3) = V := ⟨_, rfl⟩; rw [hV] at HI0 ⊢; obtain ⟨⟨k0, k1⟩, k2, k3⟩ := HX.out V (HB2.out.trans (HI0.out.bel.mono HB2.out.size)); clear hV)
  obtain ⟨gw, hgw⟩ : ∃ g, y1.heap.size = g := ⟨_, rfl⟩
  have HIa := Lib.hid (show IwI y1 gw (nn + 1) (fun x => dpM k.nd (nn - nn) (x : Int)) V from by rw [← hgw, Nat.sub_self]; exact HI0.out)
  rw [hgw]
  clear HI0 k0 k1 k2 k3 hgw
  go_loopw [8, 9] (fun iv _ wr => ∃ (j : Nat) (z : Int), iv = .int .i64 z ∧ z = (j : Int) - 1 ∧ j ≤ nn ∧ IwI y1 gw (nn + 1) (fun x => dpM k.nd (nn - j) (x : Int)) wr) (fun iv _ _ => (intOf iv + 1).toNat)
  case atStart => exact ⟨nn, zn, rfl, HZn.out.symm, by omega, HIa.out⟩
  case round =>
    clear HIa
    obtain ⟨j, z, rfl, hzj, hjn, hI⟩ := hrel
    have HI := Lib.hid hI
    clear hI
    cases j with
    | zero =>
      have hz0 : ¬ 0 ≤ z := by omega
      have hz1 : z < 0 := by omega
      have c0 := HI.out.cell (k := 0) (by omega)
      have HF2 := Lib.hid (show dc = dpM k.nd (nn - 0) ((0 : Nat) : Int) from HF.out)
      go_wp2_with fail
      go_ret2
      exact ⟨by rw [HF2.out]; rfl, HB1.out.trans ((HB2.out.trans (HI.out.bel.mono HB2.out.size)).mono HB1.out.size)⟩
    | succ i =>
      obtain rfl : z = (i : Int) := by omega
      clear hzj
      have hin : i < nn := by omega
      have hin1 : i < nn + 1 := by omega
      have his : (i : Int) < ((nn + 1 : Nat) : Int) := by omega
      have his2 : (i : Int) < (nn : Int) := by omega
      have his3 : (i : Int) < (nn : Int) + 1 := by omega
      have hi0 : ¬ (i : Int) < 0 := by omega
      have hi1 : (0 : Int) ≤ (i : Int) := by omega
      obtain ⟨t, ht⟩ : ∃ t, nn - (i + 1) = t := ⟨_, rfl⟩
      have HTe := Lib.hid (show nn - i = t + 1 from by omega)
      rw [ht] at HI
      have htn : i + t + 1 = nn := by omega
      obtain ⟨r, ad, Am, cm, hr, rfl, hY⟩ := (HNd.out W1 (Below.refl _ _)).at_ hin
      obtain ⟨hc0, hc1, hql, hall⟩ := HOk2.out.nd i r hr
      have hq0 : 1 ≤ r.may.length := by
        have h1 : r.nm.toNat < m.st.length := by omega
        have h2 := HOk2.out.sv r.nm.toNat _ (List.getElem?_eq_getElem h1)
        rw [List.getD_eq_getElem?_getD, List.getElem?_eq_getElem h1, Option.getD_some] at hql
        omega
      have HGt := Lib.hid (fun x (h : x ∈ r.may) (h0 : 0 ≤ x) => (hall x h).2.2 h0)
      have HLt := Lib.hid (fun x (h : x ∈ r.may) => (hall x h).2.1)
      have HSt := Lib.hid (dq_all (by rw [HN.out]; exact htn) hr hq0 HGt.out HSm.out)
      have HBd := Lib.hid (fun (s : Nat) (h : s ≤ r.may.length) (x : Int) => dq_bd (nd := k.nd) (t := t) (i := i) (r := r) (by rw [HN.out]; exact htn) HGt.out HSm.out h x)
      have hqs : r.may.length ≤ 1000 := HSm.out r (List.mem_of_getElem? hr)
      have HY := Lib.hid (fun Y (h : Below W1.heap.size W1 Y) => hY Y h)
      have hset := HI.out.set i 1
      rw [dq_start (r := r)] at hset
      have HBw := Lib.hid (HB2.out.trans (HI.out.bel.mono HB2.out.size))
      have cf := HI.out.froz i
      have cl := HI.out.cell hin1
      obtain ⟨q, hq⟩ : ∃ q, r.may.length = q := ⟨_, rfl⟩
      have HQ := Lib.hid hq
      rw [hq] at HSt HBd hqs
      obtain ⟨V2, hV2⟩ : ∃ V, wr.setCell ⟨gw, i, none⟩ (.int .i64 1) = V := ⟨_, rfl⟩
      have HV2 := Lib.hid hV2
      rw [hV2] at hset
      have HK0 := Lib.hid hset
      clear hset hV2 hr hY hall hc0 hc1 hql hq0 hq ht
      obtain ⟨⟨k0, k1⟩, k2, k3⟩ := HX.out wr HBw.out
      obtain ⟨zi, hzi⟩ : ∃ zi, (i : Int) - 1 = zi := ⟨_, rfl⟩
      have hwm : IntKind.i64.wrap ((i : Int) - 1) = zi := by rw [IntKind.wrap_i64]; omega
      have HZi := Lib.hid hzi
      clear hzi
      go_wp2_with fail
      rw [HV2.out]
      go_loopw [9] (fun sv wr => ∃ s : Nat, sv = .int .i64 (s : Int) ∧ s ≤ q ∧ IwI y1 gw (nn + 1) (fun x => dqN i r (dpM k.nd t) s (x : Int)) wr) (fun sv _ => q - (intOf sv).toNat)
      case atStart => exact ⟨0, rfl, by omega, HK0.out⟩
      case round =>
        obtain ⟨s, rfl, hsq, hK⟩ := hrel
        have HK := Lib.hid hK
        clear hK k0 k1 k2 k3 cf cl
        have HBs := Lib.hid (HB2.out.trans (HK.out.bel.mono HB2.out.size))
        obtain ⟨⟨k0, k1⟩, k2, k3⟩ := HX.out wr HBs.out
        obtain ⟨⟨n0, n1⟩, hmy⟩ := HY.out wr HBs.out
        rw [HQ.out] at n1 hmy
        have HMy := Lib.hid hmy
        clear hmy
        by_cases hlt : s < q
        · obtain ⟨x, bd, hx, rfl, _, hcx⟩ := (show InA wr wr.heap.size Am r.may from by obtain ⟨_, _, e, _, _, h⟩ := HMy.out; cases e; exact h).at_ HQ.out hlt
          have hss : (s : Int) < (q : Int) := by omega
          have hs0 : ¬ (s : Int) < 0 := by omega
          have HXx := Lib.hid hx
          have hxn := HLt.out x (List.mem_of_getElem? hx)
          rw [HN.out] at hxn
          clear hx
          by_cases h0 : 0 ≤ x
          · obtain ⟨y, rfl⟩ : ∃ y : Nat, x = (y : Int) := ⟨x.toNat, by omega⟩
            have hyn : y < nn + 1 := by omega
            have hys : (y : Int) < ((nn + 1 : Nat) : Int) := by omega
            have hy0 : ¬ (y : Int) < 0 := by omega
            have hys3 : (y : Int) < (nn : Int) + 1 := by omega
            have cy := HK.out.cell hyn
            have ci := HK.out.cell hin1
            have cf := HK.out.froz i
            have b1 := HBd.out s (by omega) (y : Int)
            have b2 := HBd.out s (by omega) (i : Int)
            have HPu := Lib.hid (dq_put (f := dpM k.nd t) (i := i) HXx.out h0)
            obtain ⟨dy, hdy⟩ : ∃ d, dqN i r (dpM k.nd t) s (y : Int) = d := ⟨_, rfl⟩
            obtain ⟨di, hdi⟩ : ∃ d, dqN i r (dpM k.nd t) s (i : Int) = d := ⟨_, rfl⟩
            rw [hdy] at b1 cy HPu
            rw [hdi] at b2 ci HPu
            have hwy : IntKind.i64.wrap (1 + dy) = 1 + dy := by rw [IntKind.wrap_i64]; omega
            have hset := HK.out.set i (max di (1 + dy))
            rw [HPu.out, show max di (1 + dy) = (if di < 1 + dy then 1 + dy else di) from by split <;> omega] at hset
            have HS := Lib.hid (hset.step (Below.refl _ _).drew)
            clear b1 b2 hset hdy hdi h0
            go_wp2_with fail
            refine wp_region_tail 21 (by kernel_rfl) (by kernel_rfl) ?_
            simp only [List.take_succ_cons, List.take_zero, List.drop_succ_cons, List.drop_zero]
            iterate 21 ((with_reducible refine wpStill_step ?_); intro K hK; go_simp; (try (refine ite_neg_of (by simp [undef] <;> assumption) ?_)); (with_reducible refine hK _ ?_); clear hK K)
            refine wpStill_nil ?_
            go_wp2_with fail
            go_roundw
            case rel => exact ⟨s + 1, by go_num, by omega, HS.out⟩
            case measure => simp [intOf]; omega
          · have HSk := Lib.hid (dq_skip (f := dpM k.nd t) (i := i) HXx.out h0)
            go_wp2_with fail
            go_roundw
            case rel => exact ⟨s + 1, by go_num, by omega, by rw [HSk.out]; exact HK.out⟩
            case measure => simp [intOf]; omega
        · obtain rfl : q = s := by omega
          go_wp2_with fail
          go_roundw
          case rel => exact ⟨i, zi, rfl, HZi.out.symm, by omega, by rw [HTe.out, ← HSt.out]; exact HK.out⟩
          case measure => simp [intOf]; have := HZi.out; omega
end Go.Proofs.YthfegbcbpeedbaaGreatDoor
