/- Which sheets are valid: the reference. -/
import Derived.Test.YtijidcigfdblaaaGreatDoorShD
import Derived.Test.YtijidcigfdblaaaGreatDoorShPb
namespace Go.Proofs.YtijidcigfdblaaaGreatDoor
open Go.RowKit Go.Nm Go.Sh Go.Plc

set_option maxRecDepth 100000 in
set_option maxHeartbeats 8000000 in
theorem rline_any (x : Ln) (vs : Value) (w : World) (hv : InSl w w.heap.size vs x.sn) (hl : x.sn.length ≤ 1000000) : Calls Tryz.prog 74 #[lnV x vs] w fun e w' => e = .returned (.bool (lnB x)) ∧ Below w.heap.size w w' := by
  obtain ⟨As, cs, W0, rfl, hW0, hb0, hz, hY⟩ := ln_box hv
  have HW0 := Lib.hid hW0
  have HB0 := Lib.hid hb0
  have HY := Lib.hid (hY W0 (Below.refl _ _))
  have HC := Lib.hid (fun y Y => rwithin4_any y 1 65535 Y)
  have HC2 := Lib.hid (rIsCount_any x.lo x.hi W0)
  obtain ⟨r, hr⟩ : ∃ r, lnB x = r := ⟨_, rfl⟩
  obtain ⟨n, hn⟩ : ∃ n, x.sn.length = n := ⟨_, rfl⟩
  have HN := Lib.hid hn
  have HR := Lib.hid (show r = ((betB x.nm 1 65535 && cntB x.lo x.hi) && (x.sn.all (fun x => betB x 1 65535) && decide (n ≤ 64))) from by rw [← hr, ← hn]; rfl)
  rw [hr]
  obtain ⟨⟨c0, c1, c2, c3⟩, hin⟩ := HY.out
  unfold lnV
  rw [hn] at c3 HW0 hl hin
  rw [hn]
  have HA := Lib.hid (show InA W0 W0.heap.size As x.sn from by obtain ⟨_, _, e, _, _, h⟩ := hin; cases e; exact h)
  clear hv hW0 hb0 hY hr hn hz hin HY
  go_enter Tryz.func74, Tryz.ntmps74
  go_wp2_with fail
  rw [HW0.out]
  (try go_wp2_with fail)
  go_loopw [3] (fun iv wr => ∃ i : Nat, iv = .int .i64 (i : Int) ∧ i ≤ n ∧ (x.sn.take i).all (fun x => betB x 1 65535) = true ∧ W0 = wr) (fun iv _ => n - (intOf iv).toNat)
  case atStart => exact ⟨0, rfl, by omega, by simp, rfl⟩
  case round =>
    obtain ⟨i, rfl, hin, hal, rfl⟩ := hrel
    have HAl := Lib.hid hal
    clear hal
    by_cases hlt : i < n
    · obtain ⟨y, ad, hx, rfl, _, hcx⟩ := HA.out.at_ HN.out hlt
      have his : (i : Int) < (n : Int) := by omega
      have hi0 : ¬ (i : Int) < 0 := by omega
      have HX := Lib.hid hx
      have HCx := Lib.hid (HC.out y W0)
      obtain ⟨b, hb⟩ : ∃ b, betB y 1 65535 = b := ⟨_, rfl⟩
      rw [hb] at HCx
      have HBb := Lib.hid hb
      clear hx hb
      go_wp2_with fail
      (with_reducible refine HCx.out.mono ?_)
      rintro e w1 ⟨rfl, rfl⟩
      clear HCx
      cases b with
      | false =>
        have HF := Lib.hid (show r = false from by rw [HR.out, all_falseB (g := fun x => betB x 1 65535) HX.out HBb.out]; simp)
        go_wp2_with fail
        go_ret
        exact ⟨ret_b HF.out.symm, HB0.out⟩
      | true =>
        have HT := Lib.hid (show (x.sn.take (i + 1)).all (fun x => betB x 1 65535) = true from by rw [all_nextB HX.out, HAl.out, HBb.out]; rfl)
        go_wp2_with fail
        go_roundw
        case rel => exact ⟨i + 1, by go_num, by omega, HT.out, by first | trivial | rfl⟩
        case measure => simp [intOf]; omega
    · obtain rfl : n = i := by omega
      have HT := Lib.hid (show r = ((betB x.nm 1 65535 && cntB x.lo x.hi) && decide (n ≤ 64)) from by
        have h := HAl.out
        rw [List.take_of_length_le (by rw [HN.out]; exact Nat.le_refl _)] at h
        rw [HR.out, h]; rfl)
      have HC1 := Lib.hid (HC.out x.nm W0)
      obtain ⟨b1, hb1⟩ : ∃ b, betB x.nm 1 65535 = b := ⟨_, rfl⟩
      obtain ⟨b2, hb2⟩ : ∃ b, cntB x.lo x.hi = b := ⟨_, rfl⟩
      rw [hb1] at HC1 HT; rw [hb2] at HC2 HT
      clear hb1 hb2
      go_wp2_with fail
      (with_reducible refine HC1.out.mono ?_)
      rintro e w1 ⟨rfl, rfl⟩
      clear HC1
      cases b1 with
      | false =>
        have HF := Lib.hid (show r = false from by rw [HT.out]; rfl)
        go_wp2_with fail
        go_ret
        exact ⟨ret_b HF.out.symm, HB0.out⟩
      | true =>
        go_wp2_with fail
        (with_reducible refine HC2.out.mono ?_)
        rintro e w2 ⟨rfl, hb⟩
        have HB2 := Lib.hid (HB0.out.trans (hb.mono HB0.out.size))
        have c3b : w2.cell? ⟨w.heap.size, 3, none⟩ = some (.slice As n cs) := (hb.cell (World.block_lt_of_cell? _ _ c3)).trans c3
        clear hb c0 c1 c2 c3 HC2
        cases b2 with
        | false =>
          have HF := Lib.hid (show r = false from by rw [HT.out]; rfl)
          go_wp2_with fail
          go_ret
          exact ⟨ret_b HF.out.symm, HB2.out⟩
        | true =>
          have HF := Lib.hid (show r = decide ((n : Int) ≤ 64) from by
            rw [HT.out]
            show decide (n ≤ 64) = decide ((n : Int) ≤ 64)
            exact decide_eq_decide.2 (by omega))
          go_wp2_with fail
          go_ret
          exact ⟨ret_b HF.out.symm, HB2.out⟩
set_option maxRecDepth 100000 in
set_option maxHeartbeats 8000000 in
theorem rsmall_any (l x y : Int) (w : World) : Calls Tryz.prog 72 #[.agg #[.int .i64 l, .int .i64 x, .int .i64 y]] w fun e w' => e = .returned (.bool (decide (l = 0) && Sq.okB ⟨l, x, y⟩)) ∧ Below w.heap.size w w' := by
  have hb := below_new (w := w) (.cells #[.int .i64 l, .int .i64 x, .int .i64 y] 23)
  have hn := World.alloc_heap_new w (.cells #[.int .i64 l, .int .i64 x, .int .i64 y] 23)
  have HC := Lib.hid (rValidSquare_any l x y (w.alloc (.cells #[.int .i64 l, .int .i64 x, .int .i64 y] 23)))
  obtain ⟨c0, c1, c2⟩ := cells_three hn
  have HB := Lib.hid hb
  obtain ⟨b, hb2⟩ : ∃ b, Sq.okB ⟨l, x, y⟩ = b := ⟨_, rfl⟩
  rw [hb2] at HC ⊢
  clear hn hb hb2
  go_enter Tryz.func72, Tryz.ntmps72
  by_cases h0 : l = 0
  · subst h0
    go_wp2_with fail
    (with_reducible refine HC.out.mono ?_)
    rintro e w1 ⟨rfl, hb⟩
    have HB1 := Lib.hid (HB.out.trans (hb.mono HB.out.size))
    clear hb c0 c1 c2 HC
    go_wp2_with fail
    go_ret
    exact ⟨by simp, HB1.out⟩
  · have hq : (l == 0) = false := by simpa using h0
    have HD := Lib.hid (show decide (l = 0) = false from by simpa using h0)
    go_wp2_with fail
    go_ret
    exact ⟨by rw [HD.out]; rfl, HB.out⟩
set_option maxRecDepth 100000 in
set_option maxHeartbeats 8000000 in
theorem rCheck_any (v : Value) (p : Pg) (w : World) (hv : PgV w v p) (hp : PgSm p) : Calls Tryz.prog 21 #[v] w fun e w' => e = .returned (.tuple #[.int .i64 (chkE p), .int .i64 (chkN p)]) ∧ Below w.heap.size w w' := by
  obtain ⟨A, c, W0, rfl, hW0, hb0, hz, hV, hL, hC⟩ := pg_box hv
  have HW0 := Lib.hid hW0
  have HB0 := Lib.hid hb0
  have HC := Lib.hid hC
  have HL := Lib.hid (hL W0 (Below.refl _ _))
  have HSn := Lib.hid hp.2
  have hn1 := hp.1
  have HI := Lib.hid (fun x a b Y => rwithin4_any x a b Y)
  have HSq := Lib.hid (fun Y => rsmall_any p.lv p.sx p.sy Y)
  have HCt := Lib.hid (fun Y => rIsCount_any p.lo p.hi Y)
  obtain ⟨r, hr⟩ : ∃ r, faultF p = r := ⟨_, rfl⟩
  have HR := Lib.hid (show r = (if ((betB p.ob 1 65535 && betB p.lm 1 65535) && betB p.yr 0 273) = true then (if (decide (p.lv = 0) && Sq.okB ⟨p.lv, p.sx, p.sy⟩) = true then (if betB p.nt 0 99999 = true then (if cntB p.lo p.hi = true then fbF p.ls 0 else 4) else 3) else 2) else 1) from hr.symm)
  have HE := Lib.hid (show chkE p = (if 200 < p.ls.length then 2 else if faultF p = 0 then 0 else 40) ∧ chkN p = (if 200 < p.ls.length then 0 else faultF p) from ⟨rfl, rfl⟩)
  obtain ⟨ce, hce⟩ : ∃ x, chkE p = x := ⟨_, rfl⟩
  obtain ⟨cn, hcn⟩ : ∃ x, chkN p = x := ⟨_, rfl⟩
  rw [hce, hcn, hr] at HE
  rw [hce, hcn]
  obtain ⟨n, hn⟩ : ∃ n, p.ls.length = n := ⟨_, rfl⟩
  have HN := Lib.hid hn
  obtain ⟨vl, hvl⟩ : ∃ z, (Value.slice A p.ls.length c) = z := ⟨_, rfl⟩
  have hvn : Value.slice A n c = vl := by rw [← hvl, hn]
  rw [hvl] at HC HL hW0 HW0 ⊢
  rw [hn] at hn1 HE
  unfold pgV
  obtain ⟨g0, g1, g2, g3, g4, g5, g6, g7, g8, g9⟩ := hC W0 (Below.refl _ _)
  rw [hvl] at g9
  rw [show pgC p vl = #[.int .i64 p.ob, .int .i64 p.yr, .int .i64 p.lv, .int .i64 p.sx, .int .i64 p.sy, .int .i64 p.nt, .int .i64 p.lm, .int .i64 p.lo, .int .i64 p.hi, vl] from rfl] at HW0
  subst hvn
  clear hv hp hW0 hb0 hz hV hL hC hr hn hvl hce hcn
  obtain ⟨b1, hb1⟩ : ∃ b, betB p.ob 1 65535 = b := ⟨_, rfl⟩
  obtain ⟨b2, hb2⟩ : ∃ b, betB p.lm 1 65535 = b := ⟨_, rfl⟩
  obtain ⟨b3, hb3⟩ : ∃ b, betB p.yr 0 273 = b := ⟨_, rfl⟩
  obtain ⟨b5, hb5⟩ : ∃ b, (decide (p.lv = 0) && Sq.okB ⟨p.lv, p.sx, p.sy⟩) = b := ⟨_, rfl⟩
  obtain ⟨b6, hb6⟩ : ∃ b, betB p.nt 0 99999 = b := ⟨_, rfl⟩
  obtain ⟨b7, hb7⟩ : ∃ b, cntB p.lo p.hi = b := ⟨_, rfl⟩
  have HI1 := Lib.hid (HI.out p.ob 1 65535 W0)
  have HI2 := Lib.hid (HI.out p.lm 1 65535 W0)
  have HI3 := Lib.hid (HI.out p.yr 0 273 W0)
  have HI6 := Lib.hid (fun Y => HI.out p.nt 0 99999 Y)
  rw [hb1] at HI1 HR; rw [hb2] at HI2 HR; rw [hb3] at HI3 HR; rw [hb5] at HR HSq; rw [hb6] at HR HI6; rw [hb7] at HR HCt
  clear hb1 hb2 hb3 hb5 hb6 hb7 HI
  go_enter Tryz.func21, Tryz.ntmps21
  by_cases h200 : n ≤ 200
  rotate_left
  · have h2 : 200 < (n : Int) := by omega
    have HF := Lib.hid (show ce = 2 ∧ cn = 0 from by
      obtain ⟨e1, e2⟩ := HE.out
      rw [if_pos (by omega)] at e1 e2
      exact ⟨e1, e2⟩)
    go_wp2_with fail
    (try rw [HW0.out])
    (try go_wp2_with fail)
    go_ret2
    exact ⟨by rw [HF.out.1, HF.out.2]; rfl, HB0.out⟩
  have h2 : (n : Int) ≤ 200 := by omega
  have HG := Lib.hid (fun z (hz : r = z) (h0 : z ≠ 0) => show ce = 40 ∧ cn = z from by
    obtain ⟨e1, e2⟩ := HE.out
    rw [if_neg (by omega)] at e1 e2
    rw [hz, if_neg h0] at e1
    exact ⟨e1, e2.trans hz⟩)
  have HG0 := Lib.hid (fun (hz : r = 0) => show ce = 0 ∧ cn = 0 from by
    obtain ⟨e1, e2⟩ := HE.out
    rw [if_neg (by omega)] at e1 e2
    rw [hz, if_pos rfl] at e1
    exact ⟨e1, e2.trans hz⟩)
  clear HE
  go_wp2_with fail
  rw [HW0.out]
  (try go_wp2_with fail)
  (with_reducible refine HI1.out.mono ?_)
  rintro e w1 ⟨rfl, rfl⟩
  clear HI1
  cases b1 with
  | false =>
    have HF := Lib.hid (HG.out 1 (by rw [HR.out]; rfl) (by decide))
    go_wp2_with fail
    go_ret2
    exact ⟨by rw [HF.out.1, HF.out.2]; rfl, HB0.out⟩
  | true =>
  go_wp2_with fail
  (with_reducible refine HI2.out.mono ?_)
  rintro e w1 ⟨rfl, rfl⟩
  clear HI2
  cases b2 with
  | false =>
    have HF := Lib.hid (HG.out 1 (by rw [HR.out]; rfl) (by decide))
    go_wp2_with fail
    go_ret2
    exact ⟨by rw [HF.out.1, HF.out.2]; rfl, HB0.out⟩
  | true =>
  go_wp2_with fail
  (with_reducible refine HI3.out.mono ?_)
  rintro e w1 ⟨rfl, rfl⟩
  clear HI3
  cases b3 with
  | false =>
    have HF := Lib.hid (HG.out 1 (by rw [HR.out]; rfl) (by decide))
    go_wp2_with fail
    go_ret2
    exact ⟨by rw [HF.out.1, HF.out.2]; rfl, HB0.out⟩
  | true =>
  have HS1 := Lib.hid (HSq.out W0)
  clear HSq
  go_wp2_with fail
  (with_reducible refine HS1.out.mono ?_)
  rintro e w2 ⟨rfl, hb⟩
  have HB2 := Lib.hid hb
  clear hb HS1 g0 g1 g2 g3 g4 g5 g6 g7 g8 g9
  obtain ⟨g0, g1, g2, g3, g4, g5, g6, g7, g8, g9⟩ := HC.out w2 HB2.out
  cases b5 with
  | false =>
    have HF := Lib.hid (HG.out 2 (by rw [HR.out]; rfl) (by decide))
    go_wp2_with fail
    go_ret2
    exact ⟨by rw [HF.out.1, HF.out.2]; rfl, HB0.out.trans (HB2.out.mono HB0.out.size)⟩
  | true =>
  have HI7 := Lib.hid (HI6.out w2)
  clear HI6
  go_wp2_with fail
  (with_reducible refine HI7.out.mono ?_)
  rintro e w3 ⟨rfl, rfl⟩
  clear HI7
  cases b6 with
  | false =>
    have HF := Lib.hid (HG.out 3 (by rw [HR.out]; rfl) (by decide))
    go_wp2_with fail
    go_ret2
    exact ⟨by rw [HF.out.1, HF.out.2]; rfl, HB0.out.trans (HB2.out.mono HB0.out.size)⟩
  | true =>
  have HT1 := Lib.hid (HCt.out w2)
  clear HCt
  go_wp2_with fail
  (with_reducible refine HT1.out.mono ?_)
  rintro e w4 ⟨rfl, hb⟩
  have HB4 := Lib.hid (HB2.out.trans (hb.mono HB2.out.size))
  clear hb HT1 g0 g1 g2 g3 g4 g5 g6 g7 g8 g9
  obtain ⟨g0, g1, g2, g3, g4, g5, g6, g7, g8, g9⟩ := HC.out w4 HB4.out
  cases b7 with
  | false =>
    have HF := Lib.hid (HG.out 4 (by rw [HR.out]; rfl) (by decide))
    go_wp2_with fail
    go_ret2
    exact ⟨by rw [HF.out.1, HF.out.2]; rfl, HB0.out.trans (HB4.out.mono HB0.out.size)⟩
  | true =>
  have HR3 := Lib.hid (show r = fbF p.ls 0 from by rw [HR.out]; rfl)
  have HLl := Lib.hid HL.out
  clear HR
  go_wp2_with fail
  go_loopw [4] (fun iv wr => ∃ i : Nat, iv = .int .i64 (i : Int) ∧ i ≤ n ∧ Below W0.heap.size W0 wr ∧ ∀ (j : Nat) (y : Ln), j < i → p.ls[j]? = some y → lnB y = true) (fun iv _ => n - (intOf iv).toNat)
  case atStart => exact ⟨0, rfl, by omega, HB4.out, fun j y h => by omega⟩
  case round =>
    obtain ⟨i, rfl, hin, hb, hall⟩ := hrel
    have HBi := Lib.hid hb
    have HAll := Lib.hid hall
    clear hb hall g0 g1 g2 g3 g4 g5 g6 g7 g8 g9
    obtain ⟨g0, g1, g2, g3, g4, g5, g6, g7, g8, g9⟩ := HC.out wr HBi.out
    by_cases hlt : i < n
    · obtain ⟨x, ad, As, cs, hx, rfl, hY⟩ := HLl.out.at_ hlt
      have his : (i : Int) < (n : Int) := by omega
      have hi0 : ¬ (i : Int) < 0 := by omega
      obtain ⟨⟨l0, l1, l2, l3⟩, hsn⟩ := hY wr HBi.out
      have HX := Lib.hid hx
      have HCl := Lib.hid (rline_any x (.slice As x.sn.length cs) wr hsn (by have := HSn.out x (List.mem_of_getElem? hx); omega))
      obtain ⟨b, hb⟩ : ∃ b, lnB x = b := ⟨_, rfl⟩
      rw [hb] at HCl
      have HBb := Lib.hid hb
      unfold lnV at HCl
      clear hx hb hsn hY
      go_wp2_with fail
      (with_reducible refine HCl.out.mono ?_)
      rintro e w5 ⟨rfl, hb⟩
      have HB5 := Lib.hid (HBi.out.trans (hb.mono HBi.out.size))
      clear hb HCl l0 l1 l2 l3
      cases b with
      | false =>
        have HF := Lib.hid (HG.out (5 + (i : Int)) (by rw [HR3.out, fb_hit 0 HX.out HBb.out HAll.out]; omega) (by omega))
        have hwi : IntKind.i64.wrap (5 + (i : Int)) = 5 + (i : Int) := by rw [IntKind.wrap_i64]; omega
        go_wp2_with fail
        go_ret2
        exact ⟨by rw [HF.out.1, HF.out.2]; rfl, HB0.out.trans (HB5.out.mono HB0.out.size)⟩
      | true =>
        go_wp2_with fail
        go_roundw
        case rel => exact ⟨i + 1, by go_num, by omega, HB5.out, fun j y hj hy => by
          by_cases e : j = i
          · subst e; rw [HX.out] at hy; injection hy with hy; subst hy; exact HBb.out
          · exact HAll.out j y (by omega) hy⟩
        case measure => simp [intOf]; omega
    · obtain rfl : n = i := by omega
      have HF := Lib.hid (HG0.out (by rw [HR3.out]; exact fb_all 0 fun j y hj hy => HAll.out j y (by rw [HN.out] at hj; exact hj) hy))
      go_wp2_with fail
      go_ret2
      exact ⟨by rw [HF.out.1, HF.out.2]; rfl, HB0.out.trans (HBi.out.mono HB0.out.size)⟩
set_option maxRecDepth 100000 in
set_option maxHeartbeats 8000000 in
theorem rvalid_any (v : Value) (p : Pg) (w : World) (hv : PgV w v p) (hp : PgSm p) : Calls Tryz.prog 82 #[v] w fun e w' => e = .returned (.int .i64 (valE p)) ∧ Below w.heap.size w w' := by
  obtain ⟨A, c, W0, rfl, hW0, hb0, hz, hV, hL, hC⟩ := pg_box hv
  have HW0 := Lib.hid hW0
  have HB0 := Lib.hid hb0
  have HF0 := Lib.hid (rCheck_any _ p W0 (hV W0 (Below.refl _ _)) hp)
  obtain ⟨ve, hve⟩ : ∃ x, valE p = x := ⟨_, rfl⟩
  have HR := Lib.hid (show ve = if decide (chkE p = 0) = true then 0 else 40 from hve.symm)
  rw [hve]
  obtain ⟨ce, hce⟩ : ∃ x, chkE p = x := ⟨_, rfl⟩
  obtain ⟨cn, hcn⟩ : ∃ x, chkN p = x := ⟨_, rfl⟩
  rw [hce, hcn] at HF0
  rw [hce] at HR
  obtain ⟨g0, g1, g2, g3, g4, g5, g6, g7, g8, g9⟩ := hC W0 (Below.refl _ _)
  generalize p.ls.length = n at *
  unfold pgV at HF0 ⊢
  unfold pgC at HW0
  clear hv hp hW0 hb0 hz hV hL hC hce hcn hve
  go_enter Tryz.func82, Tryz.ntmps82
  go_wp2_with fail
  rw [HW0.out]
  (try go_wp2_with fail)
  (with_reducible refine HF0.out.mono ?_)
  rintro e w1 ⟨rfl, hb⟩
  have HB1 := Lib.hid (HB0.out.trans (hb.mono HB0.out.size))
  clear hb HF0 g0 g1 g2 g3 g4 g5 g6 g7 g8 g9
  by_cases hf : ce = 0
  · subst hf
    have HF := Lib.hid (show ve = 0 from by rw [HR.out]; simp)
    clear HR
    go_wp2_with fail
    go_ret
    exact ⟨ret_i HF.out.symm, HB1.out⟩
  · have hq : (ce != 0) = true := by simpa using hf
    have HF := Lib.hid (show ve = 40 from by rw [HR.out]; simp [hf])
    clear HR hf
    go_wp2_with fail
    go_ret
    exact ⟨ret_i HF.out.symm, HB1.out⟩
end Go.Proofs.YtijidcigfdblaaaGreatDoor
