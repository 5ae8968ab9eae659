/- Which sheets are valid: faultOf, Check, isValid. -/
import Derived.Test.YtijidcigfdblaaaGreatDoorShC
namespace Go.Sh
def PgSm (p : Pg) : Prop := p.ls.length ≤ 1000 ∧ ∀ x ∈ p.ls, x.sn.length ≤ 1000
end Go.Sh
namespace Go.Proofs.YtijidcigfdblaaaGreatDoor
open Go.RowKit Go.Nm Go.Sh Go.Plc

set_option maxRecDepth 100000 in
set_option maxHeartbeats 8000000 in
theorem faultOf_any (v : Value) (p : Pg) (w : World) (hv : PgV w v p) (hp : PgSm p) : Calls Tryz.prog 70 #[v] w fun e w' => e = .returned (.int .i64 (faultF p)) ∧ Below w.heap.size w w' := by
  obtain ⟨A, c, W0, rfl, hW0, hb0, hz, hV, hL, hC⟩ := pg_box hv
  have HW0 := Lib.hid hW0
  have HB0 := Lib.hid hb0
  have HC := Lib.hid hC
  have HL := Lib.hid (hL W0 (Below.refl _ _))
  have HSn := Lib.hid hp.2
  have hn1 := hp.1
  have HI := Lib.hid (fun x Y => isID_any x Y)
  have HBt := Lib.hid (fun x a b Y => between_any x a b Y)
  have HSq := Lib.hid (fun Y => ValidSquare_any p.lv p.sx p.sy Y)
  have HCt := Lib.hid (fun Y => isCount_any p.lo p.hi Y)
  obtain ⟨r, hr⟩ : ∃ r, faultF p = r := ⟨_, rfl⟩
  have HR := Lib.hid (show r = (if ((idB p.ob && idB p.lm) && betB p.yr 0 273) = true then (if (decide (p.lv = 0) && Sq.okB ⟨p.lv, p.sx, p.sy⟩) = true then (if betB p.nt 0 99999 = true then (if cntB p.lo p.hi = true then fbF p.ls 0 else 4) else 3) else 2) else 1) from hr.symm)
  rw [hr]
  obtain ⟨n, hn⟩ : ∃ n, p.ls.length = n := ⟨_, rfl⟩
  have HN := Lib.hid hn
  obtain ⟨vl, hvl⟩ : ∃ z, (Value.slice A p.ls.length c) = z := ⟨_, rfl⟩
  have hvn : Value.slice A n c = vl := by rw [← hvl, hn]
  rw [hvl] at HC HL hW0 HW0 ⊢
  rw [hn] at hn1
  unfold pgV
  obtain ⟨g0, g1, g2, g3, g4, g5, g6, g7, g8, g9⟩ := hC W0 (Below.refl _ _)
  rw [hvl] at g9
  rw [show pgC p vl = #[.int .i64 p.ob, .int .i64 p.yr, .int .i64 p.lv, .int .i64 p.sx, .int .i64 p.sy, .int .i64 p.nt, .int .i64 p.lm, .int .i64 p.lo, .int .i64 p.hi, vl] from rfl] at HW0
  subst hvn
  clear hv hp hW0 hb0 hz hV hL hC hr hn hvl
  go_enter Tryz.func70, Tryz.ntmps70
  obtain ⟨b1, hb1⟩ : ∃ b, idB p.ob = b := ⟨_, rfl⟩
  obtain ⟨b2, hb2⟩ : ∃ b, idB p.lm = b := ⟨_, rfl⟩
  obtain ⟨b3, hb3⟩ : ∃ b, betB p.yr 0 273 = b := ⟨_, rfl⟩
  obtain ⟨b5, hb5⟩ : ∃ b, Sq.okB ⟨p.lv, p.sx, p.sy⟩ = b := ⟨_, rfl⟩
  obtain ⟨b6, hb6⟩ : ∃ b, betB p.nt 0 99999 = b := ⟨_, rfl⟩
  obtain ⟨b7, hb7⟩ : ∃ b, cntB p.lo p.hi = b := ⟨_, rfl⟩
  have HI1 := Lib.hid (HI.out p.ob W0)
  have HI2 := Lib.hid (HI.out p.lm W0)
  have HI3 := Lib.hid (HBt.out p.yr 0 273 W0)
  rw [hb1] at HI1 HR; rw [hb2] at HI2 HR; rw [hb3] at HI3 HR; rw [hb5] at HR HSq; rw [hb6] at HR; rw [hb7] at HR HCt
  have HI6 := Lib.hid (fun Y => HBt.out p.nt 0 99999 Y)
  rw [hb6] at HI6
  clear hb1 hb2 hb3 hb5 hb6 hb7 HI HBt
  go_wp2_with fail
  rw [HW0.out]
  (try go_wp2_with fail)
  (with_reducible refine HI1.out.mono ?_)
  rintro e w1 ⟨rfl, rfl⟩
  clear HI1
  cases b1 with
  | false =>
    have HF := Lib.hid (show r = 1 from by rw [HR.out]; rfl)
    go_wp2_with fail
    go_ret
    exact ⟨ret_i HF.out.symm, HB0.out⟩
  | true =>
  go_wp2_with fail
  (with_reducible refine HI2.out.mono ?_)
  rintro e w1 ⟨rfl, rfl⟩
  clear HI2
  cases b2 with
  | false =>
    have HF := Lib.hid (show r = 1 from by rw [HR.out]; rfl)
    go_wp2_with fail
    go_ret
    exact ⟨ret_i HF.out.symm, HB0.out⟩
  | true =>
  go_wp2_with fail
  (with_reducible refine HI3.out.mono ?_)
  rintro e w1 ⟨rfl, rfl⟩
  clear HI3
  cases b3 with
  | false =>
    have HF := Lib.hid (show r = 1 from by rw [HR.out]; rfl)
    go_wp2_with fail
    go_ret
    exact ⟨ret_i HF.out.symm, HB0.out⟩
  | true =>
  by_cases h0 : p.lv = 0
  rotate_left
  · have HF := Lib.hid (show r = 2 from by rw [HR.out]; simp [h0])
    have hq : (p.lv != 0) = true := by simp [h0]
    go_wp2_with fail
    go_ret
    exact ⟨ret_i HF.out.symm, HB0.out⟩
  have hq : (p.lv != 0) = false := by simp [h0]
  have HR2 := Lib.hid (show r = (if b5 = true then (if b6 = true then (if b7 = true then fbF p.ls 0 else 4) else 3) else 2) from by rw [HR.out]; simp [h0])
  have HS1 := Lib.hid (HSq.out W0)
  clear h0 HR HSq
  go_wp2_with fail
  (with_reducible refine HS1.out.mono ?_)
  rintro e w2 ⟨rfl, hb⟩
  have HB2 := Lib.hid hb
  clear hb HS1 g0 g1 g2 g3 g4 g5 g6 g7 g8 g9 hq
  obtain ⟨g0, g1, g2, g3, g4, g5, g6, g7, g8, g9⟩ := HC.out w2 HB2.out
  cases b5 with
  | false =>
    have HF := Lib.hid (show r = 2 from by rw [HR2.out]; rfl)
    go_wp2_with fail
    go_ret
    exact ⟨ret_i HF.out.symm, HB0.out.trans (HB2.out.mono HB0.out.size)⟩
  | true =>
  have HI7 := Lib.hid (HI6.out w2)
  clear HI6
  go_wp2_with fail
  (with_reducible refine HI7.out.mono ?_)
  rintro e w3 ⟨rfl, rfl⟩
  clear HI7
  cases b6 with
  | false =>
    have HF := Lib.hid (show r = 3 from by rw [HR2.out]; rfl)
    go_wp2_with fail
    go_ret
    exact ⟨ret_i HF.out.symm, HB0.out.trans (HB2.out.mono HB0.out.size)⟩
  | true =>
  have HT1 := Lib.hid (HCt.out w2)
  clear HCt
  go_wp2_with fail
  (with_reducible refine HT1.out.mono ?_)
  rintro e w4 ⟨rfl, hb⟩
  have HB4 := Lib.hid (HB2.out.trans (hb.mono HB2.out.size))
  clear hb HT1 g0 g1 g2 g3 g4 g5 g6 g7 g8 g9
  obtain ⟨g0, g1, g2, g3, g4, g5, g6, g7, g8, g9⟩ := HC.out w4 HB4.out
  cases b7 with
  | false =>
    have HF := Lib.hid (show r = 4 from by rw [HR2.out]; rfl)
    go_wp2_with fail
    go_ret
    exact ⟨ret_i HF.out.symm, HB0.out.trans (HB4.out.mono HB0.out.size)⟩
  | true =>
  have HR3 := Lib.hid (show r = fbF p.ls 0 from by rw [HR2.out]; rfl)
  have HLl := Lib.hid HL.out
  clear HR2
  go_wp2_with fail
  go_loopw [46] (fun iv wr => ∃ i : Nat, iv = .int .i64 (i : Int) ∧ i ≤ n ∧ Below W0.heap.size W0 wr ∧ ∀ (j : Nat) (y : Ln), j < i → p.ls[j]? = some y → lnB y = true) (fun iv _ => n - (intOf iv).toNat)
  case atStart => exact ⟨0, rfl, by omega, HB4.out, fun j y h => by omega⟩
  case round =>
    obtain ⟨i, rfl, hin, hb, hall⟩ := hrel
    have HBi := Lib.hid hb
    have HAll := Lib.hid hall
    clear hb hall g0 g1 g2 g3 g4 g5 g6 g7 g8 g9
    by_cases hlt : i < n
    · obtain ⟨x, ad, As, cs, hx, rfl, hY⟩ := HLl.out.at_ hlt
      obtain ⟨⟨l0, l1, l2, l3⟩, hsn⟩ := hY wr HBi.out
      have hbn := below_new (w := wr) (.cells #[.int .i64 x.nm, .int .i64 x.lo, .int .i64 x.hi, .slice As x.sn.length cs] 83)
      have hnn := World.alloc_heap_new wr (.cells #[.int .i64 x.nm, .int .i64 x.lo, .int .i64 x.hi, .slice As x.sn.length cs] 83)
      have HX := Lib.hid hx
      have HBn := Lib.hid (HBi.out.trans (hbn.mono HBi.out.size))
      have HCl := Lib.hid (isLine_any x (.slice As x.sn.length cs) _ (hsn.step hbn) (by have := HSn.out x (List.mem_of_getElem? hx); omega))
      obtain ⟨V, hV⟩ : ∃ V, wr.alloc (.cells #[.int .i64 x.nm, .int .i64 x.lo, .int .i64 x.hi, .slice As x.sn.length cs] 83) = V := ⟨_, rfl⟩
      rw [hV] at HBn HCl hnn
      have HV := Lib.hid hV
      have m := hnn
      have m0 : V.cell? ⟨wr.heap.size, 0, none⟩ = some (.int .i64 x.nm) := by simp [World.cell?, m]
      have m1 : V.cell? ⟨wr.heap.size, 1, none⟩ = some (.int .i64 x.lo) := by simp [World.cell?, m]
      have m2 : V.cell? ⟨wr.heap.size, 2, none⟩ = some (.int .i64 x.hi) := by simp [World.cell?, m]
      have m3 : V.cell? ⟨wr.heap.size, 3, none⟩ = some (.slice As x.sn.length cs) := by simp [World.cell?, m]
      obtain ⟨b, hb⟩ : ∃ b, lnB x = b := ⟨_, rfl⟩
      rw [hb] at HCl
      have HBb := Lib.hid hb
      unfold lnV at HCl
      clear hx hbn hnn hV hb hsn hY m
      go_wp2_with fail
      rw [HV.out]
      (try go_wp2_with fail)
      (with_reducible refine HCl.out.mono ?_)
      rintro e w5 ⟨rfl, hb⟩
      have HB5 := Lib.hid (HBn.out.trans (hb.mono HBn.out.size))
      clear hb HCl m0 m1 m2 m3 l0 l1 l2 l3
      cases b with
      | false =>
        have HF := Lib.hid (show r = 5 + (i : Int) from by rw [HR3.out, fb_hit 0 HX.out HBb.out HAll.out]; omega)
        have hwi : IntKind.i64.wrap (5 + (i : Int)) = 5 + (i : Int) := by rw [IntKind.wrap_i64]; omega
        go_wp2_with fail
        go_ret
        exact ⟨ret_i HF.out.symm, HB0.out.trans (HB5.out.mono HB0.out.size)⟩
      | true =>
        go_wp2_with fail
        go_roundw
        case rel => exact ⟨i + 1, by go_num, by omega, HB5.out, fun j y hj hy => by
          by_cases e : j = i
          · subst e; rw [HX.out] at hy; injection hy with hy; subst hy; exact HBb.out
          · exact HAll.out j y (by omega) hy⟩
        case measure => simp [intOf]; omega
    · obtain rfl : n = i := by omega
      have HF := Lib.hid (show r = 0 from by rw [HR3.out]; exact fb_all 0 fun j y hj hy => HAll.out j y (by rw [HN.out] at hj; exact hj) hy)
      go_wp2_with fail
      go_ret
      exact ⟨ret_i HF.out.symm, HB0.out.trans (HBi.out.mono HB0.out.size)⟩
set_option maxRecDepth 100000 in
set_option maxHeartbeats 8000000 in
theorem Check_any (v : Value) (p : Pg) (w : World) (hv : PgV w v p) (hp : PgSm p) : Calls Tryz.prog 20 #[v] w fun e w' => e = .returned (.tuple #[.int .i64 (chkE p), .int .i64 (chkN p)]) ∧ Below w.heap.size w w' := by
  obtain ⟨A, c, W0, rfl, hW0, hb0, hz, hV, hL, hC⟩ := pg_box hv
  have HW0 := Lib.hid hW0
  have HB0 := Lib.hid hb0
  have HF0 := Lib.hid (faultOf_any _ p W0 (hV W0 (Below.refl _ _)) hp)
  have HR := Lib.hid (show chkE p = (if 200 < p.ls.length then 2 else if faultF p = 0 then 0 else 40) ∧ chkN p = (if 200 < p.ls.length then 0 else faultF p) from ⟨rfl, rfl⟩)
  obtain ⟨ce, hce⟩ : ∃ x, chkE p = x := ⟨_, rfl⟩
  obtain ⟨cn, hcn⟩ : ∃ x, chkN p = x := ⟨_, rfl⟩
  obtain ⟨f, hf⟩ : ∃ x, faultF p = x := ⟨_, rfl⟩
  have hn1 := hp.1
  rw [hce, hcn, hf] at HR
  rw [hf] at HF0
  rw [hce, hcn]
  obtain ⟨g0, g1, g2, g3, g4, g5, g6, g7, g8, g9⟩ := hC W0 (Below.refl _ _)
  generalize p.ls.length = n at *
  unfold pgV at HF0 ⊢
  unfold pgC at HW0
  clear hv hp hW0 hb0 hz hV hL hC hce hcn hf
  go_enter Tryz.func20, Tryz.ntmps20
  by_cases h200 : n ≤ 200
  · have h2 : (n : Int) ≤ 200 := by omega
    have HR2 := Lib.hid (show ce = (if f = 0 then 0 else 40) ∧ cn = f from by
      obtain ⟨e1, e2⟩ := HR.out
      rw [if_neg (by omega)] at e1 e2
      exact ⟨e1, e2⟩)
    go_wp2_with fail
    rw [HW0.out]
    (try go_wp2_with fail)
    (with_reducible refine HF0.out.mono ?_)
    rintro e w1 ⟨rfl, hb⟩
    have HB1 := Lib.hid (HB0.out.trans (hb.mono HB0.out.size))
    clear hb HF0 g0 g1 g2 g3 g4 g5 g6 g7 g8 g9
    by_cases hf : f = 0
    · subst hf
      have HF := Lib.hid (show ce = 0 ∧ cn = 0 from HR2.out)
      go_wp2_with fail
      go_ret2
      exact ⟨by rw [HF.out.1, HF.out.2]; rfl, HB1.out⟩
    · have HF := Lib.hid (show ce = 40 ∧ cn = f from by rw [if_neg hf] at HR2; exact HR2.out)
      have hfq : (f != 0) = true := by simpa using hf
      go_wp2_with fail
      go_ret2
      exact ⟨by rw [HF.out.1, HF.out.2]; rfl, HB1.out⟩
  · have h2 : 200 < (n : Int) := by omega
    have HF := Lib.hid (show ce = 2 ∧ cn = 0 from by
      obtain ⟨e1, e2⟩ := HR.out
      rw [if_pos (by omega)] at e1 e2
      exact ⟨e1, e2⟩)
    go_wp2_with fail
    (try rw [HW0.out])
    (try go_wp2_with fail)
    go_ret2
    exact ⟨by rw [HF.out.1, HF.out.2]; rfl, HB0.out⟩
set_option maxRecDepth 100000 in
set_option maxHeartbeats 8000000 in
theorem isValid_any (v : Value) (p : Pg) (w : World) (hv : PgV w v p) (hp : PgSm p) : Calls Tryz.prog 75 #[v] w fun e w' => e = .returned (.bool (okP p)) ∧ Below w.heap.size w w' := by
  obtain ⟨A, c, W0, rfl, hW0, hb0, hz, hV, hL, hC⟩ := pg_box hv
  have HW0 := Lib.hid hW0
  have HB0 := Lib.hid hb0
  have HF0 := Lib.hid (Check_any _ p W0 (hV W0 (Below.refl _ _)) hp)
  have HR := Lib.hid (show okP p = decide (chkE p = 0) from rfl)
  rw [HR.out]
  obtain ⟨ce, hce⟩ : ∃ x, chkE p = x := ⟨_, rfl⟩
  obtain ⟨cn, hcn⟩ : ∃ x, chkN p = x := ⟨_, rfl⟩
  rw [hce, hcn] at HF0
  rw [hce]
  obtain ⟨g0, g1, g2, g3, g4, g5, g6, g7, g8, g9⟩ := hC W0 (Below.refl _ _)
  generalize p.ls.length = n at *
  unfold pgV at HF0 ⊢
  unfold pgC at HW0
  clear hv hp hW0 hb0 hz hV hL hC hce hcn HR
  go_enter Tryz.func75, Tryz.ntmps75
  go_wp2_with fail
  rw [HW0.out]
  (try go_wp2_with fail)
  (with_reducible refine HF0.out.mono ?_)
  rintro e w1 ⟨rfl, hb⟩
  have HB1 := Lib.hid (HB0.out.trans (hb.mono HB0.out.size))
  clear hb HF0 g0 g1 g2 g3 g4 g5 g6 g7 g8 g9
  by_cases hf : ce = 0
  · subst hf
    go_wp2_with fail
    go_ret
    exact ⟨by simp, HB1.out⟩
  · have hq : (ce == 0) = false := by simpa using hf
    have HD := Lib.hid (show decide (ce = 0) = false from by simpa using hf)
    go_wp2_with fail
    go_ret
    exact ⟨by rw [HD.out]; rfl, HB1.out⟩
end Go.Proofs.YtijidcigfdblaaaGreatDoor
