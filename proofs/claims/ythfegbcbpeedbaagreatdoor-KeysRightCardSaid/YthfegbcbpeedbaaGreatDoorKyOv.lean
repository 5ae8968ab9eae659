
/- grow: laws. -/
import Derived.Test.YthfegbcbpeedbaaGreatDoorKyOo
namespace Go.Ky
open Go.Nm
/-- the path behind a node -/
def trF (k : Kx) (l : List Int) : Nat → Int → List Int
  | 0, _ => []
  | d + 1, a => if a < 0 then [] else (k.nd.getD a.toNat ⟨0, []⟩).may.getD (l.getD (k.nd.getD a.toNat ⟨0, []⟩).nm.toNat 0).toNat 0 :: trF k l d ((k.nd.getD a.toNat ⟨0, []⟩).may.getD (l.getD (k.nd.getD a.toNat ⟨0, []⟩).nm.toNat 0).toNat 0)
def traceE (m : Mx) (k : Kx) (l : List Int) : Int := if ckE m k = 0 then (if specF m.st l = true then 0 else 32) else ckE m k
def traceL (m : Mx) (k : Kx) (l : List Int) : List Int := if traceE m k l = 0 then begF k :: trF k l (k.nd.length + 1) (begF k) else []
theorem tr_neg {k : Kx} {l : List Int} {d : Nat} {a : Int} (h : a < 0) : trF k l d a = [] := by
  cases d with
  | zero => rfl
  | succ d => unfold trF; rw [if_pos h]
theorem tr_node {k : Kx} {l : List Int} {d i c s : Nat} {r : Rw} {x : Int} (hr : k.nd[i]? = some r) (hc : r.nm = (c : Int)) (hs : l[c]? = some (s : Int)) (hx : r.may[s]? = some x) : trF k l (d + 1) (i : Int) = x :: trF k l d x := by
  have e1 : k.nd.getD (i : Int).toNat ⟨0, []⟩ = r := by rw [Int.toNat_natCast, List.getD_eq_getElem?_getD, hr]; rfl
  have e2 : l.getD r.nm.toNat 0 = (s : Int) := by rw [hc, Int.toNat_natCast, List.getD_eq_getElem?_getD, hs]; rfl
  have e3 : r.may.getD ((s : Int)).toNat 0 = x := by rw [Int.toNat_natCast, List.getD_eq_getElem?_getD, hx]; rfl
  conv => lhs; unfold trF
  rw [if_neg (by omega), e1, e2, e3]
theorem spec_ok {st l : List Int} (h : specF st l = true) : l.length = st.length ∧ ∀ (c : Nat) (n s : Int), st[c]? = some n → l[c]? = some s → 0 ≤ s ∧ s < n := by
  unfold specF at h
  rw [Bool.and_eq_true] at h
  exact ⟨of_decide_eq_true h.1, fun c n s h1 h2 => of_decide_eq_true ((List.all_eq_true.1 h.2) (n, s) (List.mem_of_getElem? (zip_get h1 h2)))⟩
end Go.Ky
namespace Go.Proofs.YthfegbcbpeedbaaGreatDoor
open Go.RowKit Go.Nm Go.Ky

set_option maxRecDepth 100000 in
set_option maxHeartbeats 4000000 in
theorem Right_any (v u : Value) (m : Mx) (k : Kx) (w : World) (hv : MxV w v m) (hs : MSm m) (hu : KyV w u k) (hk : KSm k) :
    Calls Tryz.prog 7 #[v, u] w fun e w' => e = .returned (.tuple #[.bool (decide (wrongE m k = 3)), .int .i64 (rightE m k)]) ∧ Below w.heap.size w w' := by
  obtain ⟨A1, c1, A2, c2, W0, rfl, hW0, hb0, hM, hS, hR, hX⟩ := mx_box hv
  have hz : W0.heap.size = w.heap.size + 1 := by rw [← hW0]; simp
  obtain ⟨B1, d1, B2, d2, W1, rfl, hW1, hb1, hK, hNd, hV, hX1⟩ := ky_box (hu.step hb0)
  have HW := Lib.hid (And.intro hW0 hW1)
  have HB1 := Lib.hid (hb0.trans (hb1.mono hb0.size))
  have HC := Lib.hid (Wrong_any _ _ m k W1 (hM W1 hb1) hs (hK W1 (Below.refl _ _)) hk)
  have HE := Lib.hid (show rightE m k = if wrongE m k = 3 then 0 else wrongE m k from rfl)
  have HCs := Lib.hid (wrong_cases m k)
  rw [HE.out]
  obtain ⟨we, hwe⟩ : ∃ c, wrongE m k = c := ⟨_, rfl⟩
  rw [hwe] at HC HCs ⊢
  generalize k.nd.length = n at *
  generalize k.lv.length = nl at *
  generalize m.st.length = ns at *
  generalize m.rows.length = nr at *
  generalize wrongN m k = wn at *
  clear hv hu hs hk hW0 hb0 hM hS hR hX hz hW1 hb1 hK hNd hV hX1 hwe HE
  go_enter Tryz.func7, Tryz.ntmps7
  go_wp2_with fail
  rw [HW.out.1, HW.out.2]
  (try go_wp2_with fail)
  (with_reducible refine HC.out.mono ?_)
  rintro e w1 ⟨⟨x, rfl, hx⟩, hb⟩
  have HB2 := Lib.hid (HB1.out.trans (hb.mono HB1.out.size))
  obtain ⟨Ax, cx, rfl, _⟩ := hx.1.form
  generalize (wrongL m k).length = wll at *
  clear hx hb HC
  rcases HCs.out with rfl | rfl | rfl | rfl
  · go_wp2_with fail
    go_ret2
    exact ⟨by simp, HB2.out⟩
  · go_wp2_with fail
    go_ret2
    exact ⟨by simp, HB2.out⟩
  · go_wp2_with fail
    go_ret2
    exact ⟨by simp, HB2.out⟩
  · go_wp2_with fail
    go_ret2
    exact ⟨by simp, HB2.out⟩
set_option maxRecDepth 100000 in
set_option maxHeartbeats 8000000 in
theorem Trace_any (v u t : Value) (m : Mx) (k : Kx) (l : List Int) (w : World) (hv : MxV w v m) (hs : MSm m) (hu : KyV w u k) (hk : KSm k) (ht : InSl w w.heap.size t l) (hl : l.length ≤ 1000) :
    Calls Tryz.prog 21 #[v, u, t] w fun e w' => (∃ x, e = .returned (.tuple #[x, .int .i64 (traceE m k l)]) ∧ Fr w.heap.size w' x (traceL m k l)) ∧ Below w.heap.size w w' := by
  obtain ⟨A1, c1, A2, c2, W0, rfl, hW0, hb0, hM, hS, hR, hX⟩ := mx_box hv
  have hz : W0.heap.size = w.heap.size + 1 := by rw [← hW0]; simp
  obtain ⟨B1, d1, B2, d2, W1, rfl, hW1, hb1, hK, hNd, hV, hX1⟩ := ky_box (hu.step hb0)
  rw [hz] at hX1
  have HW := Lib.hid (And.intro hW0 hW1)
  have hB1 := hb0.trans (hb1.mono hb0.size)
  have HB1 := Lib.hid hB1
  have HX := Lib.hid (fun Y (h : Below W1.heap.size W1 Y) => And.intro (hX Y (hb1.trans (h.mono hb1.size))) (hX1 Y h))
  have HC := Lib.hid (CheckKey_any _ _ m k W1 (hM W1 hb1) hs (hK W1 (Below.refl _ _)) hk)
  have HSp := Lib.hid (fun Y (h : Below W1.heap.size W1 Y) => isSpecimen_any _ t m l Y (hM Y (hb1.trans (h.mono hb1.size))) (ht.step (hB1.trans (h.mono hB1.size))) (by omega))
  have HBg := Lib.hid (fun Y (h : Below W1.heap.size W1 Y) => begin_any _ k Y (hK Y h) hk)
  have HNd := Lib.hid (hNd W1 (Below.refl _ _))
  have HTs := Lib.hid (fun Y (h : Below W1.heap.size W1 Y) => ht.step (hB1.trans (h.mono hB1.size)))
  have HCk := Lib.hid (ck_cases m k)
  have HOk := Lib.hid (fun h : ckE m k = 0 => (ck_ok h).2.2)
  have HE := Lib.hid (show traceE m k l = (if ckE m k = 0 then (if specF m.st l = true then 0 else 32) else ckE m k) ∧ traceL m k l = (if traceE m k l = 0 then begF k :: trF k l (k.nd.length + 1) (begF k) else []) from ⟨rfl, rfl⟩)
  have HSk := Lib.hid (fun h : specF m.st l = true => spec_ok h)
  obtain ⟨ce, hce⟩ : ∃ c, ckE m k = c := ⟨_, rfl⟩
  obtain ⟨te, hte⟩ : ∃ c, traceE m k l = c := ⟨_, rfl⟩
  obtain ⟨tl, htl⟩ : ∃ c, traceL m k l = c := ⟨_, rfl⟩
  obtain ⟨sp, hsp⟩ : ∃ c, specF m.st l = c := ⟨_, rfl⟩
  obtain ⟨bg, hbg⟩ : ∃ c, begF k = c := ⟨_, rfl⟩
  rw [hce] at HC HE HCk HOk
  rw [hsp] at HSp HE HSk
  rw [hte, htl, hbg] at HE
  rw [hbg] at HBg
  rw [hte, htl]
  obtain ⟨n, hn⟩ : ∃ n, k.nd.length = n := ⟨_, rfl⟩
  have HN := Lib.hid hn
  have HLv := Lib.hid hk.2.1
  have hn1 : n ≤ 2000 := by have := hk.1; omega
  have HBgr := Lib.hid (show bg = -1 ∨ (bg = 0 ∧ 0 < n) from by rw [← hbg]; unfold begF; rw [hn]; split <;> omega)
  rw [hn] at HX HW HC HBg HNd HE
  rw [hn]
  obtain ⟨⟨k0, k1⟩, k2, k3⟩ := HX.out W1 (Below.refl _ _)
  obtain ⟨At, ct, rfl, _⟩ := ht.form
  obtain ⟨nt, hnt⟩ : ∃ n, l.length = n := ⟨_, rfl⟩
  have HNt := Lib.hid hnt
  rw [hnt] at HSp HTs ⊢
  obtain ⟨nl, hnl⟩ : ∃ n, k.lv.length = n := ⟨_, rfl⟩
  rw [hnl] at HW HX HC HBg k3 ⊢
  obtain ⟨ns, hns⟩ : ∃ n, m.st.length = n := ⟨_, rfl⟩
  have HNs := Lib.hid hns
  rw [hns] at HX HW HC HSp k0 ⊢
  generalize m.rows.length = nr at *
  clear hv hu hs hk ht hl hW0 hb0 hM hS hR hX hz hW1 hb1 hK hNd hV hX1 hce hte htl hsp hbg hn hnt hB1 hnl hns
  have bad : ∀ z : Int, te = z → z ≠ 0 → tl = [] := fun z h h0 => by rw [HE.out.2, h, if_neg h0]
  go_enter Tryz.func21, Tryz.ntmps21
  go_wp2_with fail
  rw [HW.out.1, HW.out.2]
  (try go_wp2_with fail)
  (with_reducible refine HC.out.mono ?_)
  rintro e w1 ⟨rfl, hb⟩
  have HB2 := Lib.hid hb
  clear k0 k1 k2 k3 HC hb
  obtain ⟨⟨k0, k1⟩, k2, k3⟩ := HX.out w1 HB2.out
  rcases HCk.out with h0 | h0 | h0
  rotate_left
  · subst h0
    have h1 : te = 30 := by rw [HE.out.1]; rfl
    have HF := Lib.hid (And.intro h1 (bad 30 h1 (by decide)))
    clear bad HE HCk HOk h1
    go_wp2_with fail
    go_ret2
    exact ⟨⟨_, by rw [HF.out.1]; rfl, by rw [HF.out.2]; exact Fr.nil _ _⟩, HB1.out.trans (HB2.out.mono HB1.out.size)⟩
  · subst h0
    have h1 : te = 31 := by rw [HE.out.1]; rfl
    have HF := Lib.hid (And.intro h1 (bad 31 h1 (by decide)))
    clear bad HE HCk HOk h1
    go_wp2_with fail
    go_ret2
    exact ⟨⟨_, by rw [HF.out.1]; rfl, by rw [HF.out.2]; exact Fr.nil _ _⟩, HB1.out.trans (HB2.out.mono HB1.out.size)⟩
  · subst h0
    have HOk1 := Lib.hid (HOk.out rfl)
    have HSp1 := Lib.hid (HSp.out w1 HB2.out)
    clear HOk HCk HSp
    go_wp2_with fail
    (with_reducible refine HSp1.out.mono ?_)
    rintro e w2 ⟨rfl, hb⟩
    have HB3 := Lib.hid (HB2.out.trans (hb.mono HB2.out.size))
    clear k0 k1 k2 k3 HSp1 hb
    obtain ⟨⟨k0, k1⟩, k2, k3⟩ := HX.out w2 HB3.out
    cases sp with
    | false =>
      have h1 : te = 32 := by rw [HE.out.1]; rfl
      have HF := Lib.hid (And.intro h1 (bad 32 h1 (by decide)))
      clear bad HE h1
      go_wp2_with fail
      go_ret2
      exact ⟨⟨_, by rw [HF.out.1]; rfl, by rw [HF.out.2]; exact Fr.nil _ _⟩, HB1.out.trans (HB3.out.mono HB1.out.size)⟩
    | true =>
      have h1 : te = 0 := by rw [HE.out.1]; rfl
      have HF := Lib.hid (show te = 0 ∧ tl = bg :: trF k l (n + 1) bg from ⟨h1, by rw [HE.out.2, h1, if_pos rfl]⟩)
      have HSk1 := Lib.hid (HSk.out rfl)
      have HBg1 := Lib.hid (HBg.out w2 HB3.out)
      clear bad HE h1 HSk HBg
      go_wp2_with fail
      (with_reducible refine HBg1.out.mono ?_)
      rintro e w3 ⟨rfl, hb⟩
      have HB4 := Lib.hid (HB3.out.trans (hb.mono HB3.out.size))
      clear k0 k1 k2 k3 HBg1 hb
      have HO0 := Lib.hid (show OwN w3 (.slice (some ⟨w3.heap.size, 0, none⟩) 1 1) [bg] (w3.alloc (.cells #[.int .i64 bg] 3)) from ⟨below_new _, one_own w3 w3 bg (Nat.le_refl _)⟩)
      go_wp2_with fail
      go_loopw [9, 10] (fun av pv wr => ∃ (a : Int) (d : Nat) (pre : List Int) (Ap : Option Addr) (np cp : Nat), av = .int .i64 a ∧ pv = .slice Ap np cp ∧ OwN w3 (.slice Ap np cp) pre wr ∧ pre ++ trF k l d a = tl ∧ a < n ∧ -3000 ≤ a ∧ (0 ≤ a → (n : Int) + 1 ≤ a + d) ∧ (pre.length : Int) ≤ (if a < 0 then (n : Int) + 2 else a + 1)) (fun av _ _ => if intOf av < 0 then 0 else (n - intOf av).toNat)
      case atStart => exact ⟨bg, n + 1, [bg], _, _, _, rfl, rfl, HO0.out, by rw [HF.out.2]; rfl, by have := HBgr.out; omega, by have := HBgr.out; omega, fun h => by have := HBgr.out; omega, by have := HBgr.out; split <;> simp <;> omega⟩
      case round =>
        obtain ⟨a, d, pre, Ap, np, cp, rfl, rfl, hO, hpt, han, ham, had, hpl⟩ := hrel
        have HO := Lib.hid hO
        have HPt := Lib.hid hpt
        have HBw := Lib.hid (HB4.out.trans (hO.bel.mono HB4.out.size))
        clear hO hpt
        obtain ⟨⟨k0, k1⟩, k2, k3⟩ := HX.out wr HBw.out
        by_cases h0 : a < 0
        · have hq : ¬ (0 : Int) ≤ a := by omega
          have HP := Lib.hid (show pre = tl from by rw [← HPt.out, tr_neg h0, List.append_nil])
          clear hpl
          go_wp2_with fail
          go_ret2
          refine ⟨⟨_, by rw [HF.out.1]; rfl, by rw [← HP.out]; exact (HO.out.fr).low (Nat.le_trans HB1.out.size HB4.out.size)⟩, HB1.out.trans (HBw.out.mono HB1.out.size)⟩
        · obtain ⟨i, rfl⟩ : ∃ i : Nat, a = (i : Int) := ⟨a.toNat, by omega⟩
          have hin : i < n := by omega
          obtain ⟨r, ad, Am, cm, hr, rfl, hY⟩ := HNd.out.at_ hin
          have hrk := HOk1.out.nd i r hr
          obtain ⟨c, hc⟩ : ∃ c : Nat, r.nm = (c : Int) := ⟨r.nm.toNat, by omega⟩
          have hspl := HSk1.out.1
          have hcn : c < nt := by have := HNt.out; omega
          have hcs : c < m.st.length := by omega
          obtain ⟨s0, adt, hs0, rfl, _, hcs0⟩ := (show InA wr wr.heap.size At l from by obtain ⟨_, _, e, _, _, h⟩ := HTs.out wr HBw.out; cases e; exact h).at_ HNt.out hcn
          have hrg := HSk1.out.2 c _ s0 (List.getElem?_eq_getElem hcs) hs0
          obtain ⟨s, rfl⟩ : ∃ s : Nat, s0 = (s : Int) := ⟨s0.toNat, by omega⟩
          obtain ⟨q, hq⟩ : ∃ q, r.may.length = q := ⟨_, rfl⟩
          have hsq : s < q := by
            have h3 := hrk.2.2.1
            rw [hc, Int.toNat_natCast, List.getD_eq_getElem?_getD, List.getElem?_eq_getElem hcs, Option.getD_some, hq] at h3
            omega
          have hbx := below_new (w := wr) (.cells #[.int .i64 r.nm, .slice Am r.may.length cm] 55)
          have hnx := World.alloc_heap_new wr (.cells #[.int .i64 r.nm, .slice Am r.may.length cm] 55)
          obtain ⟨V, hV⟩ : ∃ V, wr.alloc (.cells #[.int .i64 r.nm, .slice Am r.may.length cm] 55) = V := ⟨_, rfl⟩
          rw [hV] at hbx hnx
          have HBV := Lib.hid (HBw.out.trans (hbx.mono HBw.out.size))
          obtain ⟨x, adm, hx, hAm, _, _⟩ := (show InA V V.heap.size Am r.may from by obtain ⟨_, _, e, _, _, h⟩ := (hY V HBV.out).2; cases e; exact h).at_ hq hsq
          subst hAm
          have HCx := Lib.hid (fun Y (h : Below W1.heap.size W1 Y) => show Y.cell? (adm.add s) = some (.int .i64 x) from by
            obtain ⟨x', ad', hx', e, _, hc'⟩ := (show InA Y Y.heap.size (some adm) r.may from by obtain ⟨_, _, e, _, _, h⟩ := (hY Y h).2; cases e; exact h).at_ hq hsq
            injection e with e
            subst e
            rw [hx] at hx'; injection hx' with hx'; subst hx'
            exact hc')
          have HCt := Lib.hid (fun Y (h : Below wr.heap.size wr Y) => (h.cell (p := adt.add c) (World.block_lt_of_cell? _ _ hcs0)).trans hcs0)
          have hxr := hrk.2.2.2 x (List.mem_of_getElem? hx)
          obtain ⟨d', hd'⟩ : ∃ d', d = d' + 1 := ⟨d - 1, by have := had (by omega); omega⟩
          have HT := Lib.hid (show pre ++ [x] ++ trF k l d' x = tl from by
            rw [← HPt.out, hd', tr_node hr hc hs0 hx, List.append_assoc]; rfl)
          have HNx := Lib.hid hnx
          have HV := Lib.hid hV
          have HOV := Lib.hid (HO.out.step hbx)
          have HBx := Lib.hid hbx
          have HCc := Lib.hid (And.intro hc hq)
          have HNN := Lib.hid (show x < n ∧ -3000 ≤ x ∧ (0 ≤ x → (n : Int) + 1 ≤ x + d') ∧ (0 ≤ x → (i : Int) < x) from by
            have h5 := hxr
            have h6 := had (by omega)
            have h7 := HN.out
            have h8 : k.lv.length ≤ 3000 := by have := HLv.out; omega
            refine ⟨by omega, by omega, fun h => by have := h5.2.2 h; omega, h5.2.2⟩)
          have HPl := Lib.hid (show pre.length ≤ i + 1 from by
            have h5 := hpl
            rw [if_neg (by omega)] at h5
            omega)
          obtain ⟨e0, e1⟩ := (hY wr HBw.out).1
          have ss := fun z : Wb V => And.intro (cells_two ((z.h.block _ (Array.getElem?_eq_some_iff.1 hnx).1).trans hnx)) (And.intro (HCx.out z.v (HBV.out.trans (z.h.mono HBV.out.size))) (HCt.out z.v (hbx.trans (z.h.mono hbx.size))))
          rw [hc] at e0
          rw [hq] at e1
          rw [hc, hq] at HV
          simp only [hc, hq] at ss
          clear hr hrk hc hspl hcs hs0 hrg hq hbx hnx hV hx hxr hd' hY had hpl hcs0
          have hi0 : (0 : Int) ≤ (i : Int) := by omega
          go_wp2_with fail
          rw [HV.out]
          refine wp_region_wb (by kernel_rfl) (by kernel_rfl) ?_; (repeat ((with_reducible refine wpQuiet_step ?_); intro K hK; go_simp; (try (refine ite_neg_of (by simp [undef]) ?_)); first | (with_reducible refine hK _ ?_; clear hK K) | (apply Exists.intro; (with_reducible refine ⟨fun _ => ?_, hK _ ?_⟩); (fail); clear hK K))); (with_reducible refine wpQuiet_nil ?_); rintro w1 ⟨⟨_, hb1⟩, rfl⟩; (try dsimp only)
          have HBz := Lib.hid hb1
          have HOz := Lib.hid (HOV.out.step hb1)
          clear ss hb1 k0 k1 k2 k3 e0 e1
          go_wp2_with (at_builtin; refine wpList_appN rfl _ _ rfl (HOz.out.step (below_new _)) rfl rfl (one_sl _ _) (by have := HPl.out; simp; omega) ?_; intro v6 w6 hO6 hg6; obtain ⟨A6, c6, rfl, _⟩ := hO6.sl.form; have HO6 := Lib.hid hO6; clear hO6 hg6)
          go_roundw
          case rel => exact ⟨x, d', pre ++ [x], _, _, _, rfl, rfl, by first | exact HO6.out | (have h := HO6.out; rw [List.length_append, List.length_singleton] at h; exact h), HT.out, HNN.out.1, HNN.out.2.1, HNN.out.2.2.1, by
            have h1 := HPl.out
            have h2 := HNN.out.2.2.2
            rw [List.length_append, List.length_singleton]
            split <;> omega⟩
          case measure =>
            have h2 := HNN.out.2.2.2
            have h3 : ¬ (i : Int) < 0 := by omega
            show (if x < 0 then 0 else ((n : Int) - x).toNat) < (if (i : Int) < 0 then 0 else ((n : Int) - (i : Int)).toNat)
            rw [if_neg h3]
            by_cases h4 : x < 0
            · rw [if_pos h4]; omega
            · rw [if_neg h4]; omega
end Go.Proofs.YthfegbcbpeedbaaGreatDoor
namespace Go.Ky
open Go.Nm
theorem any_find {α : Type} {p : α → Bool} {L : List α} {r : α} (h : L.find? p = some r) : L.any p = true := List.any_eq_true.2 ⟨r, List.mem_of_find?_eq_some h, List.find?_some h⟩
theorem any_none {α : Type} {p : α → Bool} {L : List α} (h : L.find? p = none) : L.any p = false := by
  rw [List.any_eq_false]
  intro x hx
  exact List.find?_eq_none.1 h x hx
end Go.Ky
namespace Go.Proofs.YthfegbcbpeedbaaGreatDoor
open Go.RowKit Go.Nm Go.Ky

set_option maxRecDepth 100000 in
set_option maxHeartbeats 4000000 in
theorem useful1_any (g h : Nat) (r : Rw) (Am : Option Addr) (cm c : Nat) (x : Int) (w : World) (hg : w.heap[g]? = some (.cells #[.int .i64 x] 3)) (hh : w.heap[h]? = some (.cells #[.int .i64 (c : Int)] 3)) (hm : InSl w w.heap.size (.slice Am r.may.length cm) r.may) (hc : c < r.may.length) (_hn : r.may.length ≤ 100000) :
    Calls Tryz.prog 99 #[.agg #[.int .i64 r.nm, .slice Am r.may.length cm], .pointer (some ⟨g, 0, none⟩), .pointer (some ⟨h, 0, none⟩)] w fun e w' => e = .returned (.bool (decide (notF x (r.may.getD c 0) ≠ 0))) ∧ Below w.heap.size w w' := by
  have hb := below_new (w := w) (.cells #[.int .i64 r.nm, .slice Am r.may.length cm] 58)
  have hnx := World.alloc_heap_new w (.cells #[.int .i64 r.nm, .slice Am r.may.length cm] 58)
  obtain ⟨W0, hW0⟩ : ∃ W, w.alloc (.cells #[.int .i64 r.nm, .slice Am r.may.length cm] 58) = W := ⟨_, rfl⟩
  rw [hW0] at hb hnx
  obtain ⟨y, ad, hy, rfl, _, hcy⟩ := (show InA W0 W0.heap.size Am r.may from by obtain ⟨_, _, e, _, _, h⟩ := hm.step hb; cases e; exact h).at_ rfl hc
  have e1 : r.may.getD c 0 = y := by rw [List.getD_eq_getElem?_getD, hy]; rfl
  rw [e1]
  have ss := fun z : Wb W0 => And.intro (cells_two ((z.h.block _ (Array.getElem?_eq_some_iff.1 hnx).1).trans hnx)) (And.intro (cell_one (((hb.trans (z.h.mono hb.size)).block _ (Array.getElem?_eq_some_iff.1 hg).1).trans hg)) (And.intro (cell_one (((hb.trans (z.h.mono hb.size)).block _ (Array.getElem?_eq_some_iff.1 hh).1).trans hh)) ((z.h.cell (p := ad.add c) (World.block_lt_of_cell? _ _ hcy)).trans hcy)))
  have HW0 := Lib.hid hW0
  have HB := Lib.hid hb
  obtain ⟨z, hz⟩ : ∃ z, bits BinOp.andNot IntKind.i64 x y = z := ⟨_, rfl⟩
  have hz2 : notF x y = z := hz
  rw [hz2]
  clear hz2
  generalize r.may.length = rl at *
  clear hg hh hm hb hnx hW0 hy hcy e1
  go_enter Tryz.func99, Tryz.ntmps99
  go_wp2_with fail
  rw [HW0.out]
  refine wp_region_wb (by kernel_rfl) (by kernel_rfl) ?_; (repeat ((with_reducible refine wpQuiet_step ?_); intro K hK; go_simp; (try (refine ite_neg_of (by simp [undef]) ?_)); first | (with_reducible refine hK _ ?_; clear hK K) | (apply Exists.intro; (with_reducible refine ⟨fun _ => ?_, hK _ ?_⟩); (fail); clear hK K))); (with_reducible refine wpQuiet_nil ?_); rintro w1 ⟨⟨_, hb1⟩, rfl⟩; (try dsimp only)
  have HB1 := Lib.hid (HB.out.trans (hb1.mono HB.out.size))
  clear hb1 ss
  go_wp2_with fail
  go_ret
  exact ⟨by first | rfl | (by_cases h0 : z = 0 <;> simp [h0]), HB1.out⟩
set_option maxRecDepth 100000 in
set_option maxHeartbeats 4000000 in
theorem ContainsUs_any (g h : Nat) (P : Rw → Bool) (v : Value) (L : List Rw) (w : World) (hv : IlSl w w.heap.size v L) (hn : L.length ≤ 100000)
    (hF : ∀ X, Below w.heap.size w X → ∀ (r : Rw) (Am : Option Addr) (cm : Nat), r ∈ L → InSl X X.heap.size (.slice Am r.may.length cm) r.may → Calls Tryz.prog 99 #[.agg #[.int .i64 r.nm, .slice Am r.may.length cm], .pointer (some ⟨g, 0, none⟩), .pointer (some ⟨h, 0, none⟩)] X fun e w' => e = .returned (.bool (P r)) ∧ Below X.heap.size X w') :
    Calls Tryz.prog 98 #[v, .func (.func 99) #[] #[.pointer (some ⟨g, 0, none⟩), .pointer (some ⟨h, 0, none⟩)]] w fun e w' => e = .returned (.bool (L.any P)) ∧ Below w.heap.size w w' := by
  have HC := Lib.hid (IndexUs_any g h P v L w hv hn hF)
  obtain ⟨A, c, rfl⟩ := hv.form
  have HN := Lib.hid hn
  obtain ⟨n, hn⟩ : ∃ n, L.length = n := ⟨_, rfl⟩
  have HNe := Lib.hid hn
  rw [hn] at HC ⊢
  clear hv hF hn
  go_enter Tryz.func98, Tryz.ntmps98
  go_wp2_with fail
  (with_reducible refine HC.out.mono ?_)
  rintro e w1 ⟨hR, hb⟩
  have HB := Lib.hid hb
  clear hb HC
  rcases hR with ⟨i, r, rfl, hr, hi, hf⟩ | ⟨rfl, hf⟩
  · have HF := Lib.hid (any_find hf)
    clear hf hr
    have hi2 : i < 100001 := by have := HN.out; have := HNe.out; omega
    go_wp2_with fail
    go_ret
    exact ⟨by rw [HF.out]; simp, HB.out⟩
  · have HF := Lib.hid (any_none hf)
    clear hf
    go_wp2_with fail
    go_ret
    exact ⟨by rw [HF.out]; simp, HB.out⟩
set_option maxRecDepth 100000 in
set_option maxHeartbeats 4000000 in
theorem isUseful_any (v : Value) (L : List Rw) (c : Nat) (x : Int) (w : World) (hv : IlSl w w.heap.size v L) (hn : L.length ≤ 100000) (hL : ∀ r ∈ L, c < r.may.length ∧ r.may.length ≤ 100000) :
    Calls Tryz.prog 81 #[v, .int .i64 (c : Int), .int .i64 x] w fun e w' => e = .returned (.bool (usefulF L c x)) ∧ Below w.heap.size w w' := by
  have hb0 := below_new (w := w) (.cells #[.int .i64 (c : Int)] 3)
  have hn0 := World.alloc_heap_new w (.cells #[.int .i64 (c : Int)] 3)
  obtain ⟨W0, hW0⟩ : ∃ W, w.alloc (.cells #[.int .i64 (c : Int)] 3) = W := ⟨_, rfl⟩
  have hz : W0.heap.size = w.heap.size + 1 := by rw [← hW0]; simp
  rw [hW0] at hb0 hn0
  have hb1 := below_new (w := W0) (.cells #[.int .i64 x] 3)
  have hn1 := World.alloc_heap_new W0 (.cells #[.int .i64 x] 3)
  obtain ⟨W1, hW1⟩ : ∃ W, W0.alloc (.cells #[.int .i64 x] 3) = W := ⟨_, rfl⟩
  rw [hW1, hz] at hn1
  rw [hW1] at hb1
  have hn0 := (hb1.block _ (Array.getElem?_eq_some_iff.1 hn0).1).trans hn0
  have hB := hb0.trans (hb1.mono hb0.size)
  have HB := Lib.hid hB
  have HC := Lib.hid (ContainsUs_any (w.heap.size + 1) w.heap.size (fun r => decide (notF x (r.may.getD c 0) ≠ 0)) v L W1 (hv.step hB) hn (fun X hX r Am cm hr hm => useful1_any (w.heap.size + 1) w.heap.size r Am cm c x X ((hX.block _ (Array.getElem?_eq_some_iff.1 hn1).1).trans hn1) ((hX.block _ (Array.getElem?_eq_some_iff.1 hn0).1).trans hn0) hm (hL r hr).1 (hL r hr).2))
  have HU := Lib.hid (show usefulF L c x = (decide (1 < L.length) && L.any fun r => decide (notF x (r.may.getD c 0) ≠ 0)) from rfl)
  rw [HU.out]
  obtain ⟨b, hb⟩ : ∃ b, (L.any fun r => decide (notF x (r.may.getD c 0) ≠ 0)) = b := ⟨_, rfl⟩
  rw [hb] at HC ⊢
  obtain ⟨A, cc, rfl⟩ := hv.form
  have HW := Lib.hid (And.intro hW0 hW1)
  obtain ⟨n, hnn⟩ : ∃ n, L.length = n := ⟨_, rfl⟩
  rw [hnn] at hn HC ⊢
  clear hv hL hb0 hn0 hW0 hz hb1 hn1 hW1 hB hb HU hnn
  by_cases h1 : 1 < n
  · have h1i : (1 : Int) < (n : Int) := by omega
    have HD := Lib.hid (decide_eq_true h1)
    clear h1
    go_enter Tryz.func81, Tryz.ntmps81
    go_wp2_with fail
    rw [HW.out.1, HW.out.2]
    (try go_wp2_with fail)
    (with_reducible refine HC.out.mono ?_)
    rintro e w1 ⟨rfl, hb⟩
    have HB1 := Lib.hid (HB.out.trans (hb.mono HB.out.size))
    clear hb
    go_wp2_with fail
    go_ret
    exact ⟨by rw [HD.out]; simp, HB1.out⟩
  · have h1i : ¬ (1 : Int) < (n : Int) := by omega
    have HD := Lib.hid (decide_eq_false h1)
    clear h1
    go_enter Tryz.func81, Tryz.ntmps81
    go_wp2_with fail
    rw [HW.out.1, HW.out.2]
    (try go_wp2_with fail)
    go_ret
    exact ⟨by rw [HD.out]; simp, HB.out⟩
set_option maxRecDepth 100000 in
set_option maxHeartbeats 4000000 in
theorem grow1_any (g h : Nat) (v u : Value) (L : List Rw) (l : List Int) (c : Nat) (w : World) (hg : w.heap[g]? = some (.cells #[v] 23)) (hh : w.heap[h]? = some (.cells #[u] 22)) (hv : IlSl w w.heap.size v L) (hu : InSl w w.heap.size u l) (hn : L.length ≤ 100000) (_hl : l.length ≤ 100000) (hc : c < l.length) (hL : ∀ r ∈ L, c < r.may.length ∧ r.may.length ≤ 100000) :
    Calls Tryz.prog 80 #[.int .i64 (c : Int), .pointer (some ⟨g, 0, none⟩), .pointer (some ⟨h, 0, none⟩)] w fun e w' => e = .returned (.bool (usefulF L c (l.getD c 0))) ∧ Below w.heap.size w w' := by
  obtain ⟨A, cc, rfl⟩ := hv.form
  obtain ⟨Au, cu, rfl, _⟩ := hu.form
  obtain ⟨x, ad, hx, rfl, _, hcx⟩ := (show InA w w.heap.size Au l from by obtain ⟨_, _, e, _, _, h⟩ := hu; cases e; exact h).at_ rfl hc
  have e1 : l.getD c 0 = x := by rw [List.getD_eq_getElem?_getD, hx]; rfl
  rw [e1]
  have hd : Below w.heap.size w w.drew := (Below.refl _ _).drew
  have HC := Lib.hid (isUseful_any _ L c x w.drew (hv.step hd) hn hL)
  have c0 := cell_one hg
  have c1 := cell_one hh
  have hci : (c : Int) < (l.length : Int) := by omega
  generalize L.length = n at *
  generalize l.length = nl at *
  clear hg hh hv hu hL hx e1
  go_enter Tryz.func80, Tryz.ntmps80
  go_wp2_with fail
  refine wp_region_tail 6 (by kernel_rfl) (by kernel_rfl) ?_
  simp only [List.take_succ_cons, List.take_zero, List.drop_succ_cons, List.drop_zero]
  repeat still_step
  refine wpStill_nil ?_
  go_wp2_with fail
  (with_reducible refine HC.out.mono ?_)
  rintro e w1 ⟨rfl, hb⟩
  have HB1 := Lib.hid (hd.trans hb)
  clear hb
  go_wp2_with fail
  go_ret
  exact ⟨rfl, HB1.out⟩
end Go.Proofs.YthfegbcbpeedbaaGreatDoor
namespace Go.Proofs.YthfegbcbpeedbaaGreatDoor
open Go.RowKit Go.Nm Go.Ky

/-- v is a slice of these rows, whose lists are as E says -/
def Il2 (X : World) (B : Nat) (E : Rw → Value → Prop) (v : Value) (L : List Rw) : Prop :=
  ∃ A c, v = .slice A L.length c ∧ ∀ (i : Nat) (r : Rw), L[i]? = some r → ∃ ad vm, A = some ad ∧ ad.block < B ∧ X.cell? (ad.add (i * 2)) = some (.int .i64 r.nm) ∧ X.cell? ⟨(ad.add (i * 2)).block, (ad.add (i * 2)).off + 1, none⟩ = some vm ∧ E r vm
theorem Il2.same {X : World} {B n c : Nat} {E : Rw → Value → Prop} {ad : Addr} {L : List Rw} (h : Il2 X B E (.slice (some ad) n c) L) {i : Nat} {r : Rw} (hr : L[i]? = some r) {vm : Value} (hc : X.cell? ⟨(ad.add (i * 2)).block, (ad.add (i * 2)).off + 1, none⟩ = some vm) : E r vm := by
  obtain ⟨A, c', e, h2⟩ := h
  injection e with e1 e2 e3
  subst e1
  obtain ⟨ad', vm', e4, _, _, h5, h6⟩ := h2 i r hr
  injection e4 with e4
  subst e4
  rw [hc] at h5
  injection h5 with h5
  subst h5
  exact h6
theorem Il2.ilSl {X : World} {B : Nat} {E : Rw → Value → Prop} {v : Value} {L : List Rw} (h : Il2 X B E v L) (hE : ∀ r vm, E r vm → InSl X B vm r.may) : IlSl X B v L := by
  obtain ⟨A, c, e, h2⟩ := h
  refine ⟨A, c, e, fun i r hr => ?_⟩
  obtain ⟨ad, vm, e4, h3, h4, h5, h6⟩ := h2 i r hr
  exact ⟨ad, vm, e4, h3, h4, h5, hE r vm h6⟩
theorem Il2.form {X : World} {B : Nat} {E : Rw → Value → Prop} {v : Value} {L : List Rw} (h : Il2 X B E v L) : ∃ A c, v = .slice A L.length c := by
  obtain ⟨A, c, e, _⟩ := h; exact ⟨A, c, e⟩
theorem Il2.nil (X : World) (B : Nat) (E : Rw → Value → Prop) : Il2 X B E (.slice none 0 0) [] := ⟨none, 0, rfl, fun i r h => by simp at h⟩
theorem IlSl.il2 {X : World} {B : Nat} {v : Value} {L : List Rw} (h : IlSl X B v L) : Il2 X B (fun r vm => InSl X B vm r.may) v L := by
  obtain ⟨A, c, e, h2⟩ := h
  exact ⟨A, c, e, h2⟩
/-- a row of rows of the call's own -/
structure RmJ (W : World) (E : Rw → Value → Prop) (L : List Rw) (vals : List Value) (vs : Value) (X : World) : Prop where
  bel : Below W.heap.size W X
  own : X.ownsRow W.heap.size 58 2 vs L.length vals
  ele : Els E L vals
section
variable {W : World} {E : Rw → Value → Prop} {L : List Rw} {vals : List Value} {vs : Value} {X Y : World}
theorem RmJ.start (W : World) : RmJ W E [] [] (.slice none 0 0) W := ⟨Below.refl _ _, World.ownsRow_nil _ _ _ _, Els.nil _⟩
theorem RmJ.step (h : RmJ W E L vals vs X) (hb : Below X.heap.size X Y) : RmJ W E L vals vs Y := ⟨h.bel.trans (hb.mono h.bel.size), own_step h.own hb, h.ele⟩
theorem RmJ.il2 (h : RmJ W E L vals vs X) : Il2 X X.heap.size E vs L := by
  rcases h.own.2 with ⟨e, h0⟩ | ⟨g, cap, cur, e, hb, hg, h1, h2, h3, h4⟩
  · have hl := List.length_eq_zero_iff.1 h0
    subst hl
    rw [e]
    exact Il2.nil _ _ _
  · refine ⟨_, _, e, fun i x hx => ?_⟩
    obtain ⟨vm, c0, c1, hv⟩ := h.ele.2 i x hx
    have hc := h.own.cells (g := g) (by rw [e]; rfl)
    refine ⟨⟨g, 0, none⟩, vm, rfl, (Array.getElem?_eq_some_iff.1 hg).1, ?_, ?_, hv⟩
    · exact hc (i * 2) _ c0
    · rw [add_zero_k]
      have := hc (i * 2 + 1) _ c1
      rw [add_zero_k] at this
      exact this
theorem RmJ.slice (h : RmJ W E L vals vs X) : ∃ A n c, vs = .slice A n c := by
  obtain ⟨A, c, e⟩ := h.il2.form
  exact ⟨A, _, c, e⟩
theorem RmJ.lt (h : RmJ W E L vals vs X) {g : Nat} (e : vs.ownBlock = some g) : W.heap.size ≤ g ∧ g < X.heap.size := h.own.lt g e
theorem wpList_app_rj {ops : Array Oper} {rest : List Oper} {o : Oper} {a : Act} {Q : Exit → Act → World → Prop} {w : World} {Am : Option Addr} {cm : Nat} (hgd : o.guard = none) (s x : Operand) (ho : o.op = .call { callee := .builtin .append, args := #[s, x], argTypes := #[23, 23] })
    {r : Rw} (hs : a.eval s = vs) (h : RmJ W E L vals vs w) (g : Nat) (hx : a.eval x = .slice (some ⟨g, 0, none⟩) 1 1) (hc : w.heap[g]? = some (.cells #[.int .i64 r.nm, .slice Am r.may.length cm] 58)) (hr : E r (.slice Am r.may.length cm)) (hn : L.length ≤ 100000)
    (hK : ∀ v' w', RmJ W E (L ++ [r]) (vals ++ [.int .i64 r.nm, .slice Am r.may.length cm]) v' w' → wpList Tryz.prog ops Q rest (a.put o.dst v') w') : wpList Tryz.prog ops Q (o :: rest) a w := by
  refine wpList_plain hgd fun _ hK2 => ?_
  obtain ⟨i0, hi0, hz0, hz1, hz2⟩ := infoR
  obtain ⟨v', w', hr', h2, h3, _, h5⟩ := run_append_own_at (P := Tryz.prog) (w := w) W.heap.size 23 o.type 58 i0 _ 2 32 Tryz.underlying23 hi0 hz0 hz1 hz2 rfl (by decide) vs L.length vals h.own ⟨g, 0, none⟩ 1 1 [.int .i64 r.nm, .slice Am r.may.length cm] rfl
    (fun j u hj => by rw [add_zero_k]; simpa [World.cell?, hc] using hj) (fun u hu => by simp at hu; rcases hu with rfl | rfl <;> rfl) (by unfold maxLen; omega) (by omega) h.bel.size
  unfold Oper.wp execOp
  simp only [ho, resolve, invoke, builtin, Sem.run_bind, Sem.run_pure, Result.andThen_ok, List.map_toArray, List.map_cons, List.map_nil, hs, hx, hr']
  exact hK2 _ _ (hK v' w' ⟨h.bel.grown h3 h.bel.size fun q e => (h.own.lt q e).1, by rw [List.length_append]; exact h2, h.ele.snoc hr⟩)
end
set_option maxRecDepth 100000 in
set_option maxHeartbeats 8000000 in
theorem remaining2_any (E : Rw → Value → Prop) (v u : Value) (L : List Rw) (l : List Int) (w : World) (hq : Il2 w w.heap.size E v L) (hv : IlSl w w.heap.size v L) (hu : InSl w w.heap.size u l) (hlen : ∀ r ∈ L, l.length = r.may.length) (hn : L.length ≤ 1000) (hl : l.length ≤ 1000000) :
    Calls Tryz.prog 41 #[v, u] w fun e w' => (∃ vs, e = .returned vs ∧ Il2 w' w'.heap.size E vs (remL L l) ∧ ∀ g, vs.ownBlock = some g → w.heap.size ≤ g ∧ g < w'.heap.size) ∧ Below w.heap.size w w' := by
  have HU := Lib.hid hv
  have HQ2 := Lib.hid hq
  have HT := Lib.hid hu
  have HLn := Lib.hid hlen
  have HLl := Lib.hid hl
  obtain ⟨A, c, rfl⟩ := hv.form
  obtain ⟨Au, cu, rfl, _⟩ := hu.form
  obtain ⟨n, h⟩ : ∃ n, L.length = n := ⟨_, rfl⟩
  have HN := Lib.hid h
  obtain ⟨nl, h2⟩ : ∃ nl, l.length = nl := ⟨_, rfl⟩
  rw [h] at HU hn ⊢
  rw [h2] at HT ⊢
  have HR := Lib.hid (show remL L l = L.filter (fun r => fitsF r.may l) from rfl)
  obtain ⟨res, hres⟩ : ∃ res, remL L l = res := ⟨_, rfl⟩
  rw [hres] at HR ⊢
  have HI0 := Lib.hid (RmJ.start (E := E) w)
  clear hv hq hu hlen hl h h2 hres
  go_enter Tryz.func41, Tryz.ntmps41
  go_wp2_with fail
  go_loopw [5, 10] (fun ov iv wr => ∃ (i : Nat) (vals : List Value) (Ao : Option Addr) (no co : Nat), ov = .slice Ao no co ∧ iv = .int .i64 (i : Int) ∧ i ≤ n ∧ RmJ w E ((L.take i).filter fun r => fitsF r.may l) vals ov wr) (fun _ iv _ => n - (intOf iv).toNat)
  case atStart => exact ⟨0, [], _, _, _, rfl, rfl, by omega, HI0.out⟩
  case round =>
    obtain ⟨i, vals, Ao, no, co, rfl, rfl, hin, hI⟩ := hrel
    have HI := Lib.hid hI
    clear hI
    by_cases hlt : i < n
    · obtain ⟨r, ad, Am, cm, hr, rfl, hY⟩ := HU.out.at_ hlt
      obtain ⟨⟨d0, d1⟩, _⟩ := hY wr HI.out.bel
      have HMw := Lib.hid (show E r (.slice Am r.may.length cm) from HQ2.out.same hr (hY w (Below.refl _ _)).1.2)
      have hbx := below_new (w := wr) (.cells #[.int .i64 r.nm, .slice Am r.may.length cm] 58)
      have hnx := World.alloc_heap_new wr (.cells #[.int .i64 r.nm, .slice Am r.may.length cm] 58)
      have HNx := Lib.hid hnx
      have HI2 := Lib.hid (HI.out.step hbx)
      have HFi := Lib.hid (fits_any _ _ r l _ ⟨Am, cm, rfl, (hY _ HI2.out.bel).2⟩ (HT.out.step HI2.out.bel) (HLn.out r (List.mem_of_getElem? hr)) HLl.out)
      have HQ := Lib.hid hr
      have HLq := Lib.hid (show ((L.take i).filter fun r => fitsF r.may l).length ≤ 100000 from by
        have h1 := List.length_filter_le (fun r : Rw => fitsF r.may l) (L.take i)
        have h2 := List.length_take_le i L
        omega)
      have hgx : wr.heap.size < (wr.alloc (.cells #[.int .i64 r.nm, .slice Am r.may.length cm] 58)).heap.size := (Array.getElem?_eq_some_iff.1 hnx).1
      clear hr hY hbx hnx
      go_wp2_with fail
      (with_reducible refine HFi.out.mono ?_)
      rintro e w3 ⟨rfl, hb⟩
      have HI3 := Lib.hid (HI2.out.step hb)
      have hn3 := (hb.block _ hgx).trans HNx.out
      obtain ⟨k0, k1⟩ := cells_two hn3
      clear hb HFi d0 d1 hn3 hgx
      cases hf : fitsF r.may l with
      | true =>
        have HP := Lib.hid (show (L.take (i + 1)).filter (fun r => fitsF r.may l) = (L.take i).filter (fun r => fitsF r.may l) ++ [r] from by rw [filter_take HQ.out, if_pos hf])
        clear hf
        go_wp2_with (at_builtin; refine wpList_app_rj (Am := Am) (cm := cm) (r := r) rfl _ _ rfl rfl (HI3.out.step (below_new _)) w3.heap.size rfl (World.alloc_heap_new _ _) HMw.out HLq.out ?_; intro v6 w6 hI6; obtain ⟨A6, n6, c6, rfl⟩ := hI6.slice; have HI6 := Lib.hid hI6; clear hI6)
        go_roundw
        case rel => exact ⟨i + 1, _, _, _, _, rfl, by go_num, by omega, by rw [HP.out]; exact HI6.out⟩
        case measure => simp [intOf]; omega
      | false =>
        have HP := Lib.hid (show (L.take (i + 1)).filter (fun r => fitsF r.may l) = (L.take i).filter (fun r => fitsF r.may l) from by rw [filter_take HQ.out, if_neg (by rw [hf]; simp)]; simp)
        clear hf
        go_wp2_with fail
        go_roundw
        case rel => exact ⟨i + 1, _, _, _, _, rfl, by go_num, by omega, by rw [HP.out]; exact HI3.out⟩
        case measure => simp [intOf]; omega
    · obtain rfl : n = i := by omega
      have HF := Lib.hid (show (L.take n).filter (fun r => fitsF r.may l) = res from by rw [HR.out, List.take_of_length_le (by have := HN.out; omega)])
      have HI2 := Lib.hid HI.out
      rw [HF.out] at HI2
      go_wp2_with fail
      go_ret
      exact ⟨⟨_, rfl, HI2.out.il2, fun g e => HI2.out.lt e⟩, HI2.out.bel⟩
end Go.Proofs.YthfegbcbpeedbaaGreatDoor
namespace Go.Proofs.YthfegbcbpeedbaaGreatDoor
open Go.RowKit Go.Nm Go.Ky

/-- only blocks of O turn -/
def Chg (O : Nat → Prop) (X Y : World) : Prop := X.heap.size ≤ Y.heap.size ∧ ∀ i o, X.heap[i]? = some o → ¬ O i → Y.heap[i]? = some o
/-- O' adds to O what is new -/
def Fro (O O' : Nat → Prop) (X : World) : Prop := ∀ g, O' g → O g ∨ X.heap.size ≤ g
/-- a list outside O -/
def Apt (X : World) (O : Nat → Prop) (u : Value) (L : List Int) : Prop := InSl X X.heap.size u L ∧ (L ≠ [] → ∀ g, u.ownBlock = some g → ¬ O g)
section
variable {O O' O'' : Nat → Prop} {X Y Z : World} {u : Value} {L : List Int}
theorem Chg.refl (O : Nat → Prop) (X : World) : Chg O X X := ⟨Nat.le_refl _, fun _ _ h _ => h⟩
theorem Chg.trans2 (h : Chg O X Y) (hf : Fro O O' X) (k : Chg O' Y Z) : Chg O X Z :=
  ⟨Nat.le_trans h.1 k.1, fun i o hi hn => k.2 i o (h.2 i o hi hn) (fun h2 => by
    rcases hf i h2 with h3 | h3
    · exact hn h3
    · have := (Array.getElem?_eq_some_iff.1 hi).1; omega)⟩
theorem Chg.of_below (h : Below X.heap.size X Y) : Chg O X Y := ⟨h.size, fun i _ hi _ => (h.block i (Array.getElem?_eq_some_iff.1 hi).1).trans hi⟩
theorem Chg.of_grown {row : Option Nat} (hg : X.grownBy Y row) (h : ∀ r, row = some r → O r) : Chg O X Y :=
  ⟨hg.size, fun i _ hi hn => (hg.block i (Array.getElem?_eq_some_iff.1 hi).1 (fun e => hn (h i e.symm))).trans hi⟩
theorem Fro.refl (O : Nat → Prop) (X : World) : Fro O O X := fun _ h => .inl h
theorem Fro.trans (h : Fro O O' X) (hs : X.heap.size ≤ Y.heap.size) (k : Fro O' O'' Y) : Fro O O'' X := fun g hg => by
  rcases k g hg with h1 | h1
  · exact h g h1
  · exact .inr (Nat.le_trans hs h1)
theorem Apt.chg (h : Apt X O u L) (hc : Chg O X Y) (hf : Fro O O' X) : Apt Y O' u L := by
  cases L with
  | nil =>
    obtain ⟨⟨A, c, e, h1, h2, h3⟩, _⟩ := h
    exact ⟨⟨A, c, e, h1, h2, InA.nil _ _ _⟩, fun h => absurd rfl h⟩
  | cons x L =>
    have hlt : ∀ g, u.ownBlock = some g → g < X.heap.size := fun g e => h.1.ownLt (by simp) e
    have hno := h.2 (by simp)
    refine ⟨(h.1.keepOwn fun p hp => ?_).mono hc.1, fun _ g e h2 => ?_⟩
    · have h3 := hlt _ hp
      exact World.cell?_of_block ((hc.2 _ _ (Array.getElem?_eq_getElem h3) (hno _ hp)).trans (Array.getElem?_eq_getElem h3).symm)
    · rcases hf g h2 with h3 | h3
      · exact hno g e h3
      · have := hlt g e; omega
theorem Apt.nil (X : World) (O : Nat → Prop) : Apt X O (.slice none 0 0) [] := ⟨InSl.nil _ _, fun h => absurd rfl h⟩
theorem IwI.chg {W : World} {gw n : Nat} {f : Nat → Int} (h : IwI W gw n f X) (hc : Chg O X Y) (hb : Below W.heap.size W Y) (hg : ¬ O gw) : IwI W gw n f Y := by
  obtain ⟨cs, h1, h2⟩ := h.cs
  exact ⟨hb, ⟨cs, hc.2 _ _ h1 hg, h2⟩, h.base⟩
theorem Els.mono {E E' : Rw → Value → Prop} {L : List Rw} {vals : List Value} (h : Els E L vals) (hE : ∀ r vm, E r vm → E' r vm) : Els E' L vals := ⟨h.1, fun i x hx => by
  obtain ⟨vm, h1, h2, h3⟩ := h.2 i x hx
  exact ⟨vm, h1, h2, hE x vm h3⟩⟩
end
/-- the blocks of a key of the call's own -/
def Ob (gk : Nat) (rn rl : Option Nat) : Nat → Prop := fun g => g = gk ∨ rn = some g ∨ rl = some g
def LvE (E : List Int → Value → Prop) (LL : List (List Int)) (vals : List Value) : Prop := vals.length = LL.length ∧ ∀ (i : Nat) (l : List Int), LL[i]? = some l → ∃ u, vals[i]? = some u ∧ E l u
theorem LvE.mono {E E' : List Int → Value → Prop} {LL : List (List Int)} {vals : List Value} (h : LvE E LL vals) (hE : ∀ l u, E l u → E' l u) : LvE E' LL vals := ⟨h.1, fun i x hx => by
  obtain ⟨u, h1, h2⟩ := h.2 i x hx
  exact ⟨u, h1, hE x u h2⟩⟩
theorem LvE.snoc {E : List Int → Value → Prop} {LL : List (List Int)} {vals : List Value} (h : LvE E LL vals) {l : List Int} {u : Value} (hu : E l u) : LvE E (LL ++ [l]) (vals ++ [u]) := by
  refine ⟨by simp [h.1], fun i x hx => ?_⟩
  by_cases hi : i < LL.length
  · rw [List.getElem?_append_left hi] at hx
    obtain ⟨u', h1, h2⟩ := h.2 i x hx
    exact ⟨u', (List.getElem?_append_left (by rw [h.1]; exact hi)).trans h1, h2⟩
  · rw [List.getElem?_append_right (by omega)] at hx
    have e1 : i - LL.length = 0 := by have := (List.getElem?_eq_some_iff.1 hx).1; simp at this; omega
    rw [e1] at hx
    simp at hx
    subst hx
    refine ⟨u, ?_, hu⟩
    rw [List.getElem?_append_right (by rw [h.1]; omega), h.1, e1]
    rfl
/-- .. and what is kept free -/
def Orr (R O : Nat → Prop) : Nat → Prop := fun g => O g ∨ R g
structure KgS (R : Nat → Prop) (W : World) (gk : Nat) (k : Kx) (vn vl : Value) (X : World) : Prop where
  bel : Below W.heap.size W X
  lo : W.heap.size ≤ gk
  box : X.heap[gk]? = some (.cells #[vn, vl] 29)
  own : ∃ nvals, X.ownsRow W.heap.size 55 2 vn k.nd.length nvals ∧ Els (fun r vm => Apt X (Orr R (Ob gk vn.ownBlock vl.ownBlock)) vm r.may) k.nd nvals
  lwn : ∃ lvals, X.ownsRow W.heap.size 22 1 vl k.lv.length lvals ∧ LvE (fun l u => Apt X (Orr R (Ob gk vn.ownBlock vl.ownBlock)) u l) k.lv lvals
  ne : vn.ownBlock ≠ some gk ∧ vl.ownBlock ≠ some gk ∧ ∀ g, vn.ownBlock = some g → vl.ownBlock ≠ some g
theorem Apt.chgR {R O O' : Nat → Prop} {X Y : World} {u : Value} {L : List Int} (h : Apt X (Orr R O) u L) (hc : Chg O X Y) (hf : Fro O O' X) : Apt Y (Orr R O') u L :=
  h.chg (O' := Orr R O') ⟨hc.1, fun i o hi hn => hc.2 i o hi (fun h => hn (.inl h))⟩ (fun g hg => by
    rcases hg with h1 | h1
    · rcases hf g h1 with h2 | h2
      · exact .inl (.inl h2)
      · exact .inr h2
    · exact .inl (.inr h1))
section
variable {R : Nat → Prop} {W X Y Z : World} {gk : Nat} {k : Kx} {vn vl : Value}
theorem kept_of {w w' : World} {base size n : Nat} {t : TypeId} {v : Value} {xs : List Value} {row : Option Nat} (h : w.ownsRow base t size v n xs) (hg : w.grownBy w' row) (hr : ∀ r, row = some r → v.ownBlock ≠ some r) : w'.ownsRow base t size v n xs := by
  refine h.kept hg ?_
  cases hv : v.ownBlock with
  | none => exact .inl rfl
  | some g => exact .inr (fun e => hr g e.symm hv)
theorem KgS.step (h : KgS R W gk k vn vl X) (hb : Below X.heap.size X Y) : KgS R W gk k vn vl Y := by
  obtain ⟨nv, n1, n2⟩ := h.own
  obtain ⟨lv, l1, l2⟩ := h.lwn
  exact ⟨h.bel.trans (hb.mono h.bel.size), h.lo, (hb.block _ (Array.getElem?_eq_some_iff.1 h.box).1).trans h.box, ⟨nv, own_step n1 hb, n2.mono fun r vm ha => ha.chgR (O := Ob gk vn.ownBlock vl.ownBlock) (Chg.of_below hb) (Fro.refl _ _)⟩, ⟨lv, own_step l1 hb, l2.mono fun l u ha => ha.chgR (O := Ob gk vn.ownBlock vl.ownBlock) (Chg.of_below hb) (Fro.refl _ _)⟩, h.ne⟩
theorem KgS.leaf (h : KgS R W gk k vn vl X) {lvals : List Value} {l : List Int} {u vl' : Value} (hE : LvE (fun l u => Apt X (Orr R (Ob gk vn.ownBlock vl.ownBlock)) u l) k.lv lvals) (hg : X.grownBy Y vl.ownBlock) (ho : Y.ownsRow W.heap.size 22 1 vl' (k.lv.length + 1) (lvals ++ [u]))
    (hob : vl'.ownBlock = vl.ownBlock ∨ vl'.ownBlock = some X.heap.size) (hu : Apt X (Orr R (Ob gk vn.ownBlock vl.ownBlock)) u l) :
    Y.heap[gk]? = some (.cells #[vn, vl] 29) ∧ KgS R W gk ⟨k.nd, k.lv ++ [l]⟩ vn vl' (Y.setCell ⟨gk, 1, none⟩ vl') ∧ Chg (Ob gk vn.ownBlock vl.ownBlock) X (Y.setCell ⟨gk, 1, none⟩ vl') ∧ Fro (Ob gk vn.ownBlock vl.ownBlock) (Ob gk vn.ownBlock vl'.ownBlock) X := by
  obtain ⟨nv, n1, n2⟩ := h.own
  obtain ⟨lv, l1, l2⟩ := h.lwn
  have hlt : gk < X.heap.size := (Array.getElem?_eq_some_iff.1 h.box).1
  have hY := (hg.block _ hlt (fun e => h.ne.2.1 e.symm)).trans h.box
  have hs := setCell_grown' Y gk 1 vl'
  have hc : Chg (Ob gk vn.ownBlock vl.ownBlock) X (Y.setCell ⟨gk, 1, none⟩ vl') := (Chg.of_grown hg (fun r e => .inr (.inr e))).trans2 (Fro.refl _ _) (Chg.of_grown hs (fun r e => by cases e; exact .inl rfl))
  have hf : Fro (Ob gk vn.ownBlock vl.ownBlock) (Ob gk vn.ownBlock vl'.ownBlock) X := fun g hg2 => by
    rcases hg2 with h1 | h1 | h1
    · exact .inl (.inl h1)
    · exact .inl (.inr (.inl h1))
    · rcases hob with h2 | h2
      · exact .inl (.inr (.inr (h2.symm.trans h1)))
      · rw [h2] at h1; injection h1 with h1; exact .inr (by omega)
  have hne' : vl'.ownBlock ≠ some gk := by
    rcases hob with h2 | h2
    · rw [h2]; exact h.ne.2.1
    · rw [h2]; intro e; injection e with e; omega
  have hdis : ∀ g, vn.ownBlock = some g → vl'.ownBlock ≠ some g := fun g e => by
    rcases hob with h2 | h2
    · rw [h2]; exact h.ne.2.2 g e
    · rw [h2]; intro e2; injection e2 with e2; have := (n1.lt g e).2; omega
  refine ⟨hY, ⟨(h.bel.grown hg h.bel.size (fun r e => (l1.lt r e).1)).setCell h.lo _, h.lo, heap_setCell_same Y gk 1 _ _ vl' hY, ⟨nv, kept_of (kept_of n1 hg (fun r e e2 => h.ne.2.2 r e2 e)) hs (fun r e => by cases e; exact h.ne.1), n2.mono fun r vm ha => ha.chgR hc hf⟩,
    ⟨lvals ++ [u], kept_of (by rw [List.length_append]; exact ho) hs (fun r e => by cases e; exact hne'), LvE.mono (hE.snoc hu) fun l u ha => ha.chgR hc hf⟩, h.ne.1, hne', hdis⟩, hc, hf⟩
theorem KgS.node (h : KgS R W gk k vn vl X) {nvals : List Value} {c : Int} {vn' : Value} (hE : Els (fun r vm => Apt X (Orr R (Ob gk vn.ownBlock vl.ownBlock)) vm r.may) k.nd nvals) (hg : X.grownBy Y vn.ownBlock) (ho : Y.ownsRow W.heap.size 55 2 vn' (k.nd.length + 1) (nvals ++ [.int .i64 c, .slice none 0 0]))
    (hob : vn'.ownBlock = vn.ownBlock ∨ vn'.ownBlock = some X.heap.size) :
    Y.heap[gk]? = some (.cells #[vn, vl] 29) ∧ KgS R W gk ⟨k.nd ++ [⟨c, []⟩], k.lv⟩ vn' vl (Y.setCell ⟨gk, 0, none⟩ vn') ∧ Chg (Ob gk vn.ownBlock vl.ownBlock) X (Y.setCell ⟨gk, 0, none⟩ vn') ∧ Fro (Ob gk vn.ownBlock vl.ownBlock) (Ob gk vn'.ownBlock vl.ownBlock) X := by
  obtain ⟨nv, n1, n2⟩ := h.own
  obtain ⟨lv, l1, l2⟩ := h.lwn
  have hlt : gk < X.heap.size := (Array.getElem?_eq_some_iff.1 h.box).1
  have hY := (hg.block _ hlt (fun e => h.ne.1 e.symm)).trans h.box
  have hs := setCell_grown' Y gk 0 vn'
  have hc : Chg (Ob gk vn.ownBlock vl.ownBlock) X (Y.setCell ⟨gk, 0, none⟩ vn') := (Chg.of_grown hg (fun r e => .inr (.inl e))).trans2 (Fro.refl _ _) (Chg.of_grown hs (fun r e => by cases e; exact .inl rfl))
  have hf : Fro (Ob gk vn.ownBlock vl.ownBlock) (Ob gk vn'.ownBlock vl.ownBlock) X := fun g hg2 => by
    rcases hg2 with h1 | h1 | h1
    · exact .inl (.inl h1)
    · rcases hob with h2 | h2
      · exact .inl (.inr (.inl (h2.symm.trans h1)))
      · rw [h2] at h1; injection h1 with h1; exact .inr (by omega)
    · exact .inl (.inr (.inr h1))
  have hne' : vn'.ownBlock ≠ some gk := by
    rcases hob with h2 | h2
    · rw [h2]; exact h.ne.1
    · rw [h2]; intro e; injection e with e; omega
  have hdis : ∀ g, vn'.ownBlock = some g → vl.ownBlock ≠ some g := fun g e e3 => by
    rcases hob with h2 | h2
    · exact h.ne.2.2 g (h2.symm.trans e) e3
    · rw [h2] at e; injection e with e; have := (l1.lt g e3).2; omega
  refine ⟨hY, ⟨(h.bel.grown hg h.bel.size (fun r e => (n1.lt r e).1)).setCell h.lo _, h.lo, heap_setCell_same Y gk 0 _ _ vn' hY, ⟨nvals ++ [.int .i64 c, .slice none 0 0], kept_of (by rw [List.length_append]; exact ho) hs (fun r e => by cases e; exact hne'), (hE.snoc (x := ⟨c, []⟩) (Apt.nil _ _)).mono fun r vm ha => ha.chgR hc hf⟩,
    ⟨lv, kept_of (kept_of l1 hg (fun r e e2 => h.ne.2.2 r e e2)) hs (fun r e => by cases e; exact h.ne.2.1), l2.mono fun l u ha => ha.chgR hc hf⟩, hne', h.ne.2.1, hdis⟩, hc, hf⟩
theorem KgS.next {gn n cap a : Nat} {c : Int} {nx : List Int} {u : Value} (h : KgS R W gk k (.slice (some ⟨gn, 0, none⟩) n cap) vl X) (ha : k.nd[a]? = some ⟨c, []⟩) (hu : Apt X (Orr R (Ob gk (some gn) vl.ownBlock)) u nx) :
    KgS R W gk ⟨k.nd.set a ⟨c, nx⟩, k.lv⟩ (.slice (some ⟨gn, 0, none⟩) n cap) vl (X.setCell ⟨gn, a * 2 + 1, none⟩ u) ∧ Chg (Ob gk (some gn) vl.ownBlock) X (X.setCell ⟨gn, a * 2 + 1, none⟩ u) ∧ (∃ v, X.cell? ⟨gn, a * 2 + 1, none⟩ = some v) ∧ X.frozen? ⟨gn, a * 2 + 1, none⟩ = false := by
  obtain ⟨nv, n1, n2⟩ := h.own
  obtain ⟨lv, l1, l2⟩ := h.lwn
  have hn : n = k.nd.length := by
    rcases n1.2 with ⟨e, _⟩ | ⟨g, cap', cur, e, _⟩
    · cases e
    · injection e
  subst hn
  have hai := (List.getElem?_eq_some_iff.1 ha).1
  have hs := setCell_grown' X gn (a * 2 + 1) u
  have hO : Ob gk (Value.ownBlock (.slice (some ⟨gn, 0, none⟩) k.nd.length cap)) vl.ownBlock = Ob gk (some gn) vl.ownBlock := rfl
  have hc : Chg (Ob gk (some gn) vl.ownBlock) X (X.setCell ⟨gn, a * 2 + 1, none⟩ u) := Chg.of_grown hs (fun r e => by cases e; exact .inr (.inl rfl))
  have hgn : W.heap.size ≤ gn := (n1.lt gn rfl).1
  have hne := h.ne
  have hl2 := n2.1
  obtain ⟨vm0, hv1, hv2, _⟩ := n2.2 a _ ha
  have hcell : X.cell? ⟨gn, a * 2 + 1, none⟩ = some vm0 := by rw [n1.cellAt (a * 2 + 1) (by omega)]; exact hv2
  refine ⟨⟨h.bel.setCell hgn _, h.lo, ?_, ⟨nv.set (a * 2 + 1) u, ?_, ?_⟩, ⟨lv, kept_of l1 hs (fun r e => by cases e; exact hne.2.2 gn rfl), l2.mono fun l u hx => hx.chgR hc (Fro.refl _ _)⟩, hne⟩, hc, ⟨vm0, hcell⟩, n1.frozenAt (a * 2 + 1)⟩
  · exact (hs.block _ (Array.getElem?_eq_some_iff.1 h.box).1 (fun e => hne.1 e.symm)).trans h.box
  · rw [List.length_set]; exact (n1.stored (a * 2 + 1) u).1
  · refine ⟨by rw [List.length_set, List.length_set]; exact hl2, fun i x hx => ?_⟩
    by_cases hia : i = a
    · subst hia
      rw [List.getElem?_set_self hai] at hx
      injection hx with hx
      subst hx
      obtain ⟨vm, h1, h2, h3⟩ := n2.2 i _ ha
      refine ⟨u, ?_, ?_, hu.chgR hc (Fro.refl _ _)⟩
      · rw [List.getElem?_set_ne (by omega)]; exact h1
      · rw [List.getElem?_set_self (by omega)]
    · rw [List.getElem?_set_ne (fun e => hia e.symm)] at hx
      obtain ⟨vm, h1, h2, h3⟩ := n2.2 i _ hx
      refine ⟨vm, ?_, ?_, h3.chgR hc (Fro.refl _ _)⟩
      · rw [List.getElem?_set_ne (by omega)]; exact h1
      · rw [List.getElem?_set_ne (by omega)]; exact h2
theorem KgS.less {R' : Nat → Prop} (h : KgS R' W gk k vn vl X) (hR : ∀ g, R g → R' g) : KgS R W gk k vn vl X := by
  obtain ⟨nv, n1, n2⟩ := h.own
  obtain ⟨lv, l1, l2⟩ := h.lwn
  have key : ∀ {u : Value} {L : List Int}, Apt X (Orr R' (Ob gk vn.ownBlock vl.ownBlock)) u L → Apt X (Orr R (Ob gk vn.ownBlock vl.ownBlock)) u L := fun ha => ⟨ha.1, fun hn g e h2 => ha.2 hn g e (by
    rcases h2 with h2 | h2
    · exact .inl h2
    · exact .inr (hR g h2))⟩
  exact ⟨h.bel, h.lo, h.box, ⟨nv, n1, n2.mono fun r vm ha => key ha⟩, ⟨lv, l1, l2.mono fun l u ha => key ha⟩, h.ne⟩
theorem KgS.more {g0 : Nat} (h : KgS R W gk k vn vl X) (hg : X.heap.size ≤ g0) : KgS (fun g => R g ∨ g = g0) W gk k vn vl X := by
  obtain ⟨nv, n1, n2⟩ := h.own
  obtain ⟨lv, l1, l2⟩ := h.lwn
  have key : ∀ {u : Value} {L : List Int}, Apt X (Orr R (Ob gk vn.ownBlock vl.ownBlock)) u L → Apt X (Orr (fun g => R g ∨ g = g0) (Ob gk vn.ownBlock vl.ownBlock)) u L := fun ha => ⟨ha.1, fun hn g e h2 => by
    rcases h2 with h2 | h2 | h2
    · exact ha.2 hn g e (.inl h2)
    · exact ha.2 hn g e (.inr h2)
    · have := ha.1.ownLt hn e; omega⟩
  exact ⟨h.bel, h.lo, h.box, ⟨nv, n1, n2.mono fun r vm ha => key ha⟩, ⟨lv, l1, l2.mono fun l u ha => key ha⟩, h.ne⟩
theorem KgS.outR {row : Option Nat} (h : KgS R W gk k vn vl X) (hg : X.grownBy Y row) (hr : ∀ g, row = some g → R g ∧ W.heap.size ≤ g ∧ ¬ Ob gk vn.ownBlock vl.ownBlock g) : KgS R W gk k vn vl Y := by
  obtain ⟨nv, n1, n2⟩ := h.own
  obtain ⟨lv, l1, l2⟩ := h.lwn
  have hc : Chg (Orr R (Ob gk vn.ownBlock vl.ownBlock)) X Y := Chg.of_grown hg (fun g e => .inr (hr g e).1)
  exact ⟨h.bel.grown hg h.bel.size (fun g e => (hr g e).2.1), h.lo, (hg.block _ (Array.getElem?_eq_some_iff.1 h.box).1 (fun e => (hr _ e.symm).2.2 (.inl rfl))).trans h.box,
    ⟨nv, kept_of n1 hg (fun g e e2 => (hr g e).2.2 (.inr (.inl e2))), n2.mono fun r vm ha => ha.chg hc (Fro.refl _ _)⟩, ⟨lv, kept_of l1 hg (fun g e e2 => (hr g e).2.2 (.inr (.inr e2))), l2.mono fun l u ha => ha.chg hc (Fro.refl _ _)⟩, h.ne⟩
end
end Go.Proofs.YthfegbcbpeedbaaGreatDoor
namespace Go.Proofs.YthfegbcbpeedbaaGreatDoor
open Go.RowKit Go.Nm Go.Ky

structure GlI (V : World) (p0 p1 vl v : Value) (L : List Int) (S : Value → World → Prop) (R : World → Prop) (dn : Nat → Bool) (val : Nat → Value) (X : World) : Prop where
  s0 : dn 0 = true → val 0 = p0
  s1 : dn 1 = true → val 1 = p0
  s2 : dn 2 = true → val 2 = p0
  s3 : dn 3 = true → val 3 = p1
  s4 : dn 4 = true → val 4 = vl
  s5 : dn 5 = true → val 5 = v
  s9 : dn 9 = true → val 9 = p0
  s10 : dn 10 = true → val 10 = p1
  bel : dn 8 = false → Below V.heap.size V X
  e6 : dn 6 = true → dn 8 = false → InSl X X.heap.size (val 6) L ∧ ∀ g, (val 6).ownBlock = some g → V.heap.size ≤ g
  e7 : dn 7 = true → dn 8 = false → ∃ g, val 7 = .slice (some ⟨g, 0, none⟩) 1 1 ∧ X.heap[g]? = some (.cells #[val 6] 22)
  e8 : dn 8 = true → dn 11 = false → S (val 8) X
  e11 : dn 11 = true → R X
section
variable {V : World} {p0 p1 vl v : Value} {L : List Int} {S : Value → World → Prop} {R : World → Prop} {dn : Nat → Bool} {val : Nat → Value} {X Y : World}
theorem GlI.op0 (h : GlI V p0 p1 vl v L S R dn val X) : GlI V p0 p1 vl v L S R (andB dn 0) (updV val 0 (p0)) X :=
  ⟨(fun _ => rfl), h.s1, h.s2, h.s3, h.s4, h.s5, h.s9, h.s10, h.bel, h.e6, h.e7, h.e8, h.e11⟩
theorem GlI.op1 (h : GlI V p0 p1 vl v L S R dn val X) : GlI V p0 p1 vl v L S R (andB dn 1) (updV val 1 (p0)) X :=
  ⟨h.s0, (fun _ => rfl), h.s2, h.s3, h.s4, h.s5, h.s9, h.s10, h.bel, h.e6, h.e7, h.e8, h.e11⟩
theorem GlI.op2 (h : GlI V p0 p1 vl v L S R dn val X) : GlI V p0 p1 vl v L S R (andB dn 2) (updV val 2 (p0)) X :=
  ⟨h.s0, h.s1, (fun _ => rfl), h.s3, h.s4, h.s5, h.s9, h.s10, h.bel, h.e6, h.e7, h.e8, h.e11⟩
theorem GlI.op3 (h : GlI V p0 p1 vl v L S R dn val X) : GlI V p0 p1 vl v L S R (andB dn 3) (updV val 3 (p1)) X :=
  ⟨h.s0, h.s1, h.s2, (fun _ => rfl), h.s4, h.s5, h.s9, h.s10, h.bel, h.e6, h.e7, h.e8, h.e11⟩
theorem GlI.op4 (h : GlI V p0 p1 vl v L S R dn val X) : GlI V p0 p1 vl v L S R (andB dn 4) (updV val 4 (vl)) X :=
  ⟨h.s0, h.s1, h.s2, h.s3, (fun _ => rfl), h.s5, h.s9, h.s10, h.bel, h.e6, h.e7, h.e8, h.e11⟩
theorem GlI.op5 (h : GlI V p0 p1 vl v L S R dn val X) : GlI V p0 p1 vl v L S R (andB dn 5) (updV val 5 (v)) X :=
  ⟨h.s0, h.s1, h.s2, h.s3, h.s4, (fun _ => rfl), h.s9, h.s10, h.bel, h.e6, h.e7, h.e8, h.e11⟩
theorem GlI.op9 (h : GlI V p0 p1 vl v L S R dn val X) : GlI V p0 p1 vl v L S R (andB dn 9) (updV val 9 (p0)) X :=
  ⟨h.s0, h.s1, h.s2, h.s3, h.s4, h.s5, (fun _ => rfl), h.s10, h.bel, h.e6, h.e7, h.e8, h.e11⟩
theorem GlI.op10 (h : GlI V p0 p1 vl v L S R dn val X) : GlI V p0 p1 vl v L S R (andB dn 10) (updV val 10 (p1)) X :=
  ⟨h.s0, h.s1, h.s2, h.s3, h.s4, h.s5, h.s9, (fun _ => rfl), h.bel, h.e6, h.e7, h.e8, h.e11⟩
theorem GlI.op6 (h : GlI V p0 p1 vl v L S R dn val X) (n7 : dn 7 = false) (n8 : dn 8 = false) (n11 : dn 11 = false) {u : Value} (hb : Below X.heap.size X Y) (hu : InSl Y Y.heap.size u L) (hg : ∀ g, u.ownBlock = some g → V.heap.size ≤ g) : GlI V p0 p1 vl v L S R (andB dn 6) (updV val 6 (u)) (Y) :=
  ⟨h.s0, h.s1, h.s2, h.s3, h.s4, h.s5, h.s9, h.s10, (fun n => (h.bel n).trans (hb.mono (h.bel n).size)), (fun _ _ => ⟨hu, hg⟩), (fun d => f_t n7 d), (fun d => f_t n8 d), (fun d => f_t n11 d)⟩
theorem GlI.op7 (h : GlI V p0 p1 vl v L S R dn val X) (y6 : dn 6 = true) (n8 : dn 8 = false) (n11 : dn 11 = false) : GlI V p0 p1 vl v L S R (andB dn 7) (updV val 7 (.slice (some ⟨X.heap.size, 0, none⟩) 1 1)) (X.alloc (.cells #[val 6] 22)) :=
  ⟨h.s0, h.s1, h.s2, h.s3, h.s4, h.s5, h.s9, h.s10, (fun n => (h.bel n).alloc (h.bel n).size _), (fun _ n => ⟨(h.e6 y6 n).1.step (below_new _), (h.e6 y6 n).2⟩), (fun _ _ => ⟨_, rfl, World.alloc_heap_new X _⟩), (fun d => f_t n8 d), (fun d => f_t n11 d)⟩
theorem GlI.op8 (h : GlI V p0 p1 vl v L S R dn val X) (n11 : dn 11 = false) {v8 : Value} (hS : S v8 Y) : GlI V p0 p1 vl v L S R (andB dn 8) (updV val 8 (v8)) (Y) :=
  ⟨h.s0, h.s1, h.s2, h.s3, h.s4, h.s5, h.s9, h.s10, (fun n => nomatch n), (fun _ n => nomatch n), (fun _ n => nomatch n), (fun _ _ => hS), (fun d => f_t n11 d)⟩
theorem GlI.op11 (h : GlI V p0 p1 vl v L S R dn val X) (y8 : dn 8 = true) {v8 : Value} (hR : R Y) : GlI V p0 p1 vl v L S R (andB dn 11) (updV val 11 (v8)) (Y) :=
  ⟨h.s0, h.s1, h.s2, h.s3, h.s4, h.s5, h.s9, h.s10, (fun n => f_t n y8), (fun _ n => f_t n y8), (fun _ n => f_t n y8), (fun _ n => nomatch n), (fun _ => hR)⟩
end
section
variable {o : Oper} {a : Act} {w : World} {K : Act → World → Prop} {Q : Exit → Act → World → Prop}
theorem opNil (q g : Nat) (ho : o.op = .nilCheck (.tmp q)) (hq : a.tmps.getD q undef = .pointer (some ⟨g, 0, none⟩)) (h : K (a.put o.dst (.pointer (some ⟨g, 0, none⟩))) w) : o.wp Tryz.prog a w K Q := by
  unfold Oper.wp execOp
  have he : a.eval (.tmp q) = .pointer (some ⟨g, 0, none⟩) := hq
  simp only [ho, he]
  go_simp
  exact h
set_option maxRecDepth 100000 in
theorem opCallNm (q : Nat) (v1 : Value) (R : Ending → World → Prop) (ho : o.op = .call { callee := .value (.func 40), args := #[.tmp q], argTypes := #[23] }) (h1 : a.tmps.getD q undef = v1)
    (hc : Calls Tryz.prog 40 #[v1] w R) (h : ∀ e w', R e w' → ∃ v, e = .returned v ∧ K (a.put o.dst v) w') : o.wp Tryz.prog a w K Q := by
  unfold Oper.wp execOp
  have e1 : a.eval (.tmp q) = v1 := h1
  simp only [ho]
  go_simp
  refine hc.mono ?_
  intro e w' hR
  obtain ⟨v, rfl, hK⟩ := h e w' hR
  exact hK
theorem run_app_own {W : World} {n : Nat} {vals : List Value} {vs : Value} (s x : Operand) (ho : o.op = .call { callee := .builtin .append, args := #[s, x], argTypes := #[27, 27] })
    {r : Value} (hs : a.eval s = vs) (h : w.ownsRow W.heap.size 22 1 vs n vals) (hb : W.heap.size ≤ w.heap.size) (g : Nat) (hx : a.eval x = .slice (some ⟨g, 0, none⟩) 1 1) (hc : w.heap[g]? = some (.cells #[r] 22)) (h1 : r.oneCell' = true) (hn : n ≤ 100000)
    (hK : ∀ v' w', w'.ownsRow W.heap.size 22 1 v' (n + 1) (vals ++ [r]) → w.grownBy w' vs.ownBlock → (v'.ownBlock = vs.ownBlock ∨ v'.ownBlock = some w.heap.size) → K (a.put o.dst v') w') : o.wp Tryz.prog a w K Q := by
  obtain ⟨i0, hi0, hz0, hz1, hz2⟩ := infoS
  obtain ⟨v', w', hr', h2, h3, _, h5⟩ := run_append_own_at (P := Tryz.prog) (w := w) W.heap.size 27 o.type 22 i0 (.slice none 0 0) 1 24 Tryz.underlying27 hi0 hz0 hz1 hz2 rfl (by decide) vs n vals h ⟨g, 0, none⟩ 1 1 [r] rfl
    (fun j u hj => by
      rw [add_zero_k]
      simpa [World.cell?, hc] using hj) (fun u hu => by simp at hu; subst hu; exact h1) (by unfold maxLen; omega) (by omega) hb
  unfold Oper.wp execOp
  simp only [ho, resolve, invoke, builtin, Sem.run_bind, Sem.run_pure, Result.andThen_ok, List.map_toArray, List.map_cons, List.map_nil, hs, hx, hr']
  exact hK _ _ h2 h3 h5
theorem opStoreT1 (q r g : Nat) (A1 : Option Addr) (n1 d1 : Nat) (u1 u2 : Value) (ho : o.op = .store 27 (.tmp q) (.tmp r)) (hq : a.tmps.getD q undef = .pointer (some ⟨g, 1, none⟩)) (hr : a.tmps.getD r undef = .slice A1 n1 d1) (hg : w.heap[g]? = some (.cells #[u1, u2] 29)) (h : ∀ u, K (a.put o.dst u) (w.setCell ⟨g, 1, none⟩ (.slice A1 n1 d1))) : o.wp Tryz.prog a w K Q := by
  unfold Oper.wp execOp
  have he : a.eval (.tmp q) = .pointer (some ⟨g, 1, none⟩) := hq
  have he2 : a.eval (.tmp r) = .slice A1 n1 d1 := hr
  obtain ⟨c0, c1⟩ := cells_two hg
  have f1 := frozen_cells hg 1
  simp only [ho, he, he2]
  go_simp
  exact h _
end
theorem own_slice_form {w : World} {base n z : Nat} {t : TypeId} {v : Value} {xs : List Value} (h : w.ownsRow base t z v n xs) : ∃ A c, v = .slice A n c := by
  rcases h.2 with ⟨e, h0⟩ | ⟨g, cap, cur, e, _⟩
  · subst h0; exact ⟨none, 0, e⟩
  · exact ⟨_, _, e⟩
set_option maxRecDepth 100000 in
set_option maxHeartbeats 8000000 in
theorem growLeaf_any {R : Nat → Prop} {W X : World} {gk : Nat} {k : Kx} {vn vl : Value} (v : Value) (L : List Rw) (h : KgS R W gk k vn vl X) (hv : IlSl X X.heap.size v L) (hn : L.length ≤ 1000) (hlv : k.lv.length ≤ 1000) (hR : ∀ g, R g → g < X.heap.size) :
    Calls Tryz.prog 82 #[.pointer (some ⟨gk, 0, none⟩), v] X fun e Y =>
      (k.lv.length = 1000 ∧ e = .returned (.tuple #[.int .i64 0, .int .i64 2]) ∧ X = Y) ∨ (k.lv.length ≠ 1000 ∧ e = .returned (.tuple #[.int .i64 (-1 - (k.lv.length : Int)), .int .i64 0]) ∧ ∃ vl', KgS R W gk ⟨k.nd, k.lv ++ [L.map (·.nm)]⟩ vn vl' Y ∧ Chg (Ob gk vn.ownBlock vl.ownBlock) X Y ∧ Fro (Ob gk vn.ownBlock vl.ownBlock) (Ob gk vn.ownBlock vl'.ownBlock) X) := by
  obtain ⟨lvals, lo, lE⟩ := h.lwn
  obtain ⟨Al, cl, e⟩ := own_slice_form lo
  subst e
  have HL := Lib.hid lo
  obtain ⟨Av, cv, rfl⟩ := hv.form
  have HV := Lib.hid hv
  obtain ⟨n, hnn⟩ : ∃ n, k.lv.length = n := ⟨_, rfl⟩
  have HN := Lib.hid hnn
  have HK := Lib.hid (show KgS R W gk k vn (.slice Al n cl) X from by rw [← hnn]; exact h)
  obtain ⟨nr, hnr⟩ : ∃ n, L.length = n := ⟨_, rfl⟩
  have HNr := Lib.hid hnr
  obtain ⟨b0, b1⟩ := cells_two h.box
  have hw : IntKind.i64.wrap (-1 - (n : Int)) = -1 - (n : Int) := by rw [IntKind.wrap_i64]; omega
  rw [hnn] at b1 hlv ⊢
  rw [hnr] at hn HV ⊢
  by_cases hq : n = 1000
  · subst hq
    clear h lo lE hv hnn hnr hR
    go_enter Tryz.func82, Tryz.ntmps82
    go_wp2_with fail
    go_ret2
    first
      | exact .inl ⟨rfl, rfl, rfl⟩
      | exact .inl ⟨trivial, rfl, rfl⟩
  have hqi : ((n : Int) == 1000) = false := by simp; omega
  have hq2 : ¬ (n : Int) = 1000 := by omega
  have HQ := Lib.hid hq
  have hlt : gk < X.heap.size := (Array.getElem?_eq_some_iff.1 h.box).1
  have HRl := Lib.hid hR
  have HO := Lib.hid (show ∀ g, Ob gk vn.ownBlock (Value.ownBlock (.slice Al n cl)) g → g < X.heap.size from fun g hg => by
    obtain ⟨nv, n1, _⟩ := h.own
    rcases hg with h1 | h1 | h1
    · omega
    · exact (n1.lt g h1).2
    · rw [hnn] at lo; exact (lo.lt g h1).2)
  clear h lo lE hv hnn hnr hq hlt hR
  go_enter Tryz.func82, Tryz.ntmps82
  go_wp2_with fail
  refine wp_opaque ?_
  intro t0 ht0
  have hsz0 : t0.size = 27 := by rw [ht0]; rfl
  have q0 : t0.getD 0 undef = .pointer (some ⟨gk, 0, none⟩) := by rw [ht0]; rfl
  have q1 : t0.getD 1 undef = .slice Av nr cv := by rw [ht0]; rfl
  have HT0 := Lib.hid ht0
  clear ht0 b0 b1
  have HBd := Lib.hid (fun Z (hI : Below X.drew.heap.size X.drew Z) => (Below.refl X.heap.size X).drew.trans hI)
  have HKx := Lib.hid (fun Z (h : Below X.heap.size X Z) => HK.out.step h)
  refine wp_region_vals [some 14, some 15, some 16, some 17, some 18, some 19, some 20, some 21, some 22, some 23, some 24, none] (GlI X.drew (.pointer (some ⟨gk, 0, none⟩)) (.pointer (some ⟨gk, 1, none⟩)) (.slice Al n cl) (.slice Av nr cv) (L.map (·.nm))
    (fun v Z => ∃ V2 u lv, Below X.heap.size X V2 ∧ KgS R W gk k vn (.slice Al n cl) V2 ∧ LvE (fun l u => Apt V2 (Orr R (Ob gk vn.ownBlock (Value.ownBlock (.slice Al n cl)))) u l) k.lv lv ∧ V2.grownBy Z (Value.ownBlock (.slice Al n cl)) ∧ Z.ownsRow W.heap.size 22 1 v (k.lv.length + 1) (lv ++ [u]) ∧ (v.ownBlock = Value.ownBlock (.slice Al n cl) ∨ v.ownBlock = some V2.heap.size) ∧ Apt V2 (Orr R (Ob gk vn.ownBlock (Value.ownBlock (.slice Al n cl)))) u (L.map (·.nm)))
    (fun Z => ∃ vl', KgS R W gk ⟨k.nd, k.lv ++ [L.map (·.nm)]⟩ vn vl' Z ∧ Chg (Ob gk vn.ownBlock (Value.ownBlock (.slice Al n cl))) X Z ∧ Fro (Ob gk vn.ownBlock (Value.ownBlock (.slice Al n cl))) (Ob gk vn.ownBlock vl'.ownBlock) X)) (by kernel_rfl) (by kernel_rfl) rfl rfl (by simp [hsz0]) (by kernel_rfl) ?_ ?_ ?_
  · intro val
    exact ⟨(fun h => nomatch h), (fun h => nomatch h), (fun h => nomatch h), (fun h => nomatch h), (fun h => nomatch h), (fun h => nomatch h), (fun h => nomatch h), (fun h => nomatch h), fun _ => Below.refl _ _, (fun h => nomatch h), (fun h => nomatch h), (fun h => nomatch h), (fun h => nomatch h)⟩
  · intro dn q o hi hd hp hc val Z a ha hn' hI K hK
    have hq : q < 12 := by
      have := (Array.getElem?_eq_some_iff.1 hi).1
      simpa using this
    have c11 : dn 11 = true → dn 8 = true := fun h => hc 11 _ rfl h ⟨8, .data⟩ (by simp) rfl
    have c8 : dn 8 = true → dn 4 = true ∧ dn 7 = true := fun h => ⟨hc 8 _ rfl h ⟨4, .data⟩ (by simp) rfl, hc 8 _ rfl h ⟨7, .data⟩ (by simp) rfl⟩
    have c7 : dn 7 = true → dn 6 = true := fun h => hc 7 _ rfl h ⟨6, .data⟩ (by simp) rfl
    have bf : ∀ {q : Bool}, (q = true → False) → q = false := fun {q} h => by cases q; rfl; exact (h rfl).elim
    have hB := fun n8 => HBd.out Z (hI.bel n8)
    rcases (show q = 0 ∨ q = 1 ∨ q = 2 ∨ q = 3 ∨ q = 4 ∨ q = 5 ∨ q = 6 ∨ q = 7 ∨ q = 8 ∨ q = 9 ∨ q = 10 ∨ q = 11 by omega) with rfl | rfl | rfl | rfl | rfl | rfl | rfl | rfl | rfl | rfl | rfl | rfl
    · obtain rfl := Option.some.inj hi
      exact opMove 0 _ rfl ((ha 0).trans q0) (hK _ _ hI.op0)
    · obtain rfl := Option.some.inj hi
      exact opMove 0 _ rfl ((ha 0).trans q0) (hK _ _ hI.op1)
    · obtain rfl := Option.some.inj hi
      have y1 := hp ⟨1, .data⟩ (by simp) rfl
      exact opNil 15 _ rfl ((ha 15).trans (hI.s1 y1)) (hK _ _ hI.op2)
    · obtain rfl := Option.some.inj hi
      have y2 := hp ⟨2, .data⟩ (by simp) rfl
      exact opFieldK 1 16 _ (by decide) rfl ((ha 16).trans (hI.s2 y2)) (hK _ _ hI.op3)
    · obtain rfl := Option.some.inj hi
      have y3 := hp ⟨3, .data⟩ (by simp) rfl
      have n8 : dn 8 = false := bf fun h => f_t hd (c8 h).1
      exact opLdT 17 _ _ rfl ((ha 17).trans (hI.s3 y3)) (cells_two (HKx.out Z (hB n8)).box).2 (hK _ _ hI.op4)
    · obtain rfl := Option.some.inj hi
      exact opMove 1 _ rfl ((ha 1).trans q1) (hK _ _ hI.op5)
    · obtain rfl := Option.some.inj hi
      have y5 := hp ⟨5, .data⟩ (by simp) rfl
      have n7 : dn 7 = false := bf fun h => f_t hd (c7 h)
      have n8 : dn 8 = false := bf fun h => f_t n7 (c8 h).2
      have n11 : dn 11 = false := bf fun h => f_t n8 (c11 h)
      refine opCallNm 19 _ _ rfl ((ha 19).trans (hI.s5 y5)) (namesOf_any _ L Z (HV.out.step (hB n8)) (by have := HNr.out; omega)) ?_
      rintro e Y ⟨⟨u, rfl, hu, hg⟩, hb⟩
      exact ⟨u, rfl, hK _ _ (hI.op6 n7 n8 n11 hb hu (fun g e => Nat.le_trans (hB n8).size (hg g e)))⟩
    · obtain rfl := Option.some.inj hi
      have y6 := hp ⟨6, .data⟩ (by simp) rfl
      have n8 : dn 8 = false := bf fun h => f_t hd (c8 h).2
      have n11 : dn 11 = false := bf fun h => f_t n8 (c11 h)
      obtain ⟨A6, d6, e6, _⟩ := (hI.e6 y6 n8).1.form
      have hK2 := hK _ _ (hI.op7 y6 n8 n11)
      rw [e6] at hK2
      exact opBoxS 20 _ _ _ rfl ((ha 20).trans e6) hK2
    · obtain rfl := Option.some.inj hi
      have y4 := hp ⟨4, .data⟩ (by simp) rfl
      have y7 := hp ⟨7, .data⟩ (by simp) rfl
      have n11 : dn 11 = false := bf fun h => f_t hd (c11 h)
      obtain ⟨g, e7, h7⟩ := hI.e7 y7 hd
      have h6 := hI.e6 (c7 y7) hd
      have hKz := HKx.out Z (hB hd)
      obtain ⟨lv, l1, l2⟩ := hKz.lwn
      obtain ⟨A6, d6, e6, _⟩ := h6.1.form
      refine run_app_own (.tmp 18) (.tmp 21) rfl ((ha 18).trans (hI.s4 y4)) l1 hKz.bel.size g ((ha 21).trans e7) h7 (by rw [e6]; rfl) (by rw [HN.out]; omega) ?_
      intro v' w' hL' hg' ho'
      exact hK _ _ (hI.op8 n11 ⟨Z, val 6, lv, hB hd, hKz, l2, hg', hL', ho', h6.1, fun _ g e h => by
        have h1 : X.heap.size ≤ g := h6.2 g e
        rcases h with h | h
        · have h2 := HO.out g h; omega
        · have h2 := HRl.out g h; omega⟩)
    · obtain rfl := Option.some.inj hi
      have y0 := hp ⟨0, .data⟩ (by simp) rfl
      exact opNil 14 _ rfl ((ha 14).trans (hI.s0 y0)) (hK _ _ hI.op9)
    · obtain rfl := Option.some.inj hi
      have y9 := hp ⟨9, .data⟩ (by simp) rfl
      exact opFieldK 1 23 _ (by decide) rfl ((ha 23).trans (hI.s9 y9)) (hK _ _ hI.op10)
    · obtain rfl := Option.some.inj hi
      have y8 := hp ⟨8, .data⟩ (by simp) rfl
      have y10 := hp ⟨10, .data⟩ (by simp) rfl
      obtain ⟨V2, u, lv, hV2, hK2, hE2, hg2, ho2, hob2, hu2⟩ := hI.e8 y8 hd
      obtain ⟨A9, d9, e9⟩ := own_slice_form ho2
      obtain ⟨hYb, hS9, hC9, hF9⟩ := hK2.leaf hE2 hg2 ho2 hob2 hu2
      rw [e9] at hS9 hC9 hF9
      refine opStoreT1 24 22 gk _ _ _ _ _ rfl ((ha 24).trans (hI.s10 y10)) ((ha 22).trans e9) hYb (fun u => hK u _ (hI.op11 (v8 := u) y8 ⟨_, hS9, (Chg.of_below hV2).trans2 (Fro.refl _ _) hC9, (Fro.refl _ _).trans hV2.size hF9⟩))
  · intro dn val Z hdn hI
    have HR := Lib.hid (hI.e11 (hdn 11 (by simp)))
    simp only [wrS, HT0.out]
    simp only [List.setIfInBounds_toArray, List.set_cons_succ, List.set_cons_zero]
    simp only [Exit.then]
    clear hdn hI q0 q1 hsz0 HT0
    generalize val 0 = x0
    generalize val 1 = x1
    generalize val 2 = x2
    generalize val 3 = x3
    generalize val 4 = x4
    generalize val 5 = x5
    generalize val 6 = x6
    generalize val 7 = x7
    generalize val 8 = x8
    generalize val 9 = x9
    generalize val 10 = x10
    go_wp2_with fail
    (try rw [Exit.noGoto_ret])
    go_ret2
    exact .inr ⟨HQ.out, rfl, HR.out⟩
end Go.Proofs.YthfegbcbpeedbaaGreatDoor
namespace Go.Ky
open Go.Nm
def gStep (m : Mx) (d : Nat) (L : List Rw) (l : List Int) (c : Nat) (st : Kx × List Int × Int) (s : Nat) : Kx × List Int × Int :=
  if st.2.2 = 0 then (if (growF m d (remL L (l.set c (2 ^ s))) (l.set c (2 ^ s)) st.1).2.2 = 0 then ((growF m d (remL L (l.set c (2 ^ s))) (l.set c (2 ^ s)) st.1).1, st.2.1 ++ [(growF m d (remL L (l.set c (2 ^ s))) (l.set c (2 ^ s)) st.1).2.1], 0) else ((growF m d (remL L (l.set c (2 ^ s))) (l.set c (2 ^ s)) st.1).1, st.2.1, (growF m d (remL L (l.set c (2 ^ s))) (l.set c (2 ^ s)) st.1).2.2)) else st
def gAll (m : Mx) (d : Nat) (L : List Rw) (l : List Int) (c : Nat) (k : Kx) (n : Nat) : Kx × List Int × Int := (List.range n).foldl (gStep m d L l c) (⟨k.nd ++ [⟨(c : Int), []⟩], k.lv⟩, [], 0)
theorem gAll_zero (m : Mx) (d : Nat) (L : List Rw) (l : List Int) (c : Nat) (k : Kx) : gAll m d L l c k 0 = (⟨k.nd ++ [⟨(c : Int), []⟩], k.lv⟩, [], 0) := rfl
theorem gAll_succ (m : Mx) (d : Nat) (L : List Rw) (l : List Int) (c : Nat) (k : Kx) (s : Nat) : gAll m d L l c k (s + 1) = gStep m d L l c (gAll m d L l c k s) s := by
  unfold gAll; rw [List.range_succ, List.foldl_append]; rfl
theorem gAll_stuck {m : Mx} {d : Nat} {L : List Rw} {l : List Int} {c : Nat} {k : Kx} {s : Nat} (h : (gAll m d L l c k s).2.2 ≠ 0) : ∀ t, gAll m d L l c k (s + t) = gAll m d L l c k s
  | 0 => rfl
  | t + 1 => by
    have := gAll_stuck h t
    rw [show s + (t + 1) = (s + t) + 1 from rfl, gAll_succ, this]
    unfold gStep
    rw [if_neg h]
theorem grow_node {m : Mx} {d c : Nat} {L : List Rw} {l : List Int} {k : Kx} (h : (charF L l).2.1 = true) (hc : (charF L l).1 = (c : Int)) : growF m (d + 1) L l k =
    if (gAll m d L l c k (m.st.getD c 0).toNat).2.2 = 0 then (⟨(gAll m d L l c k (m.st.getD c 0).toNat).1.nd.set k.nd.length ⟨(c : Int), (gAll m d L l c k (m.st.getD c 0).toNat).2.1⟩, (gAll m d L l c k (m.st.getD c 0).toNat).1.lv⟩, (k.nd.length : Int), 0) else ((gAll m d L l c k (m.st.getD c 0).toNat).1, 0, (gAll m d L l c k (m.st.getD c 0).toNat).2.2) := by
  conv => lhs; unfold growF
  rw [if_pos h]
  simp only [hc, Int.toNat_natCast]
  rfl
theorem grow_leaf {m : Mx} {d : Nat} {L : List Rw} {l : List Int} {k : Kx} (h : (charF L l).2.1 = false) : growF m (d + 1) L l k = if k.lv.length = 1000 then (k, 0, 2) else (⟨k.nd, k.lv ++ [L.map (·.nm)]⟩, -1 - (k.lv.length : Int), 0) := by
  conv => lhs; unfold growF
  rw [if_neg (by rw [h]; simp)]
theorem best_ok {L : List Rw} {l : List Int} {P : Nat → Bool} : ∀ n, (bestS L l P n).2.1 = true → ∃ c, c < n ∧ (bestS L l P n).1 = (c : Int) ∧ P c = true
  | 0, h => by cases h
  | n + 1, h => by
    rw [bestS_next] at h ⊢
    unfold bestStep at h ⊢
    split
    · rename_i hp
      rw [if_pos hp] at h
      split
      · exact ⟨n, by omega, rfl, hp⟩
      · rename_i hq
        rw [if_neg hq] at h
        obtain ⟨c, h1, h2⟩ := best_ok n h
        exact ⟨c, by omega, h2⟩
    · rename_i hp
      rw [if_neg hp] at h
      obtain ⟨c, h1, h2⟩ := best_ok n h
      exact ⟨c, by omega, h2⟩
/-- what grows -/
structure GrK (k : Kx) (g : Kx × Int × Int) : Prop where
  pre : ∀ i, i < k.nd.length → g.1.nd[i]? = k.nd[i]?
  nle : k.nd.length ≤ g.1.nd.length
  lle : k.lv.length ≤ g.1.lv.length
  max : k.lv.length ≤ 1000 → g.1.lv.length ≤ 1000
  slk : g.2.2 = 0 → g.1.nd.length + k.lv.length + 1 ≤ g.1.lv.length + k.nd.length
structure GaK (k : Kx) (c s : Nat) (g : Kx × List Int × Int) : Prop where
  pre : ∀ i, i < k.nd.length → g.1.nd[i]? = k.nd[i]?
  at_ : g.1.nd[k.nd.length]? = some ⟨(c : Int), []⟩
  nle : k.nd.length + 1 ≤ g.1.nd.length
  lle : k.lv.length ≤ g.1.lv.length
  max : k.lv.length ≤ 1000 → g.1.lv.length ≤ 1000
  slk : g.2.2 = 0 → g.1.nd.length + k.lv.length + s ≤ g.1.lv.length + k.nd.length + 1
  len : g.2.2 = 0 → g.2.1.length = s
theorem gaK_all {m : Mx} {d c : Nat} {L : List Rw} {l : List Int} {k : Kx} (ih : ∀ L l k, l.length = m.st.length → GrK k (growF m d L l k)) (hl0 : l.length = m.st.length) : ∀ s, GaK k c s (gAll m d L l c k s)
  | 0 => by
    rw [gAll_zero]
    exact ⟨fun i hi => List.getElem?_append_left hi, by rw [List.getElem?_append_right (Nat.le_refl _)]; simp, by simp, Nat.le_refl _, fun h => h, fun _ => by simp; omega, fun _ => rfl⟩
  | s + 1 => by
    have h := gaK_all (c := c) (L := L) (l := l) (k := k) ih hl0 s
    rw [gAll_succ]
    obtain ⟨st, hst⟩ : ∃ st, gAll m d L l c k s = st := ⟨_, rfl⟩
    rw [hst] at h ⊢
    unfold gStep
    split
    · rename_i h0
      have hg := ih (remL L (l.set c (2 ^ s))) (l.set c (2 ^ s)) st.1 (by rw [List.length_set]; exact hl0)
      obtain ⟨g, hgg⟩ : ∃ g, growF m d (remL L (l.set c (2 ^ s))) (l.set c (2 ^ s)) st.1 = g := ⟨_, rfl⟩
      rw [hgg] at hg ⊢
      have hp : ∀ i, i < k.nd.length → g.1.nd[i]? = k.nd[i]? := fun i hi => by
        rw [hg.pre i (by have := h.nle; omega), h.pre i hi]
      have ha : g.1.nd[k.nd.length]? = some ⟨(c : Int), []⟩ := by rw [hg.pre _ (by have := h.nle; omega)]; exact h.at_
      have hn := h.nle; have hn2 := hg.nle; have hl := h.lle; have hl2 := hg.lle
      split
      · rename_i h1
        refine ⟨hp, ha, by show _ ≤ g.1.nd.length; omega, by show _ ≤ g.1.lv.length; omega, fun hm => hg.max (h.max hm), fun _ => ?_, fun _ => ?_⟩
        · have h2 := h.slk h0
          have h3 := hg.slk h1
          show g.1.nd.length + _ + (s + 1) ≤ g.1.lv.length + _ + 1
          omega
        · show (st.2.1 ++ [g.2.1]).length = s + 1
          rw [List.length_append, h.len h0]; rfl
      · rename_i h1
        exact ⟨hp, ha, by show _ ≤ g.1.nd.length; omega, by show _ ≤ g.1.lv.length; omega, fun hm => hg.max (h.max hm), fun h2 => absurd h2 h1, fun h2 => absurd h2 h1⟩
    · rename_i h0
      exact ⟨h.pre, h.at_, h.nle, h.lle, h.max, fun h2 => absurd h2 h0, fun h2 => absurd h2 h0⟩
theorem grK {m : Mx} (hst : ∀ (c : Nat) (n : Int), m.st[c]? = some n → 2 ≤ n) : ∀ (d : Nat) (L : List Rw) (l : List Int) (k : Kx), l.length = m.st.length → GrK k (growF m d L l k) := by
  intro d
  induction d with
  | zero => intro L l k _; exact ⟨fun i _ => rfl, Nat.le_refl _, Nat.le_refl _, fun h => h, fun h => by cases h⟩
  | succ d ih =>
    intro L l k hl
    cases h : (charF L l).2.1 with
    | true =>
      obtain ⟨c, hcl, hc, _⟩ := best_ok (L := L) (l := l) (P := fun c => usefulF L c (l.getD c 0)) l.length h
      have hcs : c < m.st.length := by omega
      have hn := hst c _ (List.getElem?_eq_getElem hcs)
      have e1 : m.st.getD c 0 = m.st[c] := by rw [List.getD_eq_getElem?_getD, List.getElem?_eq_getElem hcs]; rfl
      rw [grow_node h hc, e1]
      have ga := gaK_all (c := c) (L := L) (k := k) ih hl m.st[c].toNat
      obtain ⟨st, hst'⟩ : ∃ st, gAll m d L l c k m.st[c].toNat = st := ⟨_, rfl⟩
      rw [hst'] at ga ⊢
      have hn1 := ga.nle; have hn2 := ga.lle
      split
      · rename_i h0
        refine ⟨fun i hi => ?_, by show _ ≤ (st.1.nd.set _ _).length; rw [List.length_set]; omega, hn2, ga.max, fun _ => ?_⟩
        · show (st.1.nd.set k.nd.length _)[i]? = _
          rw [List.getElem?_set_ne (by omega)]
          exact ga.pre i hi
        · have := ga.slk h0
          show (st.1.nd.set _ _).length + _ + 1 ≤ st.1.lv.length + _
          rw [List.length_set]
          omega
      · rename_i h0
        exact ⟨ga.pre, by show _ ≤ st.1.nd.length; omega, hn2, ga.max, fun h2 => absurd h2 h0⟩
    | false =>
      rw [grow_leaf h]
      split
      · exact ⟨fun i _ => rfl, Nat.le_refl _, Nat.le_refl _, fun h => h, fun h => by cases h⟩
      · rename_i h0
        exact ⟨fun i _ => rfl, Nat.le_refl _, by show _ ≤ (k.lv ++ _).length; simp, fun hm => by show (k.lv ++ _).length ≤ 1000; simp; omega, fun _ => by show _ ≤ (k.lv ++ _).length + _; simp; omega⟩
/-- how many characters are undecided -/
def und (l : List Int) : Nat := (l.filter fun x => !decZ x).length
theorem und_set : ∀ (l : List Int) (c : Nat) (x y : Int), l[c]? = some x → decZ x = false → decZ y = true → und (l.set c y) + 1 = und l
  | [], c, x, y, h, _, _ => by simp at h
  | z :: l, 0, x, y, h, h1, h2 => by
    simp at h
    subst h
    unfold und
    simp [h1, h2]
  | z :: l, c + 1, x, y, h, h1, h2 => by
    have h3 := und_set l c x y (by simpa using h) h1 h2
    unfold und at h3 ⊢
    rw [List.set_cons_succ, List.filter_cons, List.filter_cons]
    split <;> simp_all
theorem und_le (l : List Int) : und l ≤ l.length := List.length_filter_le _ _
theorem dec_pow {s : Nat} (hs : s < 16) : decZ ((2 : Int) ^ s) = true := by
  have h : ∀ s : Fin 16, decZ ((2 : Int) ^ s.val) = true := by decide
  exact h ⟨s, hs⟩
theorem not_zero {s y : Nat} (hs : s < 16) (hy : y < 65536) (h : y.testBit s = true) : notF ((2 ^ s : Nat) : Int) (y : Int) = 0 := by
  unfold notF
  have hp : 2 ^ s < 65536 := Nat.pow_lt_pow_right (by omega) hs
  have e : BitVec.ofInt 64 ((2 ^ s : Nat) : Int) &&& ~~~ BitVec.ofInt 64 (y : Int) = 0#64 := by
    apply BitVec.eq_of_getElem_eq
    intro i hi
    rw [BitVec.getElem_and, BitVec.getElem_not]
    rw [← BitVec.getLsbD_eq_getElem, ← BitVec.getLsbD_eq_getElem]
    simp only [BitVec.getLsbD, ofInt_nat (show 2 ^ s < 18446744073709551616 by omega), ofInt_nat (show y < 18446744073709551616 by omega)]
    rw [Nat.testBit_two_pow]
    by_cases he : s = i
    · subst he; simp [h]
    · simp [he]
  show IntKind.i64.wrap ((BitVec.ofInt 64 ((2 ^ s : Nat) : Int) &&& ~~~ BitVec.ofInt 64 (y : Int)).toNat : Int) = 0
  rw [e]
  rfl
theorem and_pow0 {Y t : Nat} (h : Y.testBit t = false) : Y &&& 2 ^ t = 0 := by
  apply Nat.eq_of_testBit_eq
  intro i
  rw [Nat.testBit_and, Nat.testBit_two_pow, Nat.zero_testBit]
  by_cases e : t = i
  · subst e; rw [h]; rfl
  · simp [e]
/-- a useful character is undecided -/
theorem useful_und {L : List Rw} {c : Nat} {x : Int} (hx : 1 ≤ x ∧ x ≤ 65535) (hL : ∀ r ∈ L, ∃ y, r.may[c]? = some y ∧ 1 ≤ y ∧ y ≤ 65535 ∧ meetF y x ≠ 0) (h : usefulF L c x = true) : decZ x = false := by
  cases hd : decZ x with
  | false => rfl
  | true =>
    exfalso
    obtain ⟨X, rfl⟩ : ∃ X : Nat, x = (X : Int) := ⟨x.toNat, by omega⟩
    unfold decZ at hd
    have h1 := (dec_iff (x := X) (by omega) (by omega)).1 (by simpa using hd)
    have ht := tz_ok (x := X) (by omega) (by omega)
    unfold usefulF at h
    rw [Bool.and_eq_true] at h
    obtain ⟨r, hr, hn⟩ := List.any_eq_true.1 h.2
    obtain ⟨y, hy, hy1, hy2, hm⟩ := hL r hr
    obtain ⟨Y, rfl⟩ : ∃ Y : Nat, y = (Y : Int) := ⟨y.toNat, by omega⟩
    have e1 : r.may.getD c 0 = (Y : Int) := by rw [List.getD_eq_getElem?_getD, hy]; rfl
    rw [e1] at hn
    have hb : Y.testBit (tzN X) = true := by
      unfold meetF at hm
      rw [and_i64 (by omega) (by omega)] at hm
      cases hb : Y.testBit (tzN X) with
      | true => rfl
      | false => rw [h1, and_pow0 hb] at hm; exact absurd rfl hm
    have h2 := not_zero ht.1 (show Y < 65536 by omega) hb
    rw [← h1] at h2
    rw [h2] at hn
    simp at hn
end Go.Ky
namespace Go.Proofs.YthfegbcbpeedbaaGreatDoor
open Go.RowKit Go.Nm Go.Ky

structure GrI (V : World) (p0 vm v uk T nv ev : Value) (Q : Value → World → Prop) (R : World → Prop) (dn : Nat → Bool) (val : Nat → Value) (X : World) : Prop where
  s0 : dn 0 = true → val 0 = p0
  s1 : dn 1 = true → val 1 = vm
  s2 : dn 2 = true → val 2 = v
  s3 : dn 3 = true → val 3 = uk
  s5 : dn 5 = true → val 5 = uk
  s7 : dn 7 = true → val 7 = T
  s8 : dn 8 = true → val 8 = nv
  s9 : dn 9 = true → val 9 = ev
  s10 : dn 10 = true → val 10 = nv
  s11 : dn 11 = true → val 11 = ev
  bel : dn 6 = false → Below V.heap.size V X
  e4 : dn 4 = true → dn 6 = false → Q (val 4) X
  s6 : dn 6 = true → val 6 = T
  e6 : dn 6 = true → R X
section
variable {V : World} {p0 vm v uk T nv ev : Value} {Q : Value → World → Prop} {R : World → Prop} {dn : Nat → Bool} {val : Nat → Value} {X Y : World}
theorem GrI.op0 (h : GrI V p0 vm v uk T nv ev Q R dn val X) : GrI V p0 vm v uk T nv ev Q R (andB dn 0) (updV val 0 (p0)) X :=
  ⟨(fun _ => rfl), h.s1, h.s2, h.s3, h.s5, h.s7, h.s8, h.s9, h.s10, h.s11, h.bel, h.e4, h.s6, h.e6⟩
theorem GrI.op1 (h : GrI V p0 vm v uk T nv ev Q R dn val X) : GrI V p0 vm v uk T nv ev Q R (andB dn 1) (updV val 1 (vm)) X :=
  ⟨h.s0, (fun _ => rfl), h.s2, h.s3, h.s5, h.s7, h.s8, h.s9, h.s10, h.s11, h.bel, h.e4, h.s6, h.e6⟩
theorem GrI.op2 (h : GrI V p0 vm v uk T nv ev Q R dn val X) : GrI V p0 vm v uk T nv ev Q R (andB dn 2) (updV val 2 (v)) X :=
  ⟨h.s0, h.s1, (fun _ => rfl), h.s3, h.s5, h.s7, h.s8, h.s9, h.s10, h.s11, h.bel, h.e4, h.s6, h.e6⟩
theorem GrI.op3 (h : GrI V p0 vm v uk T nv ev Q R dn val X) : GrI V p0 vm v uk T nv ev Q R (andB dn 3) (updV val 3 (uk)) X :=
  ⟨h.s0, h.s1, h.s2, (fun _ => rfl), h.s5, h.s7, h.s8, h.s9, h.s10, h.s11, h.bel, h.e4, h.s6, h.e6⟩
theorem GrI.op5 (h : GrI V p0 vm v uk T nv ev Q R dn val X) : GrI V p0 vm v uk T nv ev Q R (andB dn 5) (updV val 5 (uk)) X :=
  ⟨h.s0, h.s1, h.s2, h.s3, (fun _ => rfl), h.s7, h.s8, h.s9, h.s10, h.s11, h.bel, h.e4, h.s6, h.e6⟩
theorem GrI.op7 (h : GrI V p0 vm v uk T nv ev Q R dn val X) : GrI V p0 vm v uk T nv ev Q R (andB dn 7) (updV val 7 (T)) X :=
  ⟨h.s0, h.s1, h.s2, h.s3, h.s5, (fun _ => rfl), h.s8, h.s9, h.s10, h.s11, h.bel, h.e4, h.s6, h.e6⟩
theorem GrI.op8 (h : GrI V p0 vm v uk T nv ev Q R dn val X) : GrI V p0 vm v uk T nv ev Q R (andB dn 8) (updV val 8 (nv)) X :=
  ⟨h.s0, h.s1, h.s2, h.s3, h.s5, h.s7, (fun _ => rfl), h.s9, h.s10, h.s11, h.bel, h.e4, h.s6, h.e6⟩
theorem GrI.op9 (h : GrI V p0 vm v uk T nv ev Q R dn val X) : GrI V p0 vm v uk T nv ev Q R (andB dn 9) (updV val 9 (ev)) X :=
  ⟨h.s0, h.s1, h.s2, h.s3, h.s5, h.s7, h.s8, (fun _ => rfl), h.s10, h.s11, h.bel, h.e4, h.s6, h.e6⟩
theorem GrI.op10 (h : GrI V p0 vm v uk T nv ev Q R dn val X) : GrI V p0 vm v uk T nv ev Q R (andB dn 10) (updV val 10 (nv)) X :=
  ⟨h.s0, h.s1, h.s2, h.s3, h.s5, h.s7, h.s8, h.s9, (fun _ => rfl), h.s11, h.bel, h.e4, h.s6, h.e6⟩
theorem GrI.op11 (h : GrI V p0 vm v uk T nv ev Q R dn val X) : GrI V p0 vm v uk T nv ev Q R (andB dn 11) (updV val 11 (ev)) X :=
  ⟨h.s0, h.s1, h.s2, h.s3, h.s5, h.s7, h.s8, h.s9, h.s10, (fun _ => rfl), h.bel, h.e4, h.s6, h.e6⟩
theorem GrI.op4 (h : GrI V p0 vm v uk T nv ev Q R dn val X) (n6 : dn 6 = false) {v4 : Value} (hb : Below X.heap.size X Y) (hq : Q v4 Y) : GrI V p0 vm v uk T nv ev Q R (andB dn 4) (updV val 4 (v4)) (Y) :=
  ⟨h.s0, h.s1, h.s2, h.s3, h.s5, h.s7, h.s8, h.s9, h.s10, h.s11, (fun n => (h.bel n).trans (hb.mono (h.bel n).size)), (fun _ _ => hq), (fun d => f_t n6 d), (fun d => f_t n6 d)⟩
theorem GrI.op6 (h : GrI V p0 vm v uk T nv ev Q R dn val X) (hR : R Y) : GrI V p0 vm v uk T nv ev Q R (andB dn 6) (updV val 6 (T)) (Y) :=
  ⟨h.s0, h.s1, h.s2, h.s3, h.s5, h.s7, h.s8, h.s9, h.s10, h.s11, (fun n => nomatch n), (fun _ n => nomatch n), (fun _ => rfl), (fun _ => hR)⟩
end
theorem infoK : ∃ i, Tryz.prog.info? 55 = some i ∧ i.zero = some (.agg #[.int .i64 0, .slice none 0 0]) ∧ i.size = 2 ∧ i.bytes = 32 := by
  have h : (Tryz.prog.info? 55).map (fun i => (i.zero, i.size, i.bytes)) = some (some (.agg #[.int .i64 0, .slice none 0 0]), 2, 32) := by kernel_rfl
  cases h2 : Tryz.prog.info? 55 with
  | none => rw [h2] at h; cases h
  | some i =>
    rw [h2] at h
    simp only [Option.map_some, Option.some.injEq, Prod.mk.injEq] at h
    exact ⟨i, rfl, h.1, h.2.1, h.2.2⟩
theorem wpList_app_nd {W : World} {n : Nat} {vals : List Value} {vs : Value} {c : Int} {ops : Array Oper} {rest : List Oper} {o : Oper} {a : Act} {Q : Exit → Act → World → Prop} {w : World} (hgd : o.guard = none) (s x : Operand) (ho : o.op = .call { callee := .builtin .append, args := #[s, x], argTypes := #[26, 26] })
    (hs : a.eval s = vs) (h : w.ownsRow W.heap.size 55 2 vs n vals) (hb : W.heap.size ≤ w.heap.size) (g : Nat) (hx : a.eval x = .slice (some ⟨g, 0, none⟩) 1 1) (hc : w.heap[g]? = some (.cells #[.int .i64 c, .slice none 0 0] 55)) (hn : n ≤ 100000)
    (hK : ∀ v' w', w'.ownsRow W.heap.size 55 2 v' (n + 1) (vals ++ [.int .i64 c, .slice none 0 0]) → w.grownBy w' vs.ownBlock → (v'.ownBlock = vs.ownBlock ∨ v'.ownBlock = some w.heap.size) → wpList Tryz.prog ops Q rest (a.put o.dst v') w') : wpList Tryz.prog ops Q (o :: rest) a w := by
  refine wpList_plain hgd fun _ hK2 => ?_
  obtain ⟨i0, hi0, hz0, hz1, hz2⟩ := infoK
  obtain ⟨v', w', hr', h2, h3, _, h5⟩ := run_append_own_at (P := Tryz.prog) (w := w) W.heap.size 26 o.type 55 i0 _ 2 32 Tryz.underlying26 hi0 hz0 hz1 hz2 rfl (by decide) vs n vals h ⟨g, 0, none⟩ 1 1 [.int .i64 c, .slice none 0 0] rfl
    (fun j u hj => by rw [add_zero_k]; simpa [World.cell?, hc] using hj) (fun u hu => by simp at hu; rcases hu with rfl | rfl <;> rfl) (by unfold maxLen; omega) (by omega) hb
  unfold Oper.wp execOp
  simp only [ho, resolve, invoke, builtin, Sem.run_bind, Sem.run_pure, Result.andThen_ok, List.map_toArray, List.map_cons, List.map_nil, hs, hx, hr']
  exact hK2 _ _ (hK _ _ h2 h3 h5)
section
variable {o : Oper} {a : Act} {w : World} {K : Act → World → Prop} {Q : Exit → Act → World → Prop}
theorem opLdRs (q : Nat) (ad : Addr) (v : Value) (ho : o.op = .load 23 (.tmp q)) (hq : a.tmps.getD q undef = .pointer (some ad)) (hc : w.cell? ad = some v) (h : K (a.put o.dst v) w) : o.wp Tryz.prog a w K Q := by
  unfold Oper.wp execOp
  have he : a.eval (.tmp q) = .pointer (some ad) := hq
  simp only [ho, he]
  go_simp
  exact h
set_option maxRecDepth 100000 in
theorem opLdMx (q g : Nat) (v1 v2 : Value) (ho : o.op = .load 25 (.tmp q)) (hq : a.tmps.getD q undef = .pointer (some ⟨g, 0, none⟩)) (hg : w.heap[g]? = some (.cells #[v1, v2] 25)) (h : K (a.put o.dst (.agg #[v1, v2])) w) : o.wp Tryz.prog a w K Q := by
  unfold Oper.wp execOp
  have he : a.eval (.tmp q) = .pointer (some ⟨g, 0, none⟩) := hq
  obtain ⟨c0, c1⟩ := cells_two hg
  simp only [ho, he]
  go_simp
  exact h
set_option maxRecDepth 100000 in
theorem opCallRm (q r : Nat) (v1 v2 : Value) (R : Ending → World → Prop) (ho : o.op = .call { callee := .value (.func 41), args := #[.tmp q, .tmp r], argTypes := #[23, 22] }) (h1 : a.tmps.getD q undef = v1) (h2 : a.tmps.getD r undef = v2)
    (hc : Calls Tryz.prog 41 #[v1, v2] w R) (h : ∀ e w', R e w' → ∃ v, e = .returned v ∧ K (a.put o.dst v) w') : o.wp Tryz.prog a w K Q := by
  unfold Oper.wp execOp
  have e1 : a.eval (.tmp q) = v1 := h1
  have e2 : a.eval (.tmp r) = v2 := h2
  simp only [ho]
  go_simp
  refine hc.mono ?_
  intro e w' hR
  obtain ⟨v, rfl, hK⟩ := h e w' hR
  exact hK
set_option maxRecDepth 100000 in
theorem opCallGr (q r s t : Nat) (v1 v2 v3 v4 : Value) (R : Ending → World → Prop) (ho : o.op = .call { callee := .value (.func 50), args := #[.tmp q, .tmp r, .tmp s, .tmp t], argTypes := #[91, 25, 23, 22] }) (h1 : a.tmps.getD q undef = v1) (h2 : a.tmps.getD r undef = v2) (h3 : a.tmps.getD s undef = v3) (h4 : a.tmps.getD t undef = v4)
    (hc : Calls Tryz.prog 50 #[v1, v2, v3, v4] w R) (h : ∀ e w', R e w' → ∃ v, e = .returned v ∧ K (a.put o.dst v) w') : o.wp Tryz.prog a w K Q := by
  unfold Oper.wp execOp
  have e1 : a.eval (.tmp q) = v1 := h1
  have e2 : a.eval (.tmp r) = v2 := h2
  have e3 : a.eval (.tmp s) = v3 := h3
  have e4 : a.eval (.tmp t) = v4 := h4
  simp only [ho]
  go_simp
  refine hc.mono ?_
  intro e w' hR
  obtain ⟨v, rfl, hK⟩ := h e w' hR
  exact hK
theorem opExt0 (q : Nat) (v1 v2 : Value) (ho : o.op = .extract (.tmp q) 0) (hq : a.tmps.getD q undef = .tuple #[v1, v2]) (h : K (a.put o.dst v1) w) : o.wp Tryz.prog a w K Q := by
  unfold Oper.wp execOp
  have he : a.eval (.tmp q) = .tuple #[v1, v2] := hq
  simp only [ho, he]
  go_simp
  exact h
theorem opExt1 (q : Nat) (v1 v2 : Value) (ho : o.op = .extract (.tmp q) 1) (hq : a.tmps.getD q undef = .tuple #[v1, v2]) (h : K (a.put o.dst v2) w) : o.wp Tryz.prog a w K Q := by
  unfold Oper.wp execOp
  have he : a.eval (.tmp q) = .tuple #[v1, v2] := hq
  simp only [ho, he]
  go_simp
  exact h
end
/-- what a call of grow has about it -/
structure GwS (W : World) (b : Nat) (vm1 vm2 v u : Value) (L : List Rw) (l : List Int) (O : Nat → Prop) (Y : World) : Prop where
  m0 : Y.heap[b]? = some (.cells #[vm1, vm2] 25)
  r0 : Y.heap[b + 1]? = some (.cells #[v] 23)
  s0 : Y.heap[b + 1 + 1]? = some (.cells #[u] 22)
  no : ¬ O b ∧ ¬ O (b + 1) ∧ ¬ O (b + 1 + 1)
  rv : Il2 Y Y.heap.size (fun r vm => InSl W W.heap.size vm r.may) v L
  vo : L ≠ [] → ∀ g, v.ownBlock = some g → ¬ O g
  ua : Apt Y O u l
theorem Il2.chg {X Y : World} {O : Nat → Prop} {E : Rw → Value → Prop} {v : Value} {L : List Rw} (h : Il2 X X.heap.size E v L) (hc : Chg O X Y) (hv : L ≠ [] → ∀ g, v.ownBlock = some g → ¬ O g) : Il2 Y Y.heap.size E v L := by
  obtain ⟨A, c, e, h2⟩ := h
  refine ⟨A, c, e, fun i r hr => ?_⟩
  obtain ⟨ad, vm, e4, h3, h4, h5, h6⟩ := h2 i r hr
  have hne : L ≠ [] := fun e => by subst e; simp at hr
  have hb : ¬ O ad.block := hv hne _ (by rw [e, e4]; rfl)
  have hk : ∀ p : Addr, p.block = ad.block → Y.cell? p = X.cell? p := fun p hp => World.cell?_of_block (by
    rw [hp]
    exact (hc.2 _ _ (Array.getElem?_eq_getElem h3) hb).trans (Array.getElem?_eq_getElem h3).symm)
  exact ⟨ad, vm, e4, Nat.lt_of_lt_of_le h3 hc.1, (hk _ (add_block _ _)).trans h4, (hk _ (by show (ad.add (i * 2)).block = _; exact add_block _ _)).trans h5, h6⟩
theorem GwS.chg {W : World} {b : Nat} {vm1 vm2 v u : Value} {L : List Rw} {l : List Int} {O O' : Nat → Prop} {Y Z : World} (h : GwS W b vm1 vm2 v u L l O Y) (hc : Chg O Y Z) (hf : Fro O O' Y) : GwS W b vm1 vm2 v u L l O' Z := by
  have hno : ∀ {i : Nat}, ¬ O i → i < Y.heap.size → ¬ O' i := fun h1 h2 h3 => by
    rcases hf _ h3 with h4 | h4
    · exact h1 h4
    · omega
  have l0 := (Array.getElem?_eq_some_iff.1 h.m0).1
  have l1 := (Array.getElem?_eq_some_iff.1 h.r0).1
  have l2 := (Array.getElem?_eq_some_iff.1 h.s0).1
  refine ⟨hc.2 _ _ h.m0 h.no.1, hc.2 _ _ h.r0 h.no.2.1, hc.2 _ _ h.s0 h.no.2.2, ⟨hno h.no.1 l0, hno h.no.2.1 l1, hno h.no.2.2 l2⟩, h.rv.chg hc h.vo, fun hL g e => ?_, h.ua.chg hc hf⟩
  obtain ⟨A, c, e1, h2⟩ := h.rv
  cases L with
  | nil => exact absurd rfl hL
  | cons r L =>
    obtain ⟨ad, vm, e4, h3, _⟩ := h2 0 r rfl
    rw [e1, e4] at e
    have e5 : ad.block = g := by simpa [Value.ownBlock] using e
    subst e5
    exact hno (h.vo hL _ (by rw [e1, e4]; rfl)) h3
end Go.Proofs.YthfegbcbpeedbaaGreatDoor
