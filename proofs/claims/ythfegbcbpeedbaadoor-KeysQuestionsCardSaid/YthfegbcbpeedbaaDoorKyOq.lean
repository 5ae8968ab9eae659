/- isUseful. -/
import Derived.Test.YthfegbcbpeedbaaDoorKyOo
namespace Go.Ky
open Go.Nm
/-- the path behind a node -/
def trF (k : Kx) (l : List Int) : Nat → Int → List Int
  | 0, _ => []
  | d + 1, a => if a < 0 then [] else (k.nd.getD a.toNat ⟨0, []⟩).may.getD (l.getD (k.nd.getD a.toNat ⟨0, []⟩).nm.toNat 0).toNat 0 :: trF k l d ((k.nd.getD a.toNat ⟨0, []⟩).may.getD (l.getD (k.nd.getD a.toNat ⟨0, []⟩).nm.toNat 0).toNat 0)
def traceE (m : Mx) (k : Kx) (l : List Int) : Int := if ckE m k = 0 then (if specF m.st l = true then 0 else 32) else ckE m k
def traceL (m : Mx) (k : Kx) (l : List Int) : List Int := if traceE m k l = 0 then begF k :: trF k l (k.nd.length + 1) (begF k) else []
theorem tr_neg {k : Kx} {l : List Int} {d : Nat} {a : Int} (h : a < 0) : trF k l d a = [] := by
  cases d with
  | zero => rfl
  | succ d => unfold trF; rw [if_pos h]
theorem tr_node {k : Kx} {l : List Int} {d i c s : Nat} {r : Rw} {x : Int} (hr : k.nd[i]? = some r) (hc : r.nm = (c : Int)) (hs : l[c]? = some (s : Int)) (hx : r.may[s]? = some x) : trF k l (d + 1) (i : Int) = x :: trF k l d x := by
  have e1 : k.nd.getD (i : Int).toNat ⟨0, []⟩ = r := by rw [Int.toNat_natCast, List.getD_eq_getElem?_getD, hr]; rfl
  have e2 : l.getD r.nm.toNat 0 = (s : Int) := by rw [hc, Int.toNat_natCast, List.getD_eq_getElem?_getD, hs]; rfl
  have e3 : r.may.getD ((s : Int)).toNat 0 = x := by rw [Int.toNat_natCast, List.getD_eq_getElem?_getD, hx]; rfl
  conv => lhs; unfold trF
  rw [if_neg (by omega), e1, e2, e3]
theorem spec_ok {st l : List Int} (h : specF st l = true) : l.length = st.length ∧ ∀ (c : Nat) (n s : Int), st[c]? = some n → l[c]? = some s → 0 ≤ s ∧ s < n := by
  unfold specF at h
  rw [Bool.and_eq_true] at h
  exact ⟨of_decide_eq_true h.1, fun c n s h1 h2 => of_decide_eq_true ((List.all_eq_true.1 h.2) (n, s) (List.mem_of_getElem? (zip_get h1 h2)))⟩
end Go.Ky
namespace Go.Proofs.YthfegbcbpeedbaaDoor
open Go.RowKit Go.Nm Go.Ky

set_option maxRecDepth 100000 in
set_option maxHeartbeats 4000000 in
theorem Right_any (v u : Value) (m : Mx) (k : Kx) (w : World) (hv : MxV w v m) (hs : MSm m) (hu : KyV w u k) (hk : KSm k) :
    Calls Tryd.prog 54 #[v, u] w fun e w' => e = .returned (.tuple #[.bool (decide (wrongE m k = 3)), .int .i64 (rightE m k)]) ∧ Below w.heap.size w w' := by
  obtain ⟨A1, c1, A2, c2, W0, rfl, hW0, hb0, hM, hS, hR, hX⟩ := mx_box hv
  have hz : W0.heap.size = w.heap.size + 1 := by rw [← hW0]; simp
  obtain ⟨B1, d1, B2, d2, W1, rfl, hW1, hb1, hK, hNd, hV, hX1⟩ := ky_box (hu.step hb0)
  have HW := Lib.hid (And.intro hW0 hW1)
  have HB1 := Lib.hid (hb0.trans (hb1.mono hb0.size))
  have HC := Lib.hid (Wrong_any _ _ m k W1 (hM W1 hb1) hs (hK W1 (Below.refl _ _)) hk)
  have HE := Lib.hid (show rightE m k = if wrongE m k = 3 then 0 else wrongE m k from rfl)
  have HCs := Lib.hid (wrong_cases m k)
  rw [HE.out]
  obtain ⟨we, hwe⟩ : ∃ c, wrongE m k = c := ⟨_, rfl⟩
  rw [hwe] at HC HCs ⊢
  generalize k.nd.length = n at *
  generalize k.lv.length = nl at *
  generalize m.st.length = ns at *
  generalize m.rows.length = nr at *
  generalize wrongN m k = wn at *
  clear hv hu hs hk hW0 hb0 hM hS hR hX hz hW1 hb1 hK hNd hV hX1 hwe HE
  go_enter Tryd.func54, Tryd.ntmps54
  go_wp2_with fail
  rw [HW.out.1, HW.out.2]
  (try go_wp2_with fail)
  (with_reducible refine HC.out.mono ?_)
  rintro e w1 ⟨⟨x, rfl, hx⟩, hb⟩
  have HB2 := Lib.hid (HB1.out.trans (hb.mono HB1.out.size))
  obtain ⟨Ax, cx, rfl, _⟩ := hx.1.form
  generalize (wrongL m k).length = wll at *
  clear hx hb HC
  rcases HCs.out with rfl | rfl | rfl | rfl
  · go_wp2_with fail
    go_ret2
    exact ⟨by simp, HB2.out⟩
  · go_wp2_with fail
    go_ret2
    exact ⟨by simp, HB2.out⟩
  · go_wp2_with fail
    go_ret2
    exact ⟨by simp, HB2.out⟩
  · go_wp2_with fail
    go_ret2
    exact ⟨by simp, HB2.out⟩
set_option maxRecDepth 100000 in
set_option maxHeartbeats 8000000 in
theorem Trace_any (v u t : Value) (m : Mx) (k : Kx) (l : List Int) (w : World) (hv : MxV w v m) (hs : MSm m) (hu : KyV w u k) (hk : KSm k) (ht : InSl w w.heap.size t l) (hl : l.length ≤ 1000) :
    Calls Tryd.prog 43 #[v, u, t] w fun e w' => (∃ x, e = .returned (.tuple #[x, .int .i64 (traceE m k l)]) ∧ Fr w.heap.size w' x (traceL m k l)) ∧ Below w.heap.size w w' := by
  obtain ⟨A1, c1, A2, c2, W0, rfl, hW0, hb0, hM, hS, hR, hX⟩ := mx_box hv
  have hz : W0.heap.size = w.heap.size + 1 := by rw [← hW0]; simp
  obtain ⟨B1, d1, B2, d2, W1, rfl, hW1, hb1, hK, hNd, hV, hX1⟩ := ky_box (hu.step hb0)
  rw [hz] at hX1
  have HW := Lib.hid (And.intro hW0 hW1)
  have hB1 := hb0.trans (hb1.mono hb0.size)
  have HB1 := Lib.hid hB1
  have HX := Lib.hid (fun Y (h : Below W1.heap.size W1 Y) => And.intro (hX Y (hb1.trans (h.mono hb1.size))) (hX1 Y h))
  have HC := Lib.hid (CheckKey_any _ _ m k W1 (hM W1 hb1) hs (hK W1 (Below.refl _ _)) hk)
  have HSp := Lib.hid (fun Y (h : Below W1.heap.size W1 Y) => isSpecimen_any _ t m l Y (hM Y (hb1.trans (h.mono hb1.size))) (ht.step (hB1.trans (h.mono hB1.size))) (by omega))
  have HBg := Lib.hid (fun Y (h : Below W1.heap.size W1 Y) => begin_any _ k Y (hK Y h) hk)
  have HNd := Lib.hid (hNd W1 (Below.refl _ _))
  have HTs := Lib.hid (fun Y (h : Below W1.heap.size W1 Y) => ht.step (hB1.trans (h.mono hB1.size)))
  have HCk := Lib.hid (ck_cases m k)
  have HOk := Lib.hid (fun h : ckE m k = 0 => (ck_ok h).2.2)
  have HE := Lib.hid (show traceE m k l = (if ckE m k = 0 then (if specF m.st l = true then 0 else 32) else ckE m k) ∧ traceL m k l = (if traceE m k l = 0 then begF k :: trF k l (k.nd.length + 1) (begF k) else []) from ⟨rfl, rfl⟩)
  have HSk := Lib.hid (fun h : specF m.st l = true => spec_ok h)
  obtain ⟨ce, hce⟩ : ∃ c, ckE m k = c := ⟨_, rfl⟩
  obtain ⟨te, hte⟩ : ∃ c, traceE m k l = c := ⟨_, rfl⟩
  obtain ⟨tl, htl⟩ : ∃ c, traceL m k l = c := ⟨_, rfl⟩
  obtain ⟨sp, hsp⟩ : ∃ c, specF m.st l = c := ⟨_, rfl⟩
  obtain ⟨bg, hbg⟩ : ∃ c, begF k = c := ⟨_, rfl⟩
  rw [hce] at HC HE HCk HOk
  rw [hsp] at HSp HE HSk
  rw [hte, htl, hbg] at HE
  rw [hbg] at HBg
  rw [hte, htl]
  obtain ⟨n, hn⟩ : ∃ n, k.nd.length = n := ⟨_, rfl⟩
  have HN := Lib.hid hn
  have HLv := Lib.hid hk.2.1
  have hn1 : n ≤ 2000 := by have := hk.1; omega
  have HBgr := Lib.hid (show bg = -1 ∨ (bg = 0 ∧ 0 < n) from by rw [← hbg]; unfold begF; rw [hn]; split <;> omega)
  rw [hn] at HX HW HC HBg HNd HE
  rw [hn]
  obtain ⟨⟨k0, k1⟩, k2, k3⟩ := HX.out W1 (Below.refl _ _)
  obtain ⟨At, ct, rfl, _⟩ := ht.form
  obtain ⟨nt, hnt⟩ : ∃ n, l.length = n := ⟨_, rfl⟩
  have HNt := Lib.hid hnt
  rw [hnt] at HSp HTs ⊢
  obtain ⟨nl, hnl⟩ : ∃ n, k.lv.length = n := ⟨_, rfl⟩
  rw [hnl] at HW HX HC HBg k3 ⊢
  obtain ⟨ns, hns⟩ : ∃ n, m.st.length = n := ⟨_, rfl⟩
  have HNs := Lib.hid hns
  rw [hns] at HX HW HC HSp k0 ⊢
  generalize m.rows.length = nr at *
  clear hv hu hs hk ht hl hW0 hb0 hM hS hR hX hz hW1 hb1 hK hNd hV hX1 hce hte htl hsp hbg hn hnt hB1 hnl hns
  have bad : ∀ z : Int, te = z → z ≠ 0 → tl = [] := fun z h h0 => by rw [HE.out.2, h, if_neg h0]
  go_enter Tryd.func43, Tryd.ntmps43
  go_wp2_with fail
  rw [HW.out.1, HW.out.2]
  (try go_wp2_with fail)
  (with_reducible refine HC.out.mono ?_)
  rintro e w1 ⟨rfl, hb⟩
  have HB2 := Lib.hid hb
  clear k0 k1 k2 k3 HC hb
  obtain ⟨⟨k0, k1⟩, k2, k3⟩ := HX.out w1 HB2.out
  rcases HCk.out with h0 | h0 | h0
  rotate_left
  · subst h0
    have h1 : te = 30 := by rw [HE.out.1]; rfl
    have HF := Lib.hid (And.intro h1 (bad 30 h1 (by decide)))
    clear bad HE HCk HOk h1
    go_wp2_with fail
    go_ret2
    exact ⟨⟨_, by rw [HF.out.1]; rfl, by rw [HF.out.2]; exact Fr.nil _ _⟩, HB1.out.trans (HB2.out.mono HB1.out.size)⟩
  · subst h0
    have h1 : te = 31 := by rw [HE.out.1]; rfl
    have HF := Lib.hid (And.intro h1 (bad 31 h1 (by decide)))
    clear bad HE HCk HOk h1
    go_wp2_with fail
    go_ret2
    exact ⟨⟨_, by rw [HF.out.1]; rfl, by rw [HF.out.2]; exact Fr.nil _ _⟩, HB1.out.trans (HB2.out.mono HB1.out.size)⟩
  · subst h0
    have HOk1 := Lib.hid (HOk.out rfl)
    have HSp1 := Lib.hid (HSp.out w1 HB2.out)
    clear HOk HCk HSp
    go_wp2_with fail
    (with_reducible refine HSp1.out.mono ?_)
    rintro e w2 ⟨rfl, hb⟩
    have HB3 := Lib.hid (HB2.out.trans (hb.mono HB2.out.size))
    clear k0 k1 k2 k3 HSp1 hb
    obtain ⟨⟨k0, k1⟩, k2, k3⟩ := HX.out w2 HB3.out
    cases sp with
    | false =>
      have h1 : te = 32 := by rw [HE.out.1]; rfl
      have HF := Lib.hid (And.intro h1 (bad 32 h1 (by decide)))
      clear bad HE h1
      go_wp2_with fail
      go_ret2
      exact ⟨⟨_, by rw [HF.out.1]; rfl, by rw [HF.out.2]; exact Fr.nil _ _⟩, HB1.out.trans (HB3.out.mono HB1.out.size)⟩
    | true =>
      have h1 : te = 0 := by rw [HE.out.1]; rfl
      have HF := Lib.hid (show te = 0 ∧ tl = bg :: trF k l (n + 1) bg from ⟨h1, by rw [HE.out.2, h1, if_pos rfl]⟩)
      have HSk1 := Lib.hid (HSk.out rfl)
      have HBg1 := Lib.hid (HBg.out w2 HB3.out)
      clear bad HE h1 HSk HBg
      go_wp2_with fail
      (with_reducible refine HBg1.out.mono ?_)
      rintro e w3 ⟨rfl, hb⟩
      have HB4 := Lib.hid (HB3.out.trans (hb.mono HB3.out.size))
      clear k0 k1 k2 k3 HBg1 hb
      have HO0 := Lib.hid (show OwN w3 (.slice (some ⟨w3.heap.size, 0, none⟩) 1 1) [bg] (w3.alloc (.cells #[.int .i64 bg] 3)) from ⟨below_new _, one_own w3 w3 bg (Nat.le_refl _)⟩)
      go_wp2_with fail
      go_loopw [9, 10] (fun av pv wr => ∃ (a : Int) (d : Nat) (pre : List Int) (Ap : Option Addr) (np cp : Nat), av = .int .i64 a ∧ pv = .slice Ap np cp ∧ OwN w3 (.slice Ap np cp) pre wr ∧ pre ++ trF k l d a = tl ∧ a < n ∧ -3000 ≤ a ∧ (0 ≤ a → (n : Int) + 1 ≤ a + d) ∧ (pre.length : Int) ≤ (if a < 0 then (n : Int) + 2 else a + 1)) (fun av _ _ => if intOf av < 0 then 0 else (n - intOf av).toNat)
      case atStart => exact ⟨bg, n + 1, [bg], _, _, _, rfl, rfl, HO0.out, by rw [HF.out.2]; rfl, by have := HBgr.out; omega, by have := HBgr.out; omega, fun h => by have := HBgr.out; omega, by have := HBgr.out; split <;> simp <;> omega⟩
      case round =>
        obtain ⟨a, d, pre, Ap, np, cp, rfl, rfl, hO, hpt, han, ham, had, hpl⟩ := hrel
        have HO := Lib.hid hO
        have HPt := Lib.hid hpt
        have HBw := Lib.hid (HB4.out.trans (hO.bel.mono HB4.out.size))
        clear hO hpt
        obtain ⟨⟨k0, k1⟩, k2, k3⟩ := HX.out wr HBw.out
        by_cases h0 : a < 0
        · have hq : ¬ (0 : Int) ≤ a := by omega
          have HP := Lib.hid (show pre = tl from by rw [← HPt.out, tr_neg h0, List.append_nil])
          clear hpl
          go_wp2_with fail
          go_ret2
          refine ⟨⟨_, by rw [HF.out.1]; rfl, by rw [← HP.out]; exact (HO.out.fr).low (Nat.le_trans HB1.out.size HB4.out.size)⟩, HB1.out.trans (HBw.out.mono HB1.out.size)⟩
        · obtain ⟨i, rfl⟩ : ∃ i : Nat, a = (i : Int) := ⟨a.toNat, by omega⟩
          have hin : i < n := by omega
          obtain ⟨r, ad, Am, cm, hr, rfl, hY⟩ := HNd.out.at_ hin
          have hrk := HOk1.out.nd i r hr
          obtain ⟨c, hc⟩ : ∃ c : Nat, r.nm = (c : Int) := ⟨r.nm.toNat, by omega⟩
          have hspl := HSk1.out.1
          have hcn : c < nt := by have := HNt.out; omega
          have hcs : c < m.st.length := by omega
          obtain ⟨s0, adt, hs0, rfl, _, hcs0⟩ := (show InA wr wr.heap.size At l from by obtain ⟨_, _, e, _, _, h⟩ := HTs.out wr HBw.out; cases e; exact h).at_ HNt.out hcn
          have hrg := HSk1.out.2 c _ s0 (List.getElem?_eq_getElem hcs) hs0
          obtain ⟨s, rfl⟩ : ∃ s : Nat, s0 = (s : Int) := ⟨s0.toNat, by omega⟩
          obtain ⟨q, hq⟩ : ∃ q, r.may.length = q := ⟨_, rfl⟩
          have hsq : s < q := by
            have h3 := hrk.2.2.1
            rw [hc, Int.toNat_natCast, List.getD_eq_getElem?_getD, List.getElem?_eq_getElem hcs, Option.getD_some, hq] at h3
            omega
          have hbx := below_new (w := wr) (.cells #[.int .i64 r.nm, .slice Am r.may.length cm] 65)
          have hnx := World.alloc_heap_new wr (.cells #[.int .i64 r.nm, .slice Am r.may.length cm] 65)
          obtain ⟨V, hV⟩ : ∃ V, wr.alloc (.cells #[.int .i64 r.nm, .slice Am r.may.length cm] 65) = V := ⟨_, rfl⟩
          rw [hV] at hbx hnx
          have HBV := Lib.hid (HBw.out.trans (hbx.mono HBw.out.size))
          obtain ⟨x, adm, hx, hAm, _, _⟩ := (show InA V V.heap.size Am r.may from by obtain ⟨_, _, e, _, _, h⟩ := (hY V HBV.out).2; cases e; exact h).at_ hq hsq
          subst hAm
          have HCx := Lib.hid (fun Y (h : Below W1.heap.size W1 Y) => show Y.cell? (adm.add s) = some (.int .i64 x) from by
            obtain ⟨x', ad', hx', e, _, hc'⟩ := (show InA Y Y.heap.size (some adm) r.may from by obtain ⟨_, _, e, _, _, h⟩ := (hY Y h).2; cases e; exact h).at_ hq hsq
            injection e with e
            subst e
            rw [hx] at hx'; injection hx' with hx'; subst hx'
            exact hc')
          have HCt := Lib.hid (fun Y (h : Below wr.heap.size wr Y) => (h.cell (p := adt.add c) (World.block_lt_of_cell? _ _ hcs0)).trans hcs0)
          have hxr := hrk.2.2.2 x (List.mem_of_getElem? hx)
          obtain ⟨d', hd'⟩ : ∃ d', d = d' + 1 := ⟨d - 1, by have := had (by omega); omega⟩
          have HT := Lib.hid (show pre ++ [x] ++ trF k l d' x = tl from by
            rw [← HPt.out, hd', tr_node hr hc hs0 hx, List.append_assoc]; rfl)
          have HNx := Lib.hid hnx
          have HV := Lib.hid hV
          have HOV := Lib.hid (HO.out.step hbx)
          have HBx := Lib.hid hbx
          have HCc := Lib.hid (And.intro hc hq)
          have HNN := Lib.hid (show x < n ∧ -3000 ≤ x ∧ (0 ≤ x → (n : Int) + 1 ≤ x + d') ∧ (0 ≤ x → (i : Int) < x) from by
            have h5 := hxr
            have h6 := had (by omega)
            have h7 := HN.out
            have h8 : k.lv.length ≤ 3000 := by have := HLv.out; omega
            refine ⟨by omega, by omega, fun h => by have := h5.2.2 h; omega, h5.2.2⟩)
          have HPl := Lib.hid (show pre.length ≤ i + 1 from by
            have h5 := hpl
            rw [if_neg (by omega)] at h5
            omega)
          obtain ⟨e0, e1⟩ := (hY wr HBw.out).1
          have ss := fun z : Wb V => And.intro (cells_two ((z.h.block _ (Array.getElem?_eq_some_iff.1 hnx).1).trans hnx)) (And.intro (HCx.out z.v (HBV.out.trans (z.h.mono HBV.out.size))) (HCt.out z.v (hbx.trans (z.h.mono hbx.size))))
          rw [hc] at e0
          rw [hq] at e1
          rw [hc, hq] at HV
          simp only [hc, hq] at ss
          clear hr hrk hc hspl hcs hs0 hrg hq hbx hnx hV hx hxr hd' hY had hpl hcs0
          have hi0 : (0 : Int) ≤ (i : Int) := by omega
          go_wp2_with fail
          rw [HV.out]
          refine wp_region_wb (by kernel_rfl) (by kernel_rfl) ?_; (repeat ((with_reducible refine wpQuiet_step ?_); intro K hK; go_simp; (try (refine ite_neg_of (by simp [undef]) ?_)); first | (with_reducible refine hK _ ?_; clear hK K) | (apply Exists.intro; (with_reducible refine ⟨fun _ => ?_, hK _ ?_⟩); (fail); clear hK K))); (with_reducible refine wpQuiet_nil ?_); rintro w1 ⟨⟨_, hb1⟩, rfl⟩; (try dsimp only)
          have HBz := Lib.hid hb1
          have HOz := Lib.hid (HOV.out.step hb1)
          clear ss hb1 k0 k1 k2 k3 e0 e1
          go_wp2_with (at_builtin; refine wpList_appN rfl _ _ rfl (HOz.out.step (below_new _)) rfl rfl (one_sl _ _) (by have := HPl.out; simp; omega) ?_; intro v6 w6 hO6 hg6; obtain ⟨A6, c6, rfl, _⟩ := hO6.sl.form; have HO6 := Lib.hid hO6; clear hO6 hg6)
          go_roundw
          case rel => exact ⟨x, d', pre ++ [x], _, _, _, rfl, rfl, by first | exact HO6.out | (have h := HO6.out; rw [List.length_append, List.length_singleton] at h; exact h), HT.out, HNN.out.1, HNN.out.2.1, HNN.out.2.2.1, by
            have h1 := HPl.out
            have h2 := HNN.out.2.2.2
            rw [List.length_append, List.length_singleton]
            split <;> omega⟩
          case measure =>
            have h2 := HNN.out.2.2.2
            have h3 : ¬ (i : Int) < 0 := by omega
            show (if x < 0 then 0 else ((n : Int) - x).toNat) < (if (i : Int) < 0 then 0 else ((n : Int) - (i : Int)).toNat)
            rw [if_neg h3]
            by_cases h4 : x < 0
            · rw [if_pos h4]; omega
            · rw [if_neg h4]; omega
end Go.Proofs.YthfegbcbpeedbaaDoor
namespace Go.Ky
open Go.Nm
theorem any_find {α : Type} {p : α → Bool} {L : List α} {r : α} (h : L.find? p = some r) : L.any p = true := List.any_eq_true.2 ⟨r, List.mem_of_find?_eq_some h, List.find?_some h⟩
theorem any_none {α : Type} {p : α → Bool} {L : List α} (h : L.find? p = none) : L.any p = false := by
  rw [List.any_eq_false]
  intro x hx
  exact List.find?_eq_none.1 h x hx
end Go.Ky
namespace Go.Proofs.YthfegbcbpeedbaaDoor
open Go.RowKit Go.Nm Go.Ky

set_option maxRecDepth 100000 in
set_option maxHeartbeats 4000000 in
theorem useful1_any (g h : Nat) (r : Rw) (Am : Option Addr) (cm c : Nat) (x : Int) (w : World) (hg : w.heap[g]? = some (.cells #[.int .i64 x] 3)) (hh : w.heap[h]? = some (.cells #[.int .i64 (c : Int)] 3)) (hm : InSl w w.heap.size (.slice Am r.may.length cm) r.may) (hc : c < r.may.length) (_hn : r.may.length ≤ 100000) :
    Calls Tryd.prog 134 #[.agg #[.int .i64 r.nm, .slice Am r.may.length cm], .pointer (some ⟨g, 0, none⟩), .pointer (some ⟨h, 0, none⟩)] w fun e w' => e = .returned (.bool (decide (notF x (r.may.getD c 0) ≠ 0))) ∧ Below w.heap.size w w' := by
  have hb := below_new (w := w) (.cells #[.int .i64 r.nm, .slice Am r.may.length cm] 35)
  have hnx := World.alloc_heap_new w (.cells #[.int .i64 r.nm, .slice Am r.may.length cm] 35)
  obtain ⟨W0, hW0⟩ : ∃ W, w.alloc (.cells #[.int .i64 r.nm, .slice Am r.may.length cm] 35) = W := ⟨_, rfl⟩
  rw [hW0] at hb hnx
  obtain ⟨y, ad, hy, rfl, _, hcy⟩ := (show InA W0 W0.heap.size Am r.may from by obtain ⟨_, _, e, _, _, h⟩ := hm.step hb; cases e; exact h).at_ rfl hc
  have e1 : r.may.getD c 0 = y := by rw [List.getD_eq_getElem?_getD, hy]; rfl
  rw [e1]
  have ss := fun z : Wb W0 => And.intro (cells_two ((z.h.block _ (Array.getElem?_eq_some_iff.1 hnx).1).trans hnx)) (And.intro (cell_one (((hb.trans (z.h.mono hb.size)).block _ (Array.getElem?_eq_some_iff.1 hg).1).trans hg)) (And.intro (cell_one (((hb.trans (z.h.mono hb.size)).block _ (Array.getElem?_eq_some_iff.1 hh).1).trans hh)) ((z.h.cell (p := ad.add c) (World.block_lt_of_cell? _ _ hcy)).trans hcy)))
  have HW0 := Lib.hid hW0
  have HB := Lib.hid hb
  obtain ⟨z, hz⟩ : ∃ z, bits BinOp.andNot IntKind.i64 x y = z := ⟨_, rfl⟩
  have hz2 : notF x y = z := hz
  rw [hz2]
  clear hz2
  generalize r.may.length = rl at *
  clear hg hh hm hb hnx hW0 hy hcy e1
  go_enter Tryd.func134, Tryd.ntmps134
  go_wp2_with fail
  rw [HW0.out]
  refine wp_region_wb (by kernel_rfl) (by kernel_rfl) ?_; (repeat ((with_reducible refine wpQuiet_step ?_); intro K hK; go_simp; (try (refine ite_neg_of (by simp [undef]) ?_)); first | (with_reducible refine hK _ ?_; clear hK K) | (apply Exists.intro; (with_reducible refine ⟨fun _ => ?_, hK _ ?_⟩); (fail); clear hK K))); (with_reducible refine wpQuiet_nil ?_); rintro w1 ⟨⟨_, hb1⟩, rfl⟩; (try dsimp only)
  have HB1 := Lib.hid (HB.out.trans (hb1.mono HB.out.size))
  clear hb1 ss
  go_wp2_with fail
  go_ret
  exact ⟨by first | rfl | (by_cases h0 : z = 0 <;> simp [h0]), HB1.out⟩
set_option maxRecDepth 100000 in
set_option maxHeartbeats 4000000 in
theorem ContainsUs_any (g h : Nat) (P : Rw → Bool) (v : Value) (L : List Rw) (w : World) (hv : IlSl w w.heap.size v L) (hn : L.length ≤ 100000)
    (hF : ∀ X, Below w.heap.size w X → ∀ (r : Rw) (Am : Option Addr) (cm : Nat), r ∈ L → InSl X X.heap.size (.slice Am r.may.length cm) r.may → Calls Tryd.prog 134 #[.agg #[.int .i64 r.nm, .slice Am r.may.length cm], .pointer (some ⟨g, 0, none⟩), .pointer (some ⟨h, 0, none⟩)] X fun e w' => e = .returned (.bool (P r)) ∧ Below X.heap.size X w') :
    Calls Tryd.prog 133 #[v, .func (.func 134) #[] #[.pointer (some ⟨g, 0, none⟩), .pointer (some ⟨h, 0, none⟩)]] w fun e w' => e = .returned (.bool (L.any P)) ∧ Below w.heap.size w w' := by
  have HC := Lib.hid (IndexUs_any g h P v L w hv hn hF)
  obtain ⟨A, c, rfl⟩ := hv.form
  have HN := Lib.hid hn
  obtain ⟨n, hn⟩ : ∃ n, L.length = n := ⟨_, rfl⟩
  have HNe := Lib.hid hn
  rw [hn] at HC ⊢
  clear hv hF hn
  go_enter Tryd.func133, Tryd.ntmps133
  go_wp2_with fail
  (with_reducible refine HC.out.mono ?_)
  rintro e w1 ⟨hR, hb⟩
  have HB := Lib.hid hb
  clear hb HC
  rcases hR with ⟨i, r, rfl, hr, hi, hf⟩ | ⟨rfl, hf⟩
  · have HF := Lib.hid (any_find hf)
    clear hf hr
    have hi2 : i < 100001 := by have := HN.out; have := HNe.out; omega
    go_wp2_with fail
    go_ret
    exact ⟨by rw [HF.out]; simp, HB.out⟩
  · have HF := Lib.hid (any_none hf)
    clear hf
    go_wp2_with fail
    go_ret
    exact ⟨by rw [HF.out]; simp, HB.out⟩
set_option maxRecDepth 100000 in
set_option maxHeartbeats 4000000 in
theorem isUseful_any (v : Value) (L : List Rw) (c : Nat) (x : Int) (w : World) (hv : IlSl w w.heap.size v L) (hn : L.length ≤ 100000) (hL : ∀ r ∈ L, c < r.may.length ∧ r.may.length ≤ 100000) :
    Calls Tryd.prog 122 #[v, .int .i64 (c : Int), .int .i64 x] w fun e w' => e = .returned (.bool (usefulF L c x)) ∧ Below w.heap.size w w' := by
  have hb0 := below_new (w := w) (.cells #[.int .i64 (c : Int)] 3)
  have hn0 := World.alloc_heap_new w (.cells #[.int .i64 (c : Int)] 3)
  obtain ⟨W0, hW0⟩ : ∃ W, w.alloc (.cells #[.int .i64 (c : Int)] 3) = W := ⟨_, rfl⟩
  have hz : W0.heap.size = w.heap.size + 1 := by rw [← hW0]; simp
  rw [hW0] at hb0 hn0
  have hb1 := below_new (w := W0) (.cells #[.int .i64 x] 3)
  have hn1 := World.alloc_heap_new W0 (.cells #[.int .i64 x] 3)
  obtain ⟨W1, hW1⟩ : ∃ W, W0.alloc (.cells #[.int .i64 x] 3) = W := ⟨_, rfl⟩
  rw [hW1, hz] at hn1
  rw [hW1] at hb1
  have hn0 := (hb1.block _ (Array.getElem?_eq_some_iff.1 hn0).1).trans hn0
  have hB := hb0.trans (hb1.mono hb0.size)
  have HB := Lib.hid hB
  have HC := Lib.hid (ContainsUs_any (w.heap.size + 1) w.heap.size (fun r => decide (notF x (r.may.getD c 0) ≠ 0)) v L W1 (hv.step hB) hn (fun X hX r Am cm hr hm => useful1_any (w.heap.size + 1) w.heap.size r Am cm c x X ((hX.block _ (Array.getElem?_eq_some_iff.1 hn1).1).trans hn1) ((hX.block _ (Array.getElem?_eq_some_iff.1 hn0).1).trans hn0) hm (hL r hr).1 (hL r hr).2))
  have HU := Lib.hid (show usefulF L c x = (decide (1 < L.length) && L.any fun r => decide (notF x (r.may.getD c 0) ≠ 0)) from rfl)
  rw [HU.out]
  obtain ⟨b, hb⟩ : ∃ b, (L.any fun r => decide (notF x (r.may.getD c 0) ≠ 0)) = b := ⟨_, rfl⟩
  rw [hb] at HC ⊢
  obtain ⟨A, cc, rfl⟩ := hv.form
  have HW := Lib.hid (And.intro hW0 hW1)
  obtain ⟨n, hnn⟩ : ∃ n, L.length = n := ⟨_, rfl⟩
  rw [hnn] at hn HC ⊢
  clear hv hL hb0 hn0 hW0 hz hb1 hn1 hW1 hB hb HU hnn
  by_cases h1 : 1 < n
  · have h1i : (1 : Int) < (n : Int) := by omega
    have HD := Lib.hid (decide_eq_true h1)
    clear h1
    go_enter Tryd.func122, Tryd.ntmps122
    go_wp2_with fail
    rw [HW.out.1, HW.out.2]
    (try go_wp2_with fail)
    (with_reducible refine HC.out.mono ?_)
    rintro e w1 ⟨rfl, hb⟩
    have HB1 := Lib.hid (HB.out.trans (hb.mono HB.out.size))
    clear hb
    go_wp2_with fail
    go_ret
    exact ⟨by rw [HD.out]; simp, HB1.out⟩
  · have h1i : ¬ (1 : Int) < (n : Int) := by omega
    have HD := Lib.hid (decide_eq_false h1)
    clear h1
    go_enter Tryd.func122, Tryd.ntmps122
    go_wp2_with fail
    rw [HW.out.1, HW.out.2]
    (try go_wp2_with fail)
    go_ret
    exact ⟨by rw [HD.out]; simp, HB.out⟩
set_option maxRecDepth 100000 in
set_option maxHeartbeats 4000000 in
theorem grow1_any (g h : Nat) (v u : Value) (L : List Rw) (l : List Int) (c : Nat) (w : World) (hg : w.heap[g]? = some (.cells #[v] 23)) (hh : w.heap[h]? = some (.cells #[u] 22)) (hv : IlSl w w.heap.size v L) (hu : InSl w w.heap.size u l) (hn : L.length ≤ 100000) (_hl : l.length ≤ 100000) (hc : c < l.length) (hL : ∀ r ∈ L, c < r.may.length ∧ r.may.length ≤ 100000) :
    Calls Tryd.prog 121 #[.int .i64 (c : Int), .pointer (some ⟨g, 0, none⟩), .pointer (some ⟨h, 0, none⟩)] w fun e w' => e = .returned (.bool (usefulF L c (l.getD c 0))) ∧ Below w.heap.size w w' := by
  obtain ⟨A, cc, rfl⟩ := hv.form
  obtain ⟨Au, cu, rfl, _⟩ := hu.form
  obtain ⟨x, ad, hx, rfl, _, hcx⟩ := (show InA w w.heap.size Au l from by obtain ⟨_, _, e, _, _, h⟩ := hu; cases e; exact h).at_ rfl hc
  have e1 : l.getD c 0 = x := by rw [List.getD_eq_getElem?_getD, hx]; rfl
  rw [e1]
  have hd : Below w.heap.size w w.drew := (Below.refl _ _).drew
  have HC := Lib.hid (isUseful_any _ L c x w.drew (hv.step hd) hn hL)
  have c0 := cell_one hg
  have c1 := cell_one hh
  have hci : (c : Int) < (l.length : Int) := by omega
  generalize L.length = n at *
  generalize l.length = nl at *
  clear hg hh hv hu hL hx e1
  go_enter Tryd.func121, Tryd.ntmps121
  go_wp2_with fail
  refine wp_region_tail 6 (by kernel_rfl) (by kernel_rfl) ?_
  simp only [List.take_succ_cons, List.take_zero, List.drop_succ_cons, List.drop_zero]
  repeat still_step
  refine wpStill_nil ?_
  go_wp2_with fail
  (with_reducible refine HC.out.mono ?_)
  rintro e w1 ⟨rfl, hb⟩
  have HB1 := Lib.hid (hd.trans hb)
  clear hb
  go_wp2_with fail
  go_ret
  exact ⟨rfl, HB1.out⟩
end Go.Proofs.YthfegbcbpeedbaaDoor
