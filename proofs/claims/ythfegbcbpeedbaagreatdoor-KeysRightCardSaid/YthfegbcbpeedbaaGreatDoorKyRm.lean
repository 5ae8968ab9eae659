
/- What is reached: the mathematics of the reference's marks. -/
import Derived.Test.YthfegbcbpeedbaaGreatDoorKyUn
import Derived.Test.YthfegbcbpeedbaaGreatDoorKyAs
namespace Go.Ky
open Go.Nm
open Go.Proofs.YthfegbcbpeedbaaGreatDoor (updP)
/-- what the reference marks: leaves and nodes -/
def rcN (may : List Int) (x : Nat) (st : (Nat → Bool) × (Nat → Bool)) : Nat → (Nat → Bool) × (Nat → Bool)
  | 0 => st
  | s + 1 => if x / 2 ^ s % 2 = 1 then (if may.getD s 0 < 0 then (updP (rcN may x st s).1 (-1 - may.getD s 0).toNat true, (rcN may x st s).2) else ((rcN may x st s).1, updP (rcN may x st s).2 (may.getD s 0).toNat true)) else rcN may x st s
def rcS (k : Kx) (seen : List Int) : Nat → (Nat → Bool) × (Nat → Bool)
  | 0 => (fun _ => false, updP (fun _ => false) 0 true)
  | i + 1 => if (rcS k seen i).2 i = true then rcN (k.nd.getD i ⟨0, []⟩).may (seen.getD (k.nd.getD i ⟨0, []⟩).nm.toNat 0).toNat (rcS k seen i) (k.nd.getD i ⟨0, []⟩).may.length else rcS k seen i
def rchF (k : Kx) (seen : List Int) : Nat → Bool := if k.nd.length = 0 then updP (fun _ => false) 0 true else (rcS k seen k.nd.length).1
theorem rcN_no {may : List Int} {x s : Nat} {st : (Nat → Bool) × (Nat → Bool)} (h : x / 2 ^ s % 2 = 0) : rcN may x st (s + 1) = rcN may x st s := by
  conv => lhs; unfold rcN
  rw [if_neg (by omega)]
theorem rcN_leaf {may : List Int} {x s : Nat} {st : (Nat → Bool) × (Nat → Bool)} {z : Int} (h : x / 2 ^ s % 2 = 1) (hz : may[s]? = some z) (h0 : z < 0) : rcN may x st (s + 1) = (updP (rcN may x st s).1 (-1 - z).toNat true, (rcN may x st s).2) := by
  have e : may.getD s 0 = z := by rw [List.getD_eq_getElem?_getD, hz]; rfl
  conv => lhs; unfold rcN
  rw [if_pos h, e, if_pos h0]
theorem rcN_node {may : List Int} {x s : Nat} {st : (Nat → Bool) × (Nat → Bool)} {z : Int} (h : x / 2 ^ s % 2 = 1) (hz : may[s]? = some z) (h0 : ¬ z < 0) : rcN may x st (s + 1) = ((rcN may x st s).1, updP (rcN may x st s).2 z.toNat true) := by
  have e : may.getD s 0 = z := by rw [List.getD_eq_getElem?_getD, hz]; rfl
  conv => lhs; unfold rcN
  rw [if_pos h, e, if_neg h0]
theorem rcS_no {k : Kx} {seen : List Int} {i : Nat} (h : (rcS k seen i).2 i = false) : rcS k seen (i + 1) = rcS k seen i := by
  conv => lhs; unfold rcS
  rw [if_neg (by rw [h]; simp)]
theorem rcS_yes {k : Kx} {seen : List Int} {i x : Nat} {r : Rw} (h : (rcS k seen i).2 i = true) (hr : k.nd[i]? = some r) (hx : seen[r.nm.toNat]? = some (x : Int)) : rcS k seen (i + 1) = rcN r.may x (rcS k seen i) r.may.length := by
  have e : k.nd.getD i ⟨0, []⟩ = r := by rw [List.getD_eq_getElem?_getD, hr]; rfl
  have e2 : seen.getD r.nm.toNat 0 = (x : Int) := by rw [List.getD_eq_getElem?_getD, hx]; rfl
  conv => lhs; unfold rcS
  rw [if_pos h, e, e2]
  rfl
end Go.Ky
namespace Go.Proofs.YthfegbcbpeedbaaGreatDoor
open Go.RowKit Go.Nm Go.Ky

/-- a row of bools -/
abbrev IwB (W : World) (gw n : Nat) (f : Nat → Bool) (X : World) : Prop := IwG 4 W gw n (fun k => .bool (f k)) X
theorem IwB.put {W X : World} {gw n : Nat} {f : Nat → Bool} (h : IwB W gw n f X) (k : Nat) (b : Bool) : IwB W gw n (updP f k b) (X.setCell ⟨gw, k, none⟩ (.bool b)) := by
  have h2 := IwG.set h k (.bool b)
  have e : updP (fun k => Value.bool (f k)) k (.bool b) = fun j => Value.bool (updP f k b j) := by
    funext j
    unfold updP
    split <;> rfl
  rw [e] at h2
  exact h2
set_option maxRecDepth 100000 in
set_option maxHeartbeats 8000000 in
theorem rreached_any (u v : Value) (k : Kx) (seen st : List Int) (w : World) (hu : KyV w u k) (hv : InSl w w.heap.size v seen) (hk : KSm k) (hok : KOk st k) (hss : seen.length = st.length) (hl : 1 ≤ k.lv.length)
    (hs : ∀ (i : Nat) (x : Int), seen[i]? = some x → 0 ≤ x ∧ x ≤ 65535) :
    Calls Tryz.prog 66 #[u, v] w fun e w' => (∃ g, e = .returned (.slice (some ⟨g, 0, none⟩) k.lv.length k.lv.length) ∧ IwB w g k.lv.length (rchF k seen) w') ∧ Below w.heap.size w w' := by
  obtain ⟨A1, c1, A2, c2, W0, rfl, hW0, hb0, hK, hN, hV, hX⟩ := ky_box hu
  have HB0 := Lib.hid hb0
  have HW0 := Lib.hid hW0
  have HX := Lib.hid hX
  have HNd := Lib.hid (hN W0 (Below.refl _ _))
  have hv0 := hv.step hb0
  obtain ⟨Av, cv, rfl, _⟩ := hv0.form
  have HVs := Lib.hid hv0
  have HOk := Lib.hid hok
  have HSr := Lib.hid hs
  obtain ⟨k0, k1⟩ := hX W0 (Below.refl _ _)
  obtain ⟨nn, hnn⟩ : ∃ n, k.nd.length = n := ⟨_, rfl⟩
  obtain ⟨nl, hnl⟩ : ∃ n, k.lv.length = n := ⟨_, rfl⟩
  obtain ⟨ns, hns⟩ : ∃ n, seen.length = n := ⟨_, rfl⟩
  have hl1 : 1 ≤ nl := by omega
  have hl2 : nl ≤ 2000 := by rw [← hnl]; exact hk.2.1
  have hn2 : nn ≤ 1000 := by rw [← hnn]; exact hok.nn
  have HN := Lib.hid (And.intro hnn (And.intro hnl (And.intro hns hss)))
  have HRc := Lib.hid (show rchF k seen = if nn = 0 then updP (fun _ => false) 0 true else (rcS k seen nn).1 from by rw [← hnn]; rfl)
  rw [hnn, hnl] at HW0 HX
  rw [hnn] at k0 HNd
  rw [hnl] at k1
  rw [hns] at HVs
  rw [hnn, hnl, hns]
  generalize rchF k seen = R at *
  clear hu hv hk hok hss hl hs hW0 hb0 hK hN hV hX hv0 hnn hnl hns
  go_enter Tryz.func66, Tryz.ntmps66
  by_cases h0 : nn = 0
  · subst h0
    have HR := Lib.hid (show R = updP (fun _ => false) 0 true from HRc.out)
    have hl3 : (0 : Int) < (nl : Int) := by omega
    go_wp2_with (rw [HW0.out]; refine wpList_make_bools rfl _ _ rfl nl rfl rfl (by omega) ?_; intro cs hcs1 hcs2; have HI0 := Lib.hid (show IwB W0 W0.heap.size nl (fun _ => false) (W0.alloc (.cells cs 4)) from IwG.start hcs1 hcs2); have HZ0 := Lib.hid (show (W0.alloc (.cells cs 4)).heap.size = W0.heap.size + 1 from World.size_alloc _ _); clear hcs1 hcs2; generalize W0.alloc (.cells cs 4) = V at HI0 HZ0 ⊢; obtain ⟨e0, e1⟩ := HX.out _ HI0.out.bel; have f0 := HI0.out.cell (k := 0) (by omega); have f1 := HI0.out.froz 0)
    go_ret
    exact ⟨⟨_, rfl, by rw [HR.out]; exact (HI0.out.put 0 true).low HB0.out⟩, HB0.out.trans ((HI0.out.put 0 true).bel.mono HB0.out.size)⟩
  · have HR := Lib.hid (show R = (rcS k seen nn).1 from by rw [HRc.out, if_neg h0])
    have hl3 : (0 : Int) < (nl : Int) := by omega
    have hn3 : (0 : Int) < (nn : Int) := by omega
    have hn4 : ((nn : Int) == 0) = false := beq_eq_false_iff_ne.2 (by omega)
    have HF0 := Lib.hid (show rcS k seen 0 = (fun _ => false, updP (fun _ => false) 0 true) from rfl)
    clear HRc
    go_wp2_with first | (rw [HW0.out]; refine wpList_make_bools rfl _ _ rfl nl rfl rfl (by omega) ?_; intro cs hcs1 hcs2; have HI0 := Lib.hid (show IwB W0 W0.heap.size nl (fun _ => false) (W0.alloc (.cells cs 4)) from IwG.start hcs1 hcs2); have HZ0 := Lib.hid (show (W0.alloc (.cells cs 4)).heap.size = W0.heap.size + 1 from World.size_alloc _ _); clear hcs1 hcs2; generalize W0.alloc (.cells cs 4) = V at HI0 HZ0 ⊢; obtain ⟨e0, e1⟩ := HX.out _ HI0.out.bel; have f0 := HI0.out.cell (k := 0) (by omega); have f1 := HI0.out.froz 0) | (refine wpList_make_bools rfl _ _ rfl nn rfl rfl (by omega) ?_; intro cs hcs1 hcs2; have HI1 := Lib.hid (show IwB V V.heap.size nn (fun _ => false) (V.alloc (.cells cs 4)) from IwG.start hcs1 hcs2); clear hcs1 hcs2; rw [HZ0.out] at HI1 ⊢; generalize V.alloc (.cells cs 4) = V1 at HI1 ⊢; obtain ⟨g0, g1⟩ := HX.out _ (HI0.out.bel.trans (HI1.out.bel.mono HI0.out.bel.size)); have t0 := HI1.out.cell (k := 0) (by omega); have t1 := HI1.out.froz 0)
    obtain ⟨F, hF⟩ : ∃ F, rcS k seen = F := ⟨_, rfl⟩
    have HNo := Lib.hid (fun (i : Nat) (h : (F i).2 i = false) => show F (i + 1) = F i from by rw [← hF] at h ⊢; exact rcS_no h)
    have HYe := Lib.hid (fun (i x : Nat) (r : Rw) (h : (F i).2 i = true) (hr : k.nd[i]? = some r) (hx : seen[r.nm.toNat]? = some (x : Int)) => show F (i + 1) = rcN r.may x (F i) r.may.length from by rw [← hF] at h ⊢; exact rcS_yes h hr hx)
    rw [hF] at HF0 HR
    have HIa := Lib.hid (show IwB W0 W0.heap.size nl (F 0).1 (V1.setCell ⟨W0.heap.size + 1, 0, none⟩ (.bool true)) from by rw [HF0.out]; exact (HI0.out.step HI1.out.bel).other (by omega) (by omega) 0 _)
    have HIb := Lib.hid (show IwB W0 (W0.heap.size + 1) nn (F 0).2 (V1.setCell ⟨W0.heap.size + 1, 0, none⟩ (.bool true)) from by rw [HF0.out]; exact IwB.put (HI1.out.low HI0.out.bel) 0 true)
    clear hF HI0 HI1 HZ0 e0 e1 f0 f1 g0 g1 t0 t1 HF0 k0 k1
    go_loopw [7, 8, 9] (fun iv _ _ wr => ∃ i : Nat, iv = .int .i64 (i : Int) ∧ i ≤ nn ∧ IwB W0 W0.heap.size nl (F i).1 wr ∧ IwB W0 (W0.heap.size + 1) nn (F i).2 wr) (fun iv _ _ _ => nn - (intOf iv).toNat)
    case atStart => exact ⟨0, rfl, by omega, HIa.out, HIb.out⟩
    case round =>
      clear HIa HIb
      obtain ⟨i, rfl, hin, hIa, hIb⟩ := hrel
      have HIa := Lib.hid hIa
      have HIb := Lib.hid hIb
      clear hIa hIb
      obtain ⟨wo, rfl⟩ : ∃ z, z = wr := ⟨_, rfl⟩
      by_cases hlt : i < nn
      · have hb := HIb.out.cell hlt
        obtain ⟨b, hbb⟩ : ∃ b, (F i).2 i = b := ⟨_, rfl⟩
        have HBb := Lib.hid hbb
        rw [hbb] at hb
        clear hbb
        cases b with
        | false =>
          have HE := Lib.hid (HNo.out i HBb.out)
          go_wp2_with fail
          go_roundw
          case rel => exact ⟨i + 1, by go_num, by omega, by rw [HE.out]; exact HIa.out, by rw [HE.out]; exact HIb.out⟩
          case measure => simp [intOf]; omega
        | true =>
          obtain ⟨r, ad, Am, cm, hr, rfl, hY⟩ := HNd.out.at_ hlt
          obtain ⟨hc0, hcs, hql, hall⟩ := HOk.out.nd i r hr
          obtain ⟨k0, k1⟩ := HX.out wo HIb.out.bel
          obtain ⟨⟨d0, d1⟩, hmy⟩ := hY wo HIb.out.bel
          obtain ⟨c, hc⟩ : ∃ c : Nat, r.nm = (c : Int) := ⟨r.nm.toNat, by omega⟩
          have hcl : c < seen.length := by have := HN.out.2.2.2; omega
          have hcl2 : c < ns := by rw [← HN.out.2.2.1]; exact hcl
          obtain ⟨x, hx⟩ : ∃ x : Nat, seen[c]? = some (x : Int) := by
            have h1 := HSr.out c _ (List.getElem?_eq_getElem hcl)
            exact ⟨(seen[c]).toNat, by rw [List.getElem?_eq_getElem hcl]; congr 1; omega⟩
          have HE := Lib.hid (HYe.out i x r HBb.out hr (by rw [hc]; exact hx))
          have HSx := Lib.hid hx
          obtain ⟨q, hq⟩ : ∃ q, r.may.length = q := ⟨_, rfl⟩
          have hq64 : q ≤ 1000 := by
            have h1 := HOk.out.sv c _ (List.getElem?_eq_getElem (show c < st.length by have := HN.out.2.2.2; omega))
            rw [hc, Int.toNat_natCast, List.getD_eq_getElem?_getD, List.getElem?_eq_getElem (show c < st.length by have := HN.out.2.2.2; omega)] at hql
            simp only [Option.getD_some] at hql
            omega
          have hq16 : q ≤ 16 := by
            have h1 := HOk.out.sv c _ (List.getElem?_eq_getElem (show c < st.length by have := HN.out.2.2.2; omega))
            rw [hc, Int.toNat_natCast, List.getD_eq_getElem?_getD, List.getElem?_eq_getElem (show c < st.length by have := HN.out.2.2.2; omega)] at hql
            simp only [Option.getD_some] at hql
            omega
          have HQ := Lib.hid hq
          rw [hq] at d1 hmy HE
          rw [hc] at d0
          have HAl := Lib.hid hall
          have HMy := Lib.hid (show ∀ Y, Below W0.heap.size W0 Y → InSl Y Y.heap.size (.slice Am q cm) r.may from fun Y h => by have h2 := (hY Y h).2; rw [hq] at h2; exact h2)
          obtain ⟨G, hG⟩ : ∃ G, rcN r.may x (F i) = G := ⟨_, rfl⟩
          have HG0 := Lib.hid (show G 0 = F i from by rw [← hG]; rfl)
          have HGn := Lib.hid (fun s (h : x / 2 ^ s % 2 = 0) => show G (s + 1) = G s from by rw [← hG]; exact rcN_no h)
          have HGl := Lib.hid (fun s (z : Int) (h : x / 2 ^ s % 2 = 1) (hz : r.may[s]? = some z) (h0 : z < 0) => show G (s + 1) = (updP (G s).1 (-1 - z).toNat true, (G s).2) from by rw [← hG]; exact rcN_leaf h hz h0)
          have HGd := Lib.hid (fun s (z : Int) (h : x / 2 ^ s % 2 = 1) (hz : r.may[s]? = some z) (h0 : ¬ z < 0) => show G (s + 1) = ((G s).1, updP (G s).2 z.toNat true) from by rw [← hG]; exact rcN_node h hz h0)
          rw [hG] at HE
          have hbn := below_new (w := wo) (.cells #[.int .i64 (c : Int), .slice Am q cm] 55)
          have hnn := World.alloc_heap_new wo (.cells #[.int .i64 (c : Int), .slice Am q cm] 55)
          have HA0 := Lib.hid (show IwB W0 W0.heap.size nl (G 0).1 (wo.alloc (.cells #[.int .i64 (c : Int), .slice Am q cm] 55)) from by rw [HG0.out]; exact HIa.out.step hbn)
          have HA1 := Lib.hid (show IwB W0 (W0.heap.size + 1) nn (G 0).2 (wo.alloc (.cells #[.int .i64 (c : Int), .slice Am q cm] 55)) from by rw [HG0.out]; exact HIb.out.step hbn)
          have HA2 := Lib.hid hnn
          have hwo0 : W0.heap.size + 1 < wo.heap.size := HIb.out.lt
          have HWo := Lib.hid hwo0
          have his : (i : Int) < (nn : Int) := by omega
          have hi0 : ¬ (i : Int) < 0 := by omega
          clear hr hY hc0 hcs hql hall hmy hc hcl hx hq hG hbn hnn hwo0
          go_wp2_with fail
          go_loopw [9] (fun sv wr => ∃ s : Nat, sv = .int .i64 (s : Int) ∧ s ≤ q ∧ IwB W0 W0.heap.size nl (G s).1 wr ∧ IwB W0 (W0.heap.size + 1) nn (G s).2 wr ∧ wr.heap[wo.heap.size]? = some (.cells #[.int .i64 (c : Int), .slice Am q cm] 55)) (fun sv _ => q - (intOf sv).toNat)
          case atStart => exact ⟨0, rfl, by omega, HA0.out, HA1.out, HA2.out⟩
          case round =>
            clear HA0 HA1 HA2 k0 k1 d0 d1 hb HG0
            obtain ⟨s, rfl, hsn, hJa, hJb, hJc⟩ := hrel
            have HJa := Lib.hid hJa
            have HJb := Lib.hid hJb
            have HJc := Lib.hid hJc
            clear hJa hJb hJc
            obtain ⟨m0, m1⟩ := cells_two HJc.out
            by_cases hls : s < q
            · obtain ⟨sd, rfl, cx⟩ := (HVs.out.step HJa.out.bel).ld HSx.out
              obtain ⟨z, hz⟩ : ∃ z, r.may[s]? = some z := ⟨_, List.getElem?_eq_getElem (by have := HQ.out; omega)⟩
              have HZ := Lib.hid hz
              obtain ⟨md, rfl, cz⟩ := (HMy.out wr HJa.out.bel).ld hz
              obtain ⟨hz1, hz2, _⟩ := HAl.out z (List.mem_of_getElem? hz)
              rw [HN.out.2.1] at hz1
              rw [HN.out.1] at hz2
              have hs64 : s < 64 := by omega
              have hs0 : ¬ (s : Int) < 0 := by omega
              have hss1 : (s : Int) < (q : Int) := by omega
              have hc0 : ¬ (c : Int) < 0 := by omega
              have hcn : (c : Int) < (ns : Int) := by omega
              obtain ⟨y, hy⟩ : ∃ y, x / 2 ^ s = y := ⟨_, rfl⟩
              have hyi : (x : Int) / 2 ^ s = (y : Int) := by rw [← hy]; simp
              have HYy := Lib.hid hy
              clear hz hy
              rcases Nat.mod_two_eq_zero_or_one y with hr | hr
              · have HF := Lib.hid (HGn.out s (by rw [HYy.out]; exact hr))
                have hrm : (y : Int) % 2 = 0 := by omega
                have hrt : Int.tmod (y : Int) 2 = 0 := by rw [Int.tmod_eq_emod_of_nonneg (by omega)]; exact hrm
                clear hr
                go_wp2_with fail
                go_roundw
                case rel => exact ⟨s + 1, by go_num, by omega, by rw [HF.out]; exact HJa.out, by rw [HF.out]; exact HJb.out, HJc.out⟩
                case measure => simp [intOf]; omega
              · have hrm : (y : Int) % 2 = 1 := by omega
                have hrt : Int.tmod (y : Int) 2 = 1 := by rw [Int.tmod_eq_emod_of_nonneg (by omega)]; exact hrm
                have HBt := Lib.hid (show x / 2 ^ s % 2 = 1 from by rw [HYy.out]; exact hr)
                clear hr
                by_cases h0z : z < 0
                · have HF := Lib.hid (HGl.out s z HBt.out HZ.out h0z)
                  obtain ⟨j, hj⟩ : ∃ j, (-1 - z).toNat = j := ⟨_, rfl⟩
                  rw [hj] at HF
                  have hjw : IntKind.i64.wrap (-1 - z) = (j : Int) := by rw [IntKind.wrap_i64]; omega
                  have hjl : j < nl := by omega
                  have hji : (j : Int) < (nl : Int) := by omega
                  have hj0 : ¬ (j : Int) < 0 := by omega
                  have s0 := HJa.out.cell hjl
                  have s1 := HJa.out.froz j
                  have HP := Lib.hid (IwB.put HJa.out j true)
                  have HP2 := Lib.hid (HJb.out.other (g := W0.heap.size) (by omega) (by omega) j (.bool true))
                  have HP3 := Lib.hid ((heap_setCell_other wr ⟨W0.heap.size, j, none⟩ wo.heap.size (.bool true) (by have h := HWo.out; show wo.heap.size ≠ W0.heap.size; omega)).trans HJc.out)
                  clear hj
                  go_wp2_with fail
                  go_roundw
                  case rel => exact ⟨s + 1, by go_num, by omega, by rw [HF.out]; exact HP.out, by rw [HF.out]; exact HP2.out, HP3.out⟩
                  case measure => simp [intOf]; omega
                · have HF := Lib.hid (HGd.out s z HBt.out HZ.out (by omega))
                  obtain ⟨j, rfl⟩ : ∃ j : Nat, z = (j : Int) := ⟨z.toNat, by omega⟩
                  rw [Int.toNat_natCast] at HF
                  have hjl : j < nn := by omega
                  have s0 := HJb.out.cell hjl
                  have s1 := HJb.out.froz j
                  have HP := Lib.hid (IwB.put HJb.out j true)
                  have HP2 := Lib.hid (HJa.out.other (g := W0.heap.size + 1) (by omega) (by omega) j (.bool true))
                  have HP3 := Lib.hid ((heap_setCell_other wr ⟨W0.heap.size + 1, j, none⟩ wo.heap.size (.bool true) (by have h := HWo.out; show wo.heap.size ≠ W0.heap.size + 1; omega)).trans HJc.out)
                  go_wp2_with fail
                  go_roundw
                  case rel => exact ⟨s + 1, by go_num, by omega, by rw [HF.out]; exact HP2.out, by rw [HF.out]; exact HP.out, HP3.out⟩
                  case measure => simp [intOf]; omega
            · obtain rfl : q = s := by omega
              go_wp2_with fail
              go_roundw
              case rel => exact ⟨i + 1, by go_num, by omega, by rw [HE.out]; exact HJa.out, by rw [HE.out]; exact HJb.out⟩
              case measure => simp [intOf]; omega
      · obtain rfl : nn = i := by omega
        go_wp2_with fail
        go_ret
        exact ⟨⟨_, rfl, by rw [HR.out]; exact HIa.out.low HB0.out⟩, HB0.out.trans (HIa.out.bel.mono HB0.out.size)⟩
end Go.Proofs.YthfegbcbpeedbaaGreatDoor
namespace Go.Ky
open Go.Nm
open Go.Proofs.YthfegbcbpeedbaaGreatDoor (updP)
/-- a node leads on by a state that is not excluded -/
def StepR (k : Kx) (seen : List Int) (a b : Int) : Prop := ∃ (i s x : Nat) (r : Rw), a = (i : Int) ∧ k.nd[i]? = some r ∧ seen[r.nm.toNat]? = some (x : Int) ∧ x / 2 ^ s % 2 = 1 ∧ r.may[s]? = some b
inductive Rch (k : Kx) (seen : List Int) : Int → Prop
  | beg : Rch k seen (begF k)
  | step {a b : Int} : Rch k seen a → StepR k seen a b → Rch k seen b
theorem updP_true {f : Nat → Bool} {j x : Nat} : updP f j true x = true ↔ x = j ∨ f x = true := by
  unfold updP
  by_cases e : x = j
  · simp [e]
  · simp [e]
theorem ex_succ {t : Nat} {C : Nat → Int → Prop} : (∃ s z, s < t + 1 ∧ C s z) ↔ (∃ s z, s < t ∧ C s z) ∨ ∃ z, C t z := by
  constructor
  · rintro ⟨s, z, h, hc⟩
    by_cases e : s = t
    · subst e; exact .inr ⟨z, hc⟩
    · exact .inl ⟨s, z, by omega, hc⟩
  · rintro (⟨s, z, h, hc⟩ | ⟨z, hc⟩)
    · exact ⟨s, z, by omega, hc⟩
    · exact ⟨t, z, by omega, hc⟩
theorem or_drop {A E X M : Prop} (hM : M ↔ A ∨ E) (hX : ¬ X) : M ↔ A ∨ (E ∨ X) := by
  rw [hM]
  constructor
  · rintro (h | h)
    · exact .inl h
    · exact .inr (.inl h)
  · rintro (h | h | h)
    · exact .inl h
    · exact .inr h
    · exact absurd h hX
theorem or_hit {A E X J M : Prop} (hM : M ↔ A ∨ E) (hX : X ↔ J) : J ∨ M ↔ A ∨ (E ∨ X) := by
  rw [hM, hX]
  constructor
  · rintro (h | h | h)
    · exact .inr (.inr h)
    · exact .inl h
    · exact .inr (.inl h)
  · rintro (h | h | h)
    · exact .inr (.inl h)
    · exact .inr (.inr h)
    · exact .inl h
/-- the marks that a node makes -/
theorem rcN_iff {may : List Int} {x : Nat} {st : (Nat → Bool) × (Nat → Bool)} : ∀ (t : Nat), t ≤ may.length → (∀ j, (rcN may x st t).1 j = true ↔ st.1 j = true ∨ ∃ s z, s < t ∧ (x / 2 ^ s % 2 = 1 ∧ may[s]? = some z ∧ z < 0 ∧ j = (-1 - z).toNat)) ∧
    ∀ j, (rcN may x st t).2 j = true ↔ st.2 j = true ∨ ∃ s z, s < t ∧ (x / 2 ^ s % 2 = 1 ∧ may[s]? = some z ∧ ¬ z < 0 ∧ j = z.toNat)
  | 0, _ => by
    refine ⟨fun j => ⟨fun h => .inl h, fun h => ?_⟩, fun j => ⟨fun h => .inl h, fun h => ?_⟩⟩
    · rcases h with h | ⟨s, z, h, _⟩
      · exact h
      · omega
    · rcases h with h | ⟨s, z, h, _⟩
      · exact h
      · omega
  | t + 1, ht => by
    obtain ⟨h1, h2⟩ := rcN_iff (may := may) (x := x) (st := st) t (by omega)
    obtain ⟨z, hz⟩ : ∃ z, may[t]? = some z := ⟨_, List.getElem?_eq_getElem (by omega)⟩
    rcases Nat.mod_two_eq_zero_or_one (x / 2 ^ t) with hb | hb
    · rw [rcN_no hb]
      refine ⟨fun j => ?_, fun j => ?_⟩
      · rw [ex_succ]
        exact or_drop (h1 j) (by rintro ⟨y, e, _⟩; rw [hb] at e; cases e)
      · rw [ex_succ]
        exact or_drop (h2 j) (by rintro ⟨y, e, _⟩; rw [hb] at e; cases e)
    · by_cases h0 : z < 0
      · rw [rcN_leaf hb hz h0]
        refine ⟨fun j => ?_, fun j => ?_⟩
        · rw [ex_succ]
          refine updP_true.trans (or_hit (h1 j) ⟨?_, fun e => ⟨z, hb, hz, h0, e⟩⟩)
          rintro ⟨y, _, e2, _, e4⟩
          rw [hz] at e2
          injection e2 with e2
          rw [e2]
          exact e4
        · rw [ex_succ]
          refine or_drop (h2 j) ?_
          rintro ⟨y, _, e2, e3, _⟩
          rw [hz] at e2
          injection e2 with e2
          rw [e2] at h0
          exact e3 h0
      · rw [rcN_node hb hz h0]
        refine ⟨fun j => ?_, fun j => ?_⟩
        · rw [ex_succ]
          refine or_drop (h1 j) ?_
          rintro ⟨y, _, e2, e3, _⟩
          rw [hz] at e2
          injection e2 with e2
          rw [e2] at h0
          exact h0 e3
        · rw [ex_succ]
          refine updP_true.trans (or_hit (h2 j) ⟨?_, fun e => ⟨z, hb, hz, h0, e⟩⟩)
          rintro ⟨y, _, e2, _, e4⟩
          rw [hz] at e2
          injection e2 with e2
          rw [e2]
          exact e4
/-- node a is marked when it is looked at -/
def OnR (k : Kx) (seen : List Int) (a : Nat) : Prop := (rcS k seen a).2 a = true
theorem rcS_iff {k : Kx} {seen st : List Int} (hok : KOk st k) (hl : seen.length = st.length) (hs : ∀ (i : Nat) (x : Int), seen[i]? = some x → 0 ≤ x) : ∀ i, i ≤ k.nd.length →
    (∀ j, (rcS k seen i).1 j = true ↔ ∃ (a : Nat) (z : Int), a < i ∧ OnR k seen a ∧ StepR k seen a z ∧ z < 0 ∧ j = (-1 - z).toNat) ∧
    ∀ j, (rcS k seen i).2 j = true ↔ j = 0 ∨ ∃ (a : Nat) (z : Int), a < i ∧ OnR k seen a ∧ StepR k seen a z ∧ ¬ z < 0 ∧ j = z.toNat
  | 0, _ => by
    refine ⟨fun j => ⟨fun h => (Bool.false_ne_true h).elim, ?_⟩, fun j => ?_⟩
    · rintro ⟨a, z, h, _⟩; omega
    · show updP (fun _ => false) 0 true j = true ↔ _
      refine updP_true.trans ⟨?_, ?_⟩
      · rintro (h | h)
        · exact .inl h
        · cases h
      · rintro (h | ⟨a, z, h, _⟩)
        · exact .inl h
        · omega
  | i + 1, hi => by
    obtain ⟨h1, h2⟩ := rcS_iff hok hl hs i (by omega)
    obtain ⟨r, hr⟩ : ∃ r, k.nd[i]? = some r := ⟨_, List.getElem?_eq_getElem (by omega)⟩
    obtain ⟨hc0, hc1, _, _⟩ := hok.nd i r hr
    obtain ⟨x, hx⟩ : ∃ x : Nat, seen[r.nm.toNat]? = some (x : Int) := by
      have h3 : r.nm.toNat < seen.length := by omega
      have h4 := hs _ _ (List.getElem?_eq_getElem h3)
      exact ⟨(seen[r.nm.toNat]).toNat, by rw [List.getElem?_eq_getElem h3]; congr 1; omega⟩
    have stp : ∀ z, StepR k seen (i : Int) z ↔ ∃ s, s < r.may.length ∧ x / 2 ^ s % 2 = 1 ∧ r.may[s]? = some z := fun z => by
      constructor
      · rintro ⟨i2, s, x2, r2, e, hr2, hx2, hb, hz⟩
        obtain rfl : i = i2 := by omega
        rw [hr] at hr2; injection hr2 with hr2; subst hr2
        rw [hx] at hx2; injection hx2 with hx2
        obtain rfl : x = x2 := by omega
        exact ⟨s, (List.getElem?_eq_some_iff.1 hz).1, hb, hz⟩
      · rintro ⟨s, _, hb, hz⟩
        exact ⟨i, s, x, r, rfl, hr, hx, hb, hz⟩
    cases hon : (rcS k seen i).2 i with
    | false =>
      rw [rcS_no hon]
      have hno : ¬ OnR k seen i := fun h => by unfold OnR at h; rw [hon] at h; cases h
      refine ⟨fun j => (h1 j).trans ⟨?_, ?_⟩, fun j => (h2 j).trans ⟨?_, ?_⟩⟩
      · rintro ⟨a, z, ha, hr⟩; exact ⟨a, z, by omega, hr⟩
      · rintro ⟨a, z, ha, h, hr⟩
        by_cases e : a = i
        · subst e; exact absurd h hno
        · exact ⟨a, z, by omega, h, hr⟩
      · rintro (h | ⟨a, z, ha, hr⟩)
        · exact .inl h
        · exact .inr ⟨a, z, by omega, hr⟩
      · rintro (h | ⟨a, z, ha, h, hr⟩)
        · exact .inl h
        · by_cases e : a = i
          · subst e; exact absurd h hno
          · exact .inr ⟨a, z, by omega, h, hr⟩
    | true =>
      rw [rcS_yes hon hr hx]
      obtain ⟨g1, g2⟩ := rcN_iff (may := r.may) (x := x) (st := rcS k seen i) r.may.length (Nat.le_refl _)
      refine ⟨fun j => (g1 j).trans ⟨?_, ?_⟩, fun j => (g2 j).trans ⟨?_, ?_⟩⟩
      · rintro (h | ⟨s, z, hst, hb, hz, h0, e⟩)
        · obtain ⟨a, z, ha, hr⟩ := (h1 j).1 h
          exact ⟨a, z, by omega, hr⟩
        · exact ⟨i, z, by omega, hon, (stp z).2 ⟨s, hst, hb, hz⟩, h0, e⟩
      · rintro ⟨a, z, ha, h, hsz, h0, e⟩
        by_cases ea : a = i
        · subst ea
          obtain ⟨s, hst, hb, hz⟩ := (stp z).1 hsz
          exact .inr ⟨s, z, hst, hb, hz, h0, e⟩
        · exact .inl ((h1 j).2 ⟨a, z, by omega, h, hsz, h0, e⟩)
      · rintro (h | ⟨s, z, hst, hb, hz, h0, e⟩)
        · rcases (h2 j).1 h with h | ⟨a, z, ha, hr⟩
          · exact .inl h
          · exact .inr ⟨a, z, by omega, hr⟩
        · exact .inr ⟨i, z, by omega, hon, (stp z).2 ⟨s, hst, hb, hz⟩, h0, e⟩
      · rintro (h | ⟨a, z, ha, h, hsz, h0, e⟩)
        · exact .inl ((h2 j).2 (.inl h))
        · by_cases ea : a = i
          · subst ea
            obtain ⟨s, hst, hb, hz⟩ := (stp z).1 hsz
            exact .inr ⟨s, z, hst, hb, hz, h0, e⟩
          · exact .inl ((h2 j).2 (.inr ⟨a, z, by omega, h, hsz, h0, e⟩))
theorem step_node {k : Kx} {seen : List Int} {a b : Int} (h : StepR k seen a b) : 0 ≤ a ∧ a < k.nd.length := by
  obtain ⟨i, s, x, r, e, hr, _⟩ := h
  have := (List.getElem?_eq_some_iff.1 hr).1
  omega
theorem step_next {k : Kx} {seen st : List Int} (hok : KOk st k) {a b : Int} (h : StepR k seen a b) : -(k.lv.length : Int) ≤ b ∧ b < k.nd.length ∧ (0 ≤ b → a < b) := by
  obtain ⟨i, s, x, r, e, hr, _, _, hz⟩ := h
  have h2 := (hok.nd i r hr).2.2.2 b (List.mem_of_getElem? hz)
  rw [e]
  exact h2
theorem on_rch {k : Kx} {seen st : List Int} (hok : KOk st k) (hl : seen.length = st.length) (hs : ∀ (i : Nat) (x : Int), seen[i]? = some x → 0 ≤ x) : ∀ a, a < k.nd.length → OnR k seen a → Rch k seen (a : Int) := by
  intro a
  induction a using Nat.strongRecOn with
  | _ a ih =>
    intro ha h
    rcases ((rcS_iff hok hl hs a (by omega)).2 a).1 h with h | ⟨b, z, hb, ho, hst, h0, e⟩
    · subst h
      have hb : begF k = 0 := by unfold begF; rw [if_neg (by omega)]
      have := Rch.beg (k := k) (seen := seen)
      rw [hb] at this
      exact this
    · have ez : z = (a : Int) := by omega
      rw [ez] at hst
      exact .step (ih b hb (by omega) ho) hst
theorem rch_on {k : Kx} {seen st : List Int} (hok : KOk st k) (hl : seen.length = st.length) (hs : ∀ (i : Nat) (x : Int), seen[i]? = some x → 0 ≤ x) {b : Int} (h : Rch k seen b) : ∀ bn : Nat, b = (bn : Int) → bn < k.nd.length → OnR k seen bn := by
  induction h with
  | beg =>
    intro bn e hb
    unfold begF at e
    rw [if_neg (by omega)] at e
    obtain rfl : bn = 0 := by omega
    show updP (fun _ => false) 0 true 0 = true
    exact updP_true.2 (.inl rfl)
  | @step a b _ hst ih =>
    intro bn e hb
    obtain ⟨ha0, ha1⟩ := step_node hst
    have hn := step_next hok hst
    have ho := ih a.toNat (by omega) (by omega)
    refine ((rcS_iff hok hl hs bn (by omega)).2 bn).2 (.inr ⟨a.toNat, b, by omega, ho, ?_, by omega, by omega⟩)
    rw [Int.toNat_of_nonneg ha0]
    exact hst
/-- the leaves that the reference marks are those that are reached -/
theorem rch_iff {k : Kx} {seen st : List Int} (hok : KOk st k) (hl : seen.length = st.length) (hs : ∀ (i : Nat) (x : Int), seen[i]? = some x → 0 ≤ x) (j : Nat) : rchF k seen j = true ↔ Rch k seen (-1 - (j : Int)) := by
  unfold rchF
  by_cases h0 : k.nd.length = 0
  · rw [if_pos h0]
    have hb : begF k = -1 := by unfold begF; rw [if_pos h0]
    refine updP_true.trans ⟨?_, fun h => ?_⟩
    · rintro (h | h)
      · subst h
        have := Rch.beg (k := k) (seen := seen)
        rw [hb] at this
        exact this
      · cases h
    · generalize e : (-1 - (j : Int)) = z at h
      cases h with
      | beg => left; omega
      | step _ hst => have := step_node hst; omega
  · rw [if_neg h0]
    have hb : begF k = 0 := by unfold begF; rw [if_neg h0]
    refine ((rcS_iff hok hl hs k.nd.length (Nat.le_refl _)).1 j).trans ⟨?_, fun h => ?_⟩
    · rintro ⟨a, z, ha, ho, hst, hz, e⟩
      have ez : z = -1 - (j : Int) := by omega
      rw [ez] at hst
      exact .step (on_rch hok hl hs a ha ho) hst
    · generalize e : (-1 - (j : Int)) = z at h
      cases h with
      | beg => omega
      | @step a _ ha hst =>
        obtain ⟨ha0, ha1⟩ := step_node hst
        refine ⟨a.toNat, z, by omega, rch_on hok hl hs ha a.toNat (by omega) (by omega), ?_, by omega, by omega⟩
        rw [Int.toNat_of_nonneg ha0]
        exact hst
end Go.Ky
