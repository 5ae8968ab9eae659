/- The reference: remain, Remain, Fits. -/
import Derived.Test.YthfegbcbpeedbaaDoorKyU
namespace Go.Proofs.YthfegbcbpeedbaaDoor
open Go.RowKit Go.Nm Go.Ky

theorem OwN.slice {W X : World} {v : Value} {L : List Int} (h : OwN W v L X) : ∃ A n c, v = .slice A n c := by
  obtain ⟨A, c, e, _⟩ := h.sl.form
  exact ⟨A, _, c, e⟩
set_option maxRecDepth 100000 in
set_option maxHeartbeats 8000000 in
theorem rseenError_any (v u : Value) (m : Mx) (l : List Int) (w : World) (hv : MxV w v m) (hs : MSm m) (hu : InSl w w.heap.size u l) (hl : l.length ≤ 1000000) :
    Calls Tryd.prog 71 #[v, u] w fun e w' => e = .returned (.int .i64 (seenE m [l])) ∧ Below w.heap.size w w' := by
  obtain ⟨A1, c1, A2, c2, W0, rfl, hW0, hb0, hM, hS, hR, hX⟩ := mx_box hv
  have HB0 := Lib.hid hb0
  have HW0 := Lib.hid hW0
  have HX := Lib.hid hX
  have hu0 := hu.step hb0
  obtain ⟨Au, cu, rfl, _⟩ := hu0.form
  have HC := Lib.hid (rCheckMatrix_any _ m W0 (hM W0 (Below.refl _ _)) hs)
  have HSe := Lib.hid (fun (h : mxF m = true) Y (hb : Below W0.heap.size W0 Y) => rsets_any _ _ m.st l Y (hS Y hb) (hu0.step hb) (fun q hq => st_range h hq) (by have := hs.1; omega) hl)
  obtain ⟨k0, k1⟩ := hX W0 (Below.refl _ _)
  have HO := Lib.hid (show seenE m [l] = if mxF m = true then (if setsF m.st l = true then 0 else 32) else 30 from by unfold seenE; simp)
  obtain ⟨er, hr⟩ : ∃ r, seenE m [l] = r := ⟨_, rfl⟩
  rw [hr] at HO ⊢
  generalize m.st.length = ns at *
  generalize m.rows.length = nr at *
  generalize l.length = n at *
  clear hv hu hu0 hW0 hb0 hM hS hR hX hl hr hs
  cases hm : mxF m with
  | false =>
    have HF := Lib.hid (show er = 30 from by rw [HO.out, hm]; simp)
    rw [show cmE m = 30 from by unfold cmE; simp [hm]] at HC
    clear hm HO HSe
    go_enter Tryd.func71, Tryd.ntmps71
    go_wp2_with fail
    rw [HW0.out]
    (try go_wp2_with fail)
    (with_reducible refine HC.out.mono ?_)
    rintro e w1 ⟨rfl, hb⟩
    have HB1 := Lib.hid (HB0.out.trans (hb.mono HB0.out.size))
    clear hb
    go_wp2_with fail
    go_ret
    exact ⟨by rw [HF.out]; rfl, HB1.out⟩
  | true =>
    have HT := Lib.hid (show er = if setsF m.st l = true then 0 else 32 from by rw [HO.out, hm]; simp)
    have HSe1 := Lib.hid (HSe.out hm)
    rw [show cmE m = 0 from by unfold cmE; simp [hm]] at HC
    obtain ⟨b, hb⟩ : ∃ b, setsF m.st l = b := ⟨_, rfl⟩
    rw [hb] at HT HSe1
    clear hm HO HSe hb
    go_enter Tryd.func71, Tryd.ntmps71
    go_wp2_with fail
    rw [HW0.out]
    (try go_wp2_with fail)
    (with_reducible refine HC.out.mono ?_)
    rintro e w1 ⟨rfl, hb⟩
    have HBl := Lib.hid hb
    have HB1 := Lib.hid (HB0.out.trans (hb.mono HB0.out.size))
    have HSe2 := Lib.hid (HSe1.out w1 hb)
    clear hb k0 k1 HSe1
    obtain ⟨k0, k1⟩ := HX.out w1 HBl.out
    go_wp2_with fail
    (with_reducible refine HSe2.out.mono ?_)
    rintro e w2 ⟨rfl, hb⟩
    have HB2 := Lib.hid (HB1.out.trans (hb.mono HB1.out.size))
    clear hb k0 k1 HSe2
    cases b with
    | false =>
      have HF := Lib.hid (show er = 32 from by rw [HT.out]; simp)
      go_wp2_with fail
      go_ret
      exact ⟨by rw [HF.out]; rfl, HB2.out⟩
    | true =>
      have HF := Lib.hid (show er = 0 from by rw [HT.out]; simp)
      go_wp2_with fail
      go_ret
      exact ⟨by rw [HF.out]; rfl, HB2.out⟩
set_option maxRecDepth 100000 in
set_option maxHeartbeats 8000000 in
theorem rValidSeen_any (v u : Value) (m : Mx) (l : List Int) (w : World) (hv : MxV w v m) (hs : MSm m) (hu : InSl w w.heap.size u l) (hl : l.length ≤ 1000000) :
    Calls Tryd.prog 24 #[v, u] w fun e w' => e = .returned (.bool (decide (seenE m [l] = 0))) ∧ Below w.heap.size w w' := by
  obtain ⟨A1, c1, A2, c2, W0, rfl, hW0, hb0, hM, hS, hR, hX⟩ := mx_box hv
  have HB0 := Lib.hid hb0
  have HW0 := Lib.hid hW0
  have HX := Lib.hid hX
  have hu0 := hu.step hb0
  obtain ⟨Au, cu, rfl, _⟩ := hu0.form
  have HC := Lib.hid (rCheckMatrix_any _ m W0 (hM W0 (Below.refl _ _)) hs)
  have HSe := Lib.hid (fun (h : mxF m = true) Y (hb : Below W0.heap.size W0 Y) => rsets_any _ _ m.st l Y (hS Y hb) (hu0.step hb) (fun q hq => st_range h hq) (by have := hs.1; omega) hl)
  obtain ⟨k0, k1⟩ := hX W0 (Below.refl _ _)
  have HO := Lib.hid (show decide (seenE m [l] = 0) = (mxF m && setsF m.st l) from by
    unfold seenE
    cases mxF m <;> cases h : setsF m.st l <;> simp [h])
  rw [HO.out]
  generalize m.st.length = ns at *
  generalize m.rows.length = nr at *
  generalize l.length = n at *
  clear hv hu hu0 hW0 hb0 hM hS hR hX hl hs HO
  cases hm : mxF m with
  | false =>
    rw [show cmE m = 30 from by unfold cmE; simp [hm]] at HC
    clear hm HSe
    go_enter Tryd.func24, Tryd.ntmps24
    go_wp2_with fail
    rw [HW0.out]
    (try go_wp2_with fail)
    (with_reducible refine HC.out.mono ?_)
    rintro e w1 ⟨rfl, hb⟩
    have HB1 := Lib.hid (HB0.out.trans (hb.mono HB0.out.size))
    clear hb
    go_wp2_with fail
    go_ret
    exact ⟨by first | rfl | simp, HB1.out⟩
  | true =>
    have HSe1 := Lib.hid (HSe.out hm)
    rw [show cmE m = 0 from by unfold cmE; simp [hm]] at HC
    obtain ⟨b, hb⟩ : ∃ b, setsF m.st l = b := ⟨_, rfl⟩
    rw [hb] at HSe1 ⊢
    clear hm HSe hb
    go_enter Tryd.func24, Tryd.ntmps24
    go_wp2_with fail
    rw [HW0.out]
    (try go_wp2_with fail)
    (with_reducible refine HC.out.mono ?_)
    rintro e w1 ⟨rfl, hb⟩
    have HBl := Lib.hid hb
    have HB1 := Lib.hid (HB0.out.trans (hb.mono HB0.out.size))
    have HSe2 := Lib.hid (HSe1.out w1 hb)
    clear hb k0 k1 HSe1
    obtain ⟨k0, k1⟩ := HX.out w1 HBl.out
    go_wp2_with fail
    (with_reducible refine HSe2.out.mono ?_)
    rintro e w2 ⟨rfl, hb⟩
    have HB2 := Lib.hid (HB1.out.trans (hb.mono HB1.out.size))
    clear hb k0 k1 HSe2
    go_wp2_with fail
    go_ret
    exact ⟨by first | rfl | simp, HB2.out⟩
set_option maxRecDepth 100000 in
set_option maxHeartbeats 8000000 in
theorem ropen_any (v : Value) (m : Mx) (w : World) (hv : MxV w v m) (hs : MSm m) (hc : ∀ q ∈ m.st, 2 ≤ q ∧ q ≤ 16) :
    Calls Tryd.prog 60 #[v] w fun e w' => (∃ u, e = .returned u ∧ InSl w' w'.heap.size u (m.st.map full) ∧ ∀ g, u.ownBlock = some g → w.heap.size ≤ g) ∧ Below w.heap.size w w' := by
  obtain ⟨A1, c1, A2, c2, W0, rfl, hW0, hb0, hM, hS, hR, hX⟩ := mx_box hv
  have HB0 := Lib.hid hb0
  have HW0 := Lib.hid hW0
  have HX := Lib.hid hX
  have HSl := Lib.hid hS
  have HCh := Lib.hid hc
  obtain ⟨k0, k1⟩ := hX W0 (Below.refl _ _)
  obtain ⟨ns, hns⟩ : ∃ n, m.st.length = n := ⟨_, rfl⟩
  have HN := Lib.hid hns
  have hns1 : ns ≤ 1000 := by have := hs.1; omega
  rw [hns] at HX HW0 HSl k0 ⊢
  generalize m.rows.length = nr at *
  have HI0 := Lib.hid (OwN.start W0)
  clear hv hs hW0 hb0 hM hS hR hX hns hc
  go_enter Tryd.func60, Tryd.ntmps60
  go_wp2_with fail
  rw [HW0.out]
  (try go_wp2_with fail)
  clear k0 k1
  go_loopw [3, 4] (fun ov iv wr => ∃ (i : Nat) (Ao : Option Addr) (no co : Nat), ov = .slice Ao no co ∧ iv = .int .i64 (i : Int) ∧ i ≤ ns ∧ OwN W0 ov ((m.st.take i).map full) wr) (fun _ iv _ => ns - (intOf iv).toNat)
  case atStart => exact ⟨0, _, _, _, rfl, rfl, by omega, HI0.out⟩
  case round =>
    obtain ⟨i, Ao, no, co, rfl, rfl, hin, hI⟩ := hrel
    have HI := Lib.hid hI
    clear hI
    obtain ⟨k0, k1⟩ := HX.out wr HI.out.bel
    by_cases hlt : i < ns
    · have HA := Lib.hid (show InA wr wr.heap.size A1 m.st from by obtain ⟨_, _, e, _, _, h⟩ := HSl.out wr HI.out.bel; cases e; exact h)
      obtain ⟨q, ad, hq, rfl, _, hcq⟩ := HA.out.at_ HN.out hlt
      obtain ⟨hq3, hq4⟩ := HCh.out q (List.mem_of_getElem? hq)
      obtain ⟨k, rfl⟩ : ∃ k : Nat, q = (k : Int) := ⟨q.toNat, by omega⟩
      obtain ⟨p1, p2⟩ := pow16 (k := k) (by omega)
      have HP := Lib.hid (show IntKind.i64.wrap (2 ^ k) = ((2 ^ k : Nat) : Int) from by rw [show ((2 : Int) ^ k) = ((2 ^ k : Nat) : Int) from by simp, IntKind.wrap_i64]; omega)
      have HFu := Lib.hid (full_nat k)
      obtain ⟨mm, hmm⟩ : ∃ mm, 2 ^ k = mm := ⟨_, rfl⟩
      have hw := HP.out
      rw [hmm] at hw p1 p2 HFu
      obtain ⟨fu, hfu⟩ : ∃ fu, (mm : Int) - 1 = fu := ⟨_, rfl⟩
      have hwm : IntKind.i64.wrap ((mm : Int) - 1) = fu := by rw [IntKind.wrap_i64]; omega
      rw [hfu] at HFu
      have HQ := Lib.hid (show (m.st.take (i + 1)).map full = (m.st.take i).map full ++ [fu] from by
        rw [show m.st.take (i + 1) = m.st.take i ++ [(k : Int)] from by rw [List.take_add_one, hq]; rfl, List.map_append, List.map_cons, List.map_nil, HFu.out])
      have HLn := Lib.hid (show ((m.st.take i).map full).length + [fu].length ≤ 3000000 from by
        have h1 := List.length_take_le i m.st
        rw [List.length_map]
        simp only [List.length_cons, List.length_nil]
        omega)
      clear hq HP hmm hfu
      go_wp2_with (at_builtin; refine wpList_appN rfl _ _ rfl (HI.out.step (below_new _)) rfl rfl (box_sl (y := fu) (World.alloc_heap_new _ _)) HLn.out ?_; intro v6 w6 hI6 _; obtain ⟨A6, n6, c6, e6⟩ := hI6.slice; subst e6; have HI6 := Lib.hid hI6; clear hI6)
      go_roundw
      case rel => exact ⟨i + 1, _, _, _, rfl, by go_num, by omega, by rw [HQ.out]; exact HI6.out⟩
      case measure => simp [intOf]; omega
    · obtain rfl : ns = i := by omega
      have HI2 := Lib.hid HI.out
      rw [show m.st.take ns = m.st from List.take_of_length_le (by have := HN.out; omega)] at HI2
      go_wp2_with fail
      go_ret
      exact ⟨⟨_, rfl, HI2.out.sl, fun g e => Nat.le_trans HB0.out.size (HI2.out.own.lt g e).1⟩, HB0.out.trans (HI2.out.bel.mono HB0.out.size)⟩
set_option maxRecDepth 100000 in
set_option maxHeartbeats 8000000 in
theorem rOpen_any (v : Value) (m : Mx) (w : World) (hv : MxV w v m) (hs : MSm m) :
    Calls Tryd.prog 18 #[v] w fun e w' => (∃ u, e = .returned (.tuple #[u, .int .i64 (cmE m)]) ∧ InSl w' w'.heap.size u (openF m) ∧ ∀ g, u.ownBlock = some g → w.heap.size ≤ g) ∧ Below w.heap.size w w' := by
  obtain ⟨A1, c1, A2, c2, W0, rfl, hW0, hb0, hM, hS, hR, hX⟩ := mx_box hv
  have HB0 := Lib.hid hb0
  have HW0 := Lib.hid hW0
  have HX := Lib.hid hX
  have HC := Lib.hid (rCheckMatrix_any _ m W0 (hM W0 (Below.refl _ _)) hs)
  have HOp := Lib.hid (fun (h : mxF m = true) Y (hb : Below W0.heap.size W0 Y) => ropen_any _ m Y (hM Y hb) hs (fun q hq => st_range h hq))
  obtain ⟨k0, k1⟩ := hX W0 (Below.refl _ _)
  generalize m.st.length = ns at *
  generalize m.rows.length = nr at *
  clear hv hW0 hb0 hM hS hR hX hs
  cases hm : mxF m with
  | false =>
    have HF := Lib.hid (show cmE m = 30 ∧ openF m = [] from ⟨by unfold cmE; simp [hm], by unfold openF; simp [hm]⟩)
    rw [HF.out.1] at HC ⊢
    rw [HF.out.2]
    clear hm HF HOp
    go_enter Tryd.func18, Tryd.ntmps18
    go_wp2_with fail
    rw [HW0.out]
    (try go_wp2_with fail)
    (with_reducible refine HC.out.mono ?_)
    rintro e w1 ⟨rfl, hb⟩
    have HB1 := Lib.hid (HB0.out.trans (hb.mono HB0.out.size))
    clear hb
    go_wp2_with fail
    go_ret2
    exact ⟨⟨_, rfl, InSl.nil _ _, fun g e => by cases e⟩, HB1.out⟩
  | true =>
    have HF := Lib.hid (show cmE m = 0 ∧ openF m = m.st.map full from ⟨by unfold cmE; simp [hm], by unfold openF; simp [hm]⟩)
    have HOp1 := Lib.hid (HOp.out hm)
    rw [HF.out.1] at HC ⊢
    rw [HF.out.2]
    clear hm HF HOp
    go_enter Tryd.func18, Tryd.ntmps18
    go_wp2_with fail
    rw [HW0.out]
    (try go_wp2_with fail)
    (with_reducible refine HC.out.mono ?_)
    rintro e w1 ⟨rfl, hb⟩
    have HBl := Lib.hid hb
    have HO2 := Lib.hid (HOp1.out w1 hb)
    clear hb k0 k1 HOp1
    obtain ⟨k0, k1⟩ := HX.out w1 HBl.out
    go_wp2_with fail
    (with_reducible refine HO2.out.mono ?_)
    rintro e w2 ⟨⟨u, rfl, hu, ho⟩, hb⟩
    have HR := Lib.hid (And.intro hu ho)
    have HB2 := Lib.hid (HBl.out.trans (hb.mono HBl.out.size))
    clear hu ho hb k0 k1 HO2
    go_wp2_with fail
    go_ret2
    exact ⟨⟨_, rfl, HR.out.1, fun g e => Nat.le_trans (Nat.le_trans HB0.out.size HBl.out.size) (HR.out.2 g e)⟩, HB0.out.trans (HB2.out.mono HB0.out.size)⟩
end Go.Proofs.YthfegbcbpeedbaaDoor
namespace Go.Proofs.YthfegbcbpeedbaaDoor
open Go.RowKit Go.Nm Go.Ky

set_option maxRecDepth 100000 in
set_option maxHeartbeats 8000000 in
theorem rremain_any (v u : Value) (m : Mx) (l : List Int) (w : World) (hv : MxV w v m) (hs : MSm m) (hu : InSl w w.heap.size u l) (hlen : ∀ r ∈ m.rows, l.length = r.may.length) (hl : l.length ≤ 1000000) :
    Calls Tryd.prog 75 #[v, u] w fun e w' => (∃ r, e = .returned r ∧ InSl w' w'.heap.size r ((remL m.rows l).map (·.nm)) ∧ ∀ g, r.ownBlock = some g → w.heap.size ≤ g) ∧ Below w.heap.size w w' := by
  obtain ⟨A1, c1, A2, c2, W0, rfl, hW0, hb0, hM, hS, hR, hX⟩ := mx_box hv
  have HB0 := Lib.hid hb0
  have HW0 := Lib.hid hW0
  have HX := Lib.hid hX
  have HU := Lib.hid (hR W0 (Below.refl _ _))
  have hu0 := hu.step hb0
  have HT := Lib.hid hu0
  obtain ⟨Au, cu, rfl, _⟩ := hu0.form
  have HLn := Lib.hid hlen
  have HLl := Lib.hid hl
  obtain ⟨k0, k1⟩ := hX W0 (Below.refl _ _)
  generalize m.st.length = ns at *
  obtain ⟨n, hn⟩ : ∃ n, m.rows.length = n := ⟨_, rfl⟩
  have HN := Lib.hid hn
  have hn1 : n ≤ 1000 := by have := hs.2.1; omega
  rw [hn] at HX HW0 HU k1 ⊢
  obtain ⟨nl, hnl⟩ : ∃ n, l.length = n := ⟨_, rfl⟩
  rw [hnl] at HT ⊢
  have HRem := Lib.hid (show remL m.rows l = m.rows.filter (fun r => fitsF r.may l) from rfl)
  obtain ⟨res, hres⟩ : ∃ res, remL m.rows l = res := ⟨_, rfl⟩
  rw [hres] at HRem ⊢
  have HI0 := Lib.hid (OwN.start W0)
  clear hv hs hu hu0 hW0 hb0 hM hS hR hX hn hnl hlen hl hres
  go_enter Tryd.func75, Tryd.ntmps75
  go_wp2_with fail
  rw [HW0.out]
  (try go_wp2_with fail)
  clear k0 k1
  go_loopw [5, 6] (fun ov iv wr => ∃ (i : Nat) (Ao : Option Addr) (no co : Nat), ov = .slice Ao no co ∧ iv = .int .i64 (i : Int) ∧ i ≤ n ∧ OwN W0 ov (((m.rows.take i).filter fun r => fitsF r.may l).map (·.nm)) wr) (fun _ iv _ => n - (intOf iv).toNat)
  case atStart => exact ⟨0, _, _, _, rfl, rfl, by omega, HI0.out⟩
  case round =>
    obtain ⟨i, Ao, no, co, rfl, rfl, hin, hI⟩ := hrel
    have HI := Lib.hid hI
    clear hI
    obtain ⟨k0, k1⟩ := HX.out wr HI.out.bel
    by_cases hlt : i < n
    · obtain ⟨r, ad, Am, cm, hr, rfl, hY⟩ := HU.out.at_ hlt
      have HY := Lib.hid hY
      obtain ⟨d0, d1⟩ := (HY.out wr HI.out.bel).1
      have HMe := Lib.hid (rmeet_any _ _ r.may l wr (HY.out wr HI.out.bel).2 (HT.out.step HI.out.bel) (HLn.out r (List.mem_of_getElem? hr)) (by have := HLn.out r (List.mem_of_getElem? hr); have := HLl.out; omega))
      have HQ := Lib.hid hr
      have HLq := Lib.hid (show (((m.rows.take i).filter fun r => fitsF r.may l).map (·.nm)).length + [r.nm].length ≤ 3000000 from by
        have h1 := List.length_filter_le (fun r : Rw => fitsF r.may l) (m.rows.take i)
        have h2 := List.length_take_le i m.rows
        rw [List.length_map]
        simp only [List.length_cons, List.length_nil]
        omega)
      clear hr hY
      go_wp2_with fail
      (with_reducible refine HMe.out.mono ?_)
      rintro e w3 ⟨rfl, hb⟩
      have HI3 := Lib.hid (HI.out.step hb)
      clear hb HMe d0 d1 k0 k1
      obtain ⟨k0, k1⟩ := HX.out w3 HI3.out.bel
      obtain ⟨d0, d1⟩ := (HY.out w3 HI3.out.bel).1
      cases hf : fitsF r.may l with
      | true =>
        have HP := Lib.hid (show ((m.rows.take (i + 1)).filter (fun r => fitsF r.may l)).map (·.nm) = ((m.rows.take i).filter (fun r => fitsF r.may l)).map (·.nm) ++ [r.nm] from by rw [filter_take HQ.out, if_pos hf, List.map_append]; rfl)
        clear hf
        go_wp2_with (at_builtin; refine wpList_appN rfl _ _ rfl (HI3.out.step (below_new _)) rfl rfl (box_sl (y := r.nm) (World.alloc_heap_new _ _)) HLq.out ?_; intro v6 w6 hI6 _; obtain ⟨A6, n6, c6, e6⟩ := hI6.slice; subst e6; have HI6 := Lib.hid hI6; clear hI6)
        go_roundw
        case rel => exact ⟨i + 1, _, _, _, rfl, by go_num, by omega, by rw [HP.out]; exact HI6.out⟩
        case measure => simp [intOf]; omega
      | false =>
        have HP := Lib.hid (show ((m.rows.take (i + 1)).filter (fun r => fitsF r.may l)).map (·.nm) = ((m.rows.take i).filter (fun r => fitsF r.may l)).map (·.nm) from by rw [filter_take HQ.out, if_neg (by rw [hf]; simp), List.append_nil])
        clear hf
        go_wp2_with fail
        go_roundw
        case rel => exact ⟨i + 1, _, _, _, rfl, by go_num, by omega, by rw [HP.out]; exact HI3.out⟩
        case measure => simp [intOf]; omega
    · obtain rfl : n = i := by omega
      have HI2 := Lib.hid HI.out
      rw [show (m.rows.take n).filter (fun r => fitsF r.may l) = res from by rw [HRem.out, List.take_of_length_le (by have := HN.out; omega)]] at HI2
      go_wp2_with fail
      go_ret
      exact ⟨⟨_, rfl, HI2.out.sl, fun g e => Nat.le_trans HB0.out.size (HI2.out.own.lt g e).1⟩, HB0.out.trans (HI2.out.bel.mono HB0.out.size)⟩
set_option maxRecDepth 100000 in
set_option maxHeartbeats 8000000 in
theorem rRemain_any (v u : Value) (m : Mx) (l : List Int) (w : World) (hv : MxV w v m) (hs : MSm m) (hu : InSl w w.heap.size u l) (hl : l.length ≤ 1000000) :
    Calls Tryd.prog 29 #[v, u] w fun e w' => (∃ r, e = .returned (.tuple #[r, .int .i64 (seenE m [l])]) ∧ InSl w' w'.heap.size r (remO m l) ∧ ∀ g, r.ownBlock = some g → w.heap.size ≤ g) ∧ Below w.heap.size w w' := by
  obtain ⟨A1, c1, A2, c2, W0, rfl, hW0, hb0, hM, hS, hR, hX⟩ := mx_box hv
  have HB0 := Lib.hid hb0
  have HW0 := Lib.hid hW0
  have HX := Lib.hid hX
  have hu0 := hu.step hb0
  obtain ⟨Au, cu, rfl, _⟩ := hu0.form
  have HC := Lib.hid (rseenError_any _ _ m l W0 (hM W0 (Below.refl _ _)) hs hu0 hl)
  obtain ⟨k0, k1⟩ := hX W0 (Below.refl _ _)
  have HRm := Lib.hid (fun (hm : mxF m = true ∧ setsF m.st l = true) Y (h : Below W0.heap.size W0 Y) => rremain_any _ _ m l Y (hM Y h) hs (hu0.step h) (fun r hr => by rw [mx_may hm.1 hr]; exact sets_len hm.2) hl)
  obtain ⟨er, hr⟩ : ∃ r, seenE m [l] = r := ⟨_, rfl⟩
  have HE := Lib.hid (show er = 0 ∨ er = 30 ∨ er = 32 from by rw [← hr]; exact seen_cases m [l])
  have HO := Lib.hid (show remO m l = if er = 0 then (remL m.rows l).map (·.nm) else [] from by unfold remO; rw [hr])
  have HG := Lib.hid (show er = 0 → mxF m = true ∧ setsF m.st l = true from fun h => seen_ok (by rw [hr]; exact h))
  rw [hr] at HC ⊢
  rw [HO.out]
  generalize m.st.length = ns at *
  generalize m.rows.length = nr at *
  generalize l.length = n at *
  clear hv hu hu0 hW0 hb0 hM hS hR hX hl hr hs HO
  go_enter Tryd.func29, Tryd.ntmps29
  go_wp2_with fail
  rw [HW0.out]
  (try go_wp2_with fail)
  (with_reducible refine HC.out.mono ?_)
  rintro e w1 ⟨rfl, hb⟩
  have HB2 := Lib.hid hb
  clear hb k0 k1 HC
  rcases HE.out with rfl | rfl | rfl
  · obtain ⟨k0, k1⟩ := HX.out w1 HB2.out
    have HR1 := Lib.hid (HRm.out (HG.out rfl) w1 HB2.out)
    clear HRm HG HE
    go_wp2_with fail
    (with_reducible refine HR1.out.mono ?_)
    rintro e w2 ⟨⟨vs, rfl, hvs, ho⟩, hb⟩
    have HB3 := Lib.hid (HB2.out.trans (hb.mono HB2.out.size))
    have HR := Lib.hid (And.intro hvs ho)
    clear hvs ho hb k0 k1 HR1
    go_wp2_with fail
    go_ret2
    exact ⟨⟨_, rfl, HR.out.1, fun g e => Nat.le_trans (Nat.le_trans HB0.out.size HB2.out.size) (HR.out.2 g e)⟩, HB0.out.trans (HB3.out.mono HB0.out.size)⟩
  · go_wp2_with fail
    go_ret2
    exact ⟨⟨_, rfl, InSl.nil _ _, fun g e => by cases e⟩, HB0.out.trans (HB2.out.mono HB0.out.size)⟩
  · go_wp2_with fail
    go_ret2
    exact ⟨⟨_, rfl, InSl.nil _ _, fun g e => by cases e⟩, HB0.out.trans (HB2.out.mono HB0.out.size)⟩
end Go.Proofs.YthfegbcbpeedbaaDoor
