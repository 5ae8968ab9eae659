/- The reference: remain, Remain, Fits. -/
import Derived.Test.YthfegbcbpeedbaaDoorKyV
namespace Go.Proofs.YthfegbcbpeedbaaDoor
open Go.RowKit Go.Nm Go.Ky

set_option maxRecDepth 100000 in
set_option maxHeartbeats 8000000 in
theorem rremain_any (v u : Value) (m : Mx) (l : List Int) (w : World) (hv : MxV w v m) (hs : MSm m) (hu : InSl w w.heap.size u l) (hlen : ∀ r ∈ m.rows, l.length = r.may.length) (hl : l.length ≤ 1000000) :
    Calls Tryd.prog 75 #[v, u] w fun e w' => (∃ r, e = .returned r ∧ InSl w' w'.heap.size r ((remL m.rows l).map (·.nm)) ∧ ∀ g, r.ownBlock = some g → w.heap.size ≤ g) ∧ Below w.heap.size w w' := by
  obtain ⟨A1, c1, A2, c2, W0, rfl, hW0, hb0, hM, hS, hR, hX⟩ := mx_box hv
  have HB0 := Lib.hid hb0
  have HW0 := Lib.hid hW0
  have HX := Lib.hid hX
  have HU := Lib.hid (hR W0 (Below.refl _ _))
  have hu0 := hu.step hb0
  have HT := Lib.hid hu0
  obtain ⟨Au, cu, rfl, _⟩ := hu0.form
  have HLn := Lib.hid hlen
  have HLl := Lib.hid hl
  obtain ⟨k0, k1⟩ := hX W0 (Below.refl _ _)
  generalize m.st.length = ns at *
  obtain ⟨n, hn⟩ : ∃ n, m.rows.length = n := ⟨_, rfl⟩
  have HN := Lib.hid hn
  have hn1 : n ≤ 1000 := by have := hs.2.1; omega
  rw [hn] at HX HW0 HU k1 ⊢
  obtain ⟨nl, hnl⟩ : ∃ n, l.length = n := ⟨_, rfl⟩
  rw [hnl] at HT ⊢
  have HRem := Lib.hid (show remL m.rows l = m.rows.filter (fun r => fitsF r.may l) from rfl)
  obtain ⟨res, hres⟩ : ∃ res, remL m.rows l = res := ⟨_, rfl⟩
  rw [hres] at HRem ⊢
  have HI0 := Lib.hid (OwN.start W0)
  clear hv hs hu hu0 hW0 hb0 hM hS hR hX hn hnl hlen hl hres
  go_enter Tryd.func75, Tryd.ntmps75
  go_wp2_with fail
  rw [HW0.out]
  (try go_wp2_with fail)
  clear k0 k1
  go_loopw [5, 6] (fun ov iv wr => ∃ (i : Nat) (Ao : Option Addr) (no co : Nat), ov = .slice Ao no co ∧ iv = .int .i64 (i : Int) ∧ i ≤ n ∧ OwN W0 ov (((m.rows.take i).filter fun r => fitsF r.may l).map (·.nm)) wr) (fun _ iv _ => n - (intOf iv).toNat)
  case atStart => exact ⟨0, _, _, _, rfl, rfl, by omega, HI0.out⟩
  case round =>
    obtain ⟨i, Ao, no, co, rfl, rfl, hin, hI⟩ := hrel
    have HI := Lib.hid hI
    clear hI
    obtain ⟨k0, k1⟩ := HX.out wr HI.out.bel
    by_cases hlt : i < n
    · obtain ⟨r, ad, Am, cm, hr, rfl, hY⟩ := HU.out.at_ hlt
      have HY := Lib.hid hY
      obtain ⟨d0, d1⟩ := (HY.out wr HI.out.bel).1
      have HMe := Lib.hid (rmeet_any _ _ r.may l wr (HY.out wr HI.out.bel).2 (HT.out.step HI.out.bel) (HLn.out r (List.mem_of_getElem? hr)) (by have := HLn.out r (List.mem_of_getElem? hr); have := HLl.out; omega))
      have HQ := Lib.hid hr
      have HLq := Lib.hid (show (((m.rows.take i).filter fun r => fitsF r.may l).map (·.nm)).length + [r.nm].length ≤ 3000000 from by
        have h1 := List.length_filter_le (fun r : Rw => fitsF r.may l) (m.rows.take i)
        have h2 := List.length_take_le i m.rows
        rw [List.length_map]
        simp only [List.length_cons, List.length_nil]
        omega)
      clear hr hY
      go_wp2_with fail
      (with_reducible refine HMe.out.mono ?_)
      rintro e w3 ⟨rfl, hb⟩
      have HI3 := Lib.hid (HI.out.step hb)
      clear hb HMe d0 d1 k0 k1
      obtain ⟨k0, k1⟩ := HX.out w3 HI3.out.bel
      obtain ⟨d0, d1⟩ := (HY.out w3 HI3.out.bel).1
      cases hf : fitsF r.may l with
      | true =>
        have HP := Lib.hid (show ((m.rows.take (i + 1)).filter (fun r => fitsF r.may l)).map (·.nm) = ((m.rows.take i).filter (fun r => fitsF r.may l)).map (·.nm) ++ [r.nm] from by rw [filter_take HQ.out, if_pos hf, List.map_append]; rfl)
        clear hf
        go_wp2_with (at_builtin; refine wpList_appN rfl _ _ rfl (HI3.out.step (below_new _)) rfl rfl (box_sl (y := r.nm) (World.alloc_heap_new _ _)) HLq.out ?_; intro v6 w6 hI6 _; obtain ⟨A6, n6, c6, e6⟩ := hI6.slice; subst e6; have HI6 := Lib.hid hI6; clear hI6)
        go_roundw
        case rel => exact ⟨i + 1, _, _, _, rfl, by go_num, by omega, by rw [HP.out]; exact HI6.out⟩
        case measure => simp [intOf]; omega
      | false =>
        have HP := Lib.hid (show ((m.rows.take (i + 1)).filter (fun r => fitsF r.may l)).map (·.nm) = ((m.rows.take i).filter (fun r => fitsF r.may l)).map (·.nm) from by rw [filter_take HQ.out, if_neg (by rw [hf]; simp), List.append_nil])
        clear hf
        go_wp2_with fail
        go_roundw
        case rel => exact ⟨i + 1, _, _, _, rfl, by go_num, by omega, by rw [HP.out]; exact HI3.out⟩
        case measure => simp [intOf]; omega
    · obtain rfl : n = i := by omega
      have HI2 := Lib.hid HI.out
      rw [show (m.rows.take n).filter (fun r => fitsF r.may l) = res from by rw [HRem.out, List.take_of_length_le (by have := HN.out; omega)]] at HI2
      go_wp2_with fail
      go_ret
      exact ⟨⟨_, rfl, HI2.out.sl, fun g e => Nat.le_trans HB0.out.size (HI2.out.own.lt g e).1⟩, HB0.out.trans (HI2.out.bel.mono HB0.out.size)⟩
set_option maxRecDepth 100000 in
set_option maxHeartbeats 8000000 in
theorem rRemain_any (v u : Value) (m : Mx) (l : List Int) (w : World) (hv : MxV w v m) (hs : MSm m) (hu : InSl w w.heap.size u l) (hl : l.length ≤ 1000000) :
    Calls Tryd.prog 29 #[v, u] w fun e w' => (∃ r, e = .returned (.tuple #[r, .int .i64 (seenE m [l])]) ∧ InSl w' w'.heap.size r (remO m l) ∧ ∀ g, r.ownBlock = some g → w.heap.size ≤ g) ∧ Below w.heap.size w w' := by
  obtain ⟨A1, c1, A2, c2, W0, rfl, hW0, hb0, hM, hS, hR, hX⟩ := mx_box hv
  have HB0 := Lib.hid hb0
  have HW0 := Lib.hid hW0
  have HX := Lib.hid hX
  have hu0 := hu.step hb0
  obtain ⟨Au, cu, rfl, _⟩ := hu0.form
  have HC := Lib.hid (rseenError_any _ _ m l W0 (hM W0 (Below.refl _ _)) hs hu0 hl)
  obtain ⟨k0, k1⟩ := hX W0 (Below.refl _ _)
  have HRm := Lib.hid (fun (hm : mxF m = true ∧ setsF m.st l = true) Y (h : Below W0.heap.size W0 Y) => rremain_any _ _ m l Y (hM Y h) hs (hu0.step h) (fun r hr => by rw [mx_may hm.1 hr]; exact sets_len hm.2) hl)
  obtain ⟨er, hr⟩ : ∃ r, seenE m [l] = r := ⟨_, rfl⟩
  have HE := Lib.hid (show er = 0 ∨ er = 30 ∨ er = 32 from by rw [← hr]; exact seen_cases m [l])
  have HO := Lib.hid (show remO m l = if er = 0 then (remL m.rows l).map (·.nm) else [] from by unfold remO; rw [hr])
  have HG := Lib.hid (show er = 0 → mxF m = true ∧ setsF m.st l = true from fun h => seen_ok (by rw [hr]; exact h))
  rw [hr] at HC ⊢
  rw [HO.out]
  generalize m.st.length = ns at *
  generalize m.rows.length = nr at *
  generalize l.length = n at *
  clear hv hu hu0 hW0 hb0 hM hS hR hX hl hr hs HO
  go_enter Tryd.func29, Tryd.ntmps29
  go_wp2_with fail
  rw [HW0.out]
  (try go_wp2_with fail)
  (with_reducible refine HC.out.mono ?_)
  rintro e w1 ⟨rfl, hb⟩
  have HB2 := Lib.hid hb
  clear hb k0 k1 HC
  rcases HE.out with rfl | rfl | rfl
  · obtain ⟨k0, k1⟩ := HX.out w1 HB2.out
    have HR1 := Lib.hid (HRm.out (HG.out rfl) w1 HB2.out)
    clear HRm HG HE
    go_wp2_with fail
    (with_reducible refine HR1.out.mono ?_)
    rintro e w2 ⟨⟨vs, rfl, hvs, ho⟩, hb⟩
    have HB3 := Lib.hid (HB2.out.trans (hb.mono HB2.out.size))
    have HR := Lib.hid (And.intro hvs ho)
    clear hvs ho hb k0 k1 HR1
    go_wp2_with fail
    go_ret2
    exact ⟨⟨_, rfl, HR.out.1, fun g e => Nat.le_trans (Nat.le_trans HB0.out.size HB2.out.size) (HR.out.2 g e)⟩, HB0.out.trans (HB3.out.mono HB0.out.size)⟩
  · go_wp2_with fail
    go_ret2
    exact ⟨⟨_, rfl, InSl.nil _ _, fun g e => by cases e⟩, HB0.out.trans (HB2.out.mono HB0.out.size)⟩
  · go_wp2_with fail
    go_ret2
    exact ⟨⟨_, rfl, InSl.nil _ _, fun g e => by cases e⟩, HB0.out.trans (HB2.out.mono HB0.out.size)⟩
end Go.Proofs.YthfegbcbpeedbaaDoor
