/- The reference: Relate, Exact. -/
import Derived.Test.YtplpogonkfnafaaNmMr
namespace Go.Proofs.Ytplpogonkfnafaa
open Go.RowKit Go.Nm

theorem relOut_r (b : Bk) (n x m y : Int) : relOut b n x m y = if openE b [n, m] = 0 then (if x ∈ rverF b n.toNat then (if y ∈ rverF b m.toNat then (if rich b then (0, 2) else (relE b.chs n.toNat x m.toNat y, 0)) else (0, 22)) else (0, 22)) else (0, openE b [n, m]) := by
  unfold relOut
  rw [named_open]
  by_cases h : openE b [n, m] = 0
  · rw [if_pos h, if_pos h]
    obtain ⟨hv, hV⟩ := openE_val h
    have hm := hV m (by simp)
    rw [val_len hv] at hm
    have e : (vers b).getD m.toNat [] = rverF b m.toNat := by
      rw [List.getD_eq_getElem?_getD, rver_is hv (by omega)]; rfl
    rw [e]
    by_cases h2 : x ∈ rverF b n.toNat
    · rw [if_pos h2, if_pos rfl, if_pos h2]
    · rw [if_neg h2, if_neg (by decide), if_neg h2]
  · rw [if_neg h, if_neg h, if_neg h]
theorem fate_long {b : Bk} {m : Nat} (hm : m ≤ b.chs.length) {f : List Int} (hf : f ∈ allF b) : ∃ z, f[m]? = some z := by
  have := (mem_all.1 hf).1
  exact ⟨_, List.getElem?_eq_getElem (by omega)⟩
set_option maxRecDepth 100000 in
set_option maxHeartbeats 16000000 in
theorem rRelate_any (v vc : Value) (b : Bk) (n x m y : Int) (w : World) (hv : BkV w v b vc) (hs : Sm b) :
    Calls Try.prog 41 #[v, .int .i64 n, .int .i64 x, .int .i64 m, .int .i64 y] w (OutI (relOut b n x m y).1 (relOut b n x m y).2 w) := by
  obtain ⟨A1, c1, A2, c2, W0, rfl, rfl, hW0, hb0, hB0, hx⟩ := bk_box hv
  have HB0 := Lib.hid hb0
  have HBk := Lib.hid hB0
  have HX := Lib.hid hx
  have HW0 := Lib.hid hW0
  have HS := Lib.hid hs
  clear hb0 hB0 hx hW0 hs hv
  obtain ⟨k0, k1⟩ := HX.out W0 (Below.refl _ _)
  have HV := Lib.hid (rversions_any _ _ b n m W0 HBk.out HS.out)
  have hE := relOut_r b n x m y
  have hZ := openE_val (b := b) (V := [n, m])
  generalize relOut b n x m y = o at *
  obtain ⟨oR, oE⟩ := o
  dsimp only
  generalize openE b [n, m] = er at *
  by_cases he : er = 0
  · subst he
    obtain ⟨hval, hV⟩ := hZ rfl
    have hn := hV n (by simp)
    have hm := hV m (by simp)
    rw [val_len hval] at hn hm
    obtain ⟨k, rfl⟩ : ∃ k : Nat, n = (k : Int) := ⟨n.toNat, by omega⟩
    obtain ⟨j, rfl⟩ : ∃ j : Nat, m = (j : Int) := ⟨m.toNat, by omega⟩
    have hk : k ≤ b.chs.length := by omega
    have hj : j ≤ b.chs.length := by omega
    rw [if_pos rfl, Int.toNat_natCast, Int.toNat_natCast] at hE
    have HVe := Lib.hid (fun Y (h : Below W0.heap.size W0 Y) => rVersion_any _ _ b k Y (HBk.out.step h) HS.out hval.1 hk)
    have HLe := Lib.hid (rver_len HS.out k hk)
    have HVm := Lib.hid (fun Y (h : Below W0.heap.size W0 Y) => rVersion_any _ _ b j Y (HBk.out.step h) HS.out hval.1 hj)
    have HLm := Lib.hid (rver_len HS.out j hj)
    have hk64 : k ≤ 64 := by have := hval.1; omega
    have hj64 : j ≤ 64 := by have := hval.1; omega
    have HF := Lib.hid (fun Y (h : Below W0.heap.size W0 Y) => rfates_any _ _ b Y (HBk.out.step h) HS.out hval)
    have HT := Lib.hid (fun u Y (h : VsSl Y Y.heap.size u (allF b)) (hr : rich b = false) => rthrough_any u (allF b) k x Y h (all_long hk) (fates_few hval hr))
    have HT2 := Lib.hid (fun u Y (h : VsSl Y Y.heap.size u (allF b)) (hr : rich b = false) => rthrough_any u (allF b) j y Y h (all_long hj) (fates_few hval hr))
    have HD := Lib.hid (fun (hx : x ∈ rverF b k) (hy : y ∈ rverF b j) => rel_thr hval (rver_is hval hk) (rver_is hval hj) hx hy hk hj)
    have HFw := Lib.hid (fun hr => fates_few hval hr)
    clear hV hn hm hZ HBk hval hk hj
    by_cases hx : x ∈ rverF b k
    · rw [if_pos hx] at hE
      by_cases hy : y ∈ rverF b j
      · rw [if_pos hy] at hE
        have HDe := Lib.hid (HD.out hx hy)
        have hxd : decide (x ∈ rverF b k) = true := decide_eq_true hx
        have hyd : decide (y ∈ rverF b j) = true := decide_eq_true hy
        clear hx hy HD
        cases hr : rich b with
        | true =>
          rw [hr, if_pos rfl] at hE
          simp only [hr] at HF
          simp only [Bool.not_true, if_true] at HF
          injection hE with h1 h2
          subst h1 h2
          clear HT HT2 hr
          go_enter Try.func41, Try.ntmps41
          go_wp2_with fail
          rw [HW0.out]
          (with_reducible refine (HV.out).mono ?_)
          rintro e w1 ⟨rfl, hb⟩
          have HB1 := Lib.hid (hb)
          clear hb
          clear k0 k1
          obtain ⟨k0, k1⟩ := HX.out w1 HB1.out
          go_wp2_with fail
          (with_reducible refine (HVe.out w1 HB1.out).mono ?_)
          rintro e w2 ⟨⟨r, rfl, hr⟩, hb⟩
          have HHa := Lib.hid (rhas_any r (rverF b k) x w2 hr (by have := HLe.out; omega))
          rw [hxd] at HHa
          have HB2 := Lib.hid (HB1.out.trans (hb.mono HB1.out.size))
          obtain ⟨Ar, cr, rfl, _⟩ := hr.form
          clear hr hb k0 k1
          go_wp2_with fail
          (with_reducible refine HHa.out.mono ?_)
          rintro e w3 ⟨rfl, hb⟩
          have HB3 := Lib.hid (HB2.out.trans (hb.mono HB2.out.size))
          obtain ⟨k0, k1⟩ := HX.out w3 HB3.out
          clear hb HHa
          go_wp2_with fail
          (with_reducible refine (HVm.out w3 HB3.out).mono ?_)
          rintro e w4 ⟨⟨r, rfl, hr⟩, hb⟩
          have HHb := Lib.hid (rhas_any r (rverF b j) y w4 hr (by have := HLm.out; omega))
          rw [hyd] at HHb
          have HB4 := Lib.hid (HB3.out.trans (hb.mono HB3.out.size))
          obtain ⟨As, cs, rfl, _⟩ := hr.form
          clear hr hb k0 k1
          go_wp2_with fail
          (with_reducible refine HHb.out.mono ?_)
          rintro e w5 ⟨rfl, hb⟩
          have HB5 := Lib.hid (HB4.out.trans (hb.mono HB4.out.size))
          obtain ⟨k0, k1⟩ := HX.out w5 HB5.out
          clear hb HHb
          go_wp2_with fail
          (with_reducible refine (HF.out w5 HB5.out).mono ?_)
          rintro e w6 ⟨⟨u, rfl, hu⟩, hb⟩
          have HB6 := Lib.hid (HB5.out.trans (hb.mono HB5.out.size))
          clear hu hb
          go_wp2_with fail
          go_ret2
          exact ⟨rfl, HB0.out.trans (HB6.out.mono HB0.out.size)⟩
        | false =>
          rw [hr, if_neg (by decide)] at hE
          simp only [hr] at HF
          simp only [Bool.not_false, Bool.false_eq_true, if_false] at HF
          have HT := Lib.hid (fun u Y h => HT.out u Y h hr)
          have HT2 := Lib.hid (fun u Y h => HT2.out u Y h hr)
          have HFl := Lib.hid (HFw.out hr)
          injection hE with h1 h2
          have HE1 := Lib.hid (h1.trans HDe.out.symm)
          subst h2
          clear h1 hr HDe HFw
          go_enter Try.func41, Try.ntmps41
          go_wp2_with fail
          rw [HW0.out]
          (with_reducible refine (HV.out).mono ?_)
          rintro e w1 ⟨rfl, hb⟩
          have HB1 := Lib.hid (hb)
          clear hb
          clear k0 k1
          obtain ⟨k0, k1⟩ := HX.out w1 HB1.out
          go_wp2_with fail
          (with_reducible refine (HVe.out w1 HB1.out).mono ?_)
          rintro e w2 ⟨⟨r, rfl, hr⟩, hb⟩
          have HHa := Lib.hid (rhas_any r (rverF b k) x w2 hr (by have := HLe.out; omega))
          rw [hxd] at HHa
          have HB2 := Lib.hid (HB1.out.trans (hb.mono HB1.out.size))
          obtain ⟨Ar, cr, rfl, _⟩ := hr.form
          clear hr hb k0 k1
          go_wp2_with fail
          (with_reducible refine HHa.out.mono ?_)
          rintro e w3 ⟨rfl, hb⟩
          have HB3 := Lib.hid (HB2.out.trans (hb.mono HB2.out.size))
          obtain ⟨k0, k1⟩ := HX.out w3 HB3.out
          clear hb HHa
          go_wp2_with fail
          (with_reducible refine (HVm.out w3 HB3.out).mono ?_)
          rintro e w4 ⟨⟨r, rfl, hr⟩, hb⟩
          have HHb := Lib.hid (rhas_any r (rverF b j) y w4 hr (by have := HLm.out; omega))
          rw [hyd] at HHb
          have HB4 := Lib.hid (HB3.out.trans (hb.mono HB3.out.size))
          obtain ⟨As, cs, rfl, _⟩ := hr.form
          clear hr hb k0 k1
          go_wp2_with fail
          (with_reducible refine HHb.out.mono ?_)
          rintro e w5 ⟨rfl, hb⟩
          have HB5 := Lib.hid (HB4.out.trans (hb.mono HB4.out.size))
          obtain ⟨k0, k1⟩ := HX.out w5 HB5.out
          clear hb HHb
          go_wp2_with fail
          (with_reducible refine (HF.out w5 HB5.out).mono ?_)
          rintro e w6 ⟨⟨u, rfl, hu⟩, hb⟩
          have HB6 := Lib.hid (HB5.out.trans (hb.mono HB5.out.size))
          have HTu := Lib.hid (HT.out u w6 hu)
          have HU := Lib.hid (fun Y (h : Below w6.heap.size w6 Y) => HT2.out u Y ((hu.below h).mono h.size))
          clear hu hb k0 k1
          go_wp2_with fail
          (with_reducible refine HTu.out.mono ?_)
          rintro e w7 ⟨⟨r1, rfl, h1⟩, hb⟩
          have HB7 := Lib.hid (HB6.out.trans (hb.mono HB6.out.size))
          have HR1 := Lib.hid h1
          have HUu := Lib.hid (HU.out w7 hb)
          clear h1 hb
          go_wp2_with fail
          (with_reducible refine HUu.out.mono ?_)
          rintro e w8 ⟨⟨r2, rfl, h1⟩, hb⟩
          have HB8 := Lib.hid (HB7.out.trans (hb.mono HB7.out.size))
          have HRel := Lib.hid (rrelation_any r1 r2 _ _ w8 (HR1.out.step hb) h1 (Nat.le_trans (thr_len _ _ _) (Nat.le_trans HFl.out (by omega))) (Nat.le_trans (thr_len _ _ _) (Nat.le_trans HFl.out (by omega))))
          rw [← HE1.out] at HRel
          clear h1 hb
          go_wp2_with fail
          (with_reducible refine HRel.out.mono ?_)
          rintro e w9 ⟨rfl, hb⟩
          have HB9 := Lib.hid (HB8.out.trans (hb.mono HB8.out.size))
          clear hb
          go_wp2_with fail
          go_ret2
          exact ⟨rfl, HB0.out.trans (HB9.out.mono HB0.out.size)⟩
      · rw [if_neg hy] at hE
        have hxd : decide (x ∈ rverF b k) = true := decide_eq_true hx
        have hyd : decide (y ∈ rverF b j) = false := decide_eq_false hy
        injection hE with h1 h2
        subst h1 h2
        clear hx hy HD HT HT2 HF
        go_enter Try.func41, Try.ntmps41
        go_wp2_with fail
        rw [HW0.out]
        (with_reducible refine (HV.out).mono ?_)
        rintro e w1 ⟨rfl, hb⟩
        have HB1 := Lib.hid (hb)
        clear hb
        clear k0 k1
        obtain ⟨k0, k1⟩ := HX.out w1 HB1.out
        go_wp2_with fail
        (with_reducible refine (HVe.out w1 HB1.out).mono ?_)
        rintro e w2 ⟨⟨r, rfl, hr⟩, hb⟩
        have HHa := Lib.hid (rhas_any r (rverF b k) x w2 hr (by have := HLe.out; omega))
        rw [hxd] at HHa
        have HB2 := Lib.hid (HB1.out.trans (hb.mono HB1.out.size))
        obtain ⟨Ar, cr, rfl, _⟩ := hr.form
        clear hr hb k0 k1
        go_wp2_with fail
        (with_reducible refine HHa.out.mono ?_)
        rintro e w3 ⟨rfl, hb⟩
        have HB3 := Lib.hid (HB2.out.trans (hb.mono HB2.out.size))
        obtain ⟨k0, k1⟩ := HX.out w3 HB3.out
        clear hb HHa
        go_wp2_with fail
        (with_reducible refine (HVm.out w3 HB3.out).mono ?_)
        rintro e w4 ⟨⟨r, rfl, hr⟩, hb⟩
        have HHb := Lib.hid (rhas_any r (rverF b j) y w4 hr (by have := HLm.out; omega))
        rw [hyd] at HHb
        have HB4 := Lib.hid (HB3.out.trans (hb.mono HB3.out.size))
        obtain ⟨As, cs, rfl, _⟩ := hr.form
        clear hr hb k0 k1
        go_wp2_with fail
        (with_reducible refine HHb.out.mono ?_)
        rintro e w5 ⟨rfl, hb⟩
        have HB5 := Lib.hid (HB4.out.trans (hb.mono HB4.out.size))
        obtain ⟨k0, k1⟩ := HX.out w5 HB5.out
        clear hb HHb
        go_wp2_with fail
        go_ret2
        exact ⟨rfl, HB0.out.trans (HB5.out.mono HB0.out.size)⟩
    · rw [if_neg hx] at hE
      have hxd : decide (x ∈ rverF b k) = false := decide_eq_false hx
      injection hE with h1 h2
      subst h1 h2
      clear hx HD HT HT2 HF
      go_enter Try.func41, Try.ntmps41
      go_wp2_with fail
      rw [HW0.out]
      (with_reducible refine (HV.out).mono ?_)
      rintro e w1 ⟨rfl, hb⟩
      have HB1 := Lib.hid (hb)
      clear hb
      clear k0 k1
      obtain ⟨k0, k1⟩ := HX.out w1 HB1.out
      go_wp2_with fail
      (with_reducible refine (HVe.out w1 HB1.out).mono ?_)
      rintro e w2 ⟨⟨r, rfl, hr⟩, hb⟩
      have HHa := Lib.hid (rhas_any r (rverF b k) x w2 hr (by have := HLe.out; omega))
      rw [hxd] at HHa
      have HB2 := Lib.hid (HB1.out.trans (hb.mono HB1.out.size))
      obtain ⟨Ar, cr, rfl, _⟩ := hr.form
      clear hr hb k0 k1
      go_wp2_with fail
      (with_reducible refine HHa.out.mono ?_)
      rintro e w3 ⟨rfl, hb⟩
      have HB3 := Lib.hid (HB2.out.trans (hb.mono HB2.out.size))
      obtain ⟨k0, k1⟩ := HX.out w3 HB3.out
      clear hb HHa
      go_wp2_with fail
      go_ret2
      exact ⟨rfl, HB0.out.trans (HB3.out.mono HB0.out.size)⟩
  · rw [if_neg he] at hE
    injection hE with h1 h2
    subst h1 h2
    have hb2 : (oE == 0) = false := by simpa using he
    have hb3 : (oE != 0) = true := by simpa using he
    clear hZ HBk
    go_enter Try.func41, Try.ntmps41
    go_wp2_with fail
    rw [HW0.out]
    (with_reducible refine (HV.out).mono ?_)
    rintro e w1 ⟨rfl, hb⟩
    have HB1 := Lib.hid (hb)
    clear hb
    go_wp2_with fail
    go_ret2
    exact ⟨rfl, HB0.out.trans (HB1.out.mono HB0.out.size)⟩
set_option maxRecDepth 100000 in
set_option maxHeartbeats 16000000 in
theorem rExact_any (v vc : Value) (b : Bk) (n x m : Int) (w : World) (hv : BkV w v b vc) (hs : Sm b) :
    Calls Try.prog 43 #[v, .int .i64 n, .int .i64 x, .int .i64 m] w (OutI (exOut b n x m).1 (exOut b n x m).2 w) := by
  obtain ⟨A1, c1, A2, c2, W0, rfl, rfl, hW0, hb0, hB0, hx⟩ := bk_box hv
  have HB0 := Lib.hid hb0
  have HBk := Lib.hid hB0
  have HX := Lib.hid hx
  have HW0 := Lib.hid hW0
  have HS := Lib.hid hs
  clear hb0 hB0 hx hW0 hs hv
  obtain ⟨k0, k1⟩ := HX.out W0 (Below.refl _ _)
  have HV := Lib.hid (rnamed_any _ _ b n x m W0 HBk.out HS.out)
  have hE : exOut b n x m = if openAtE b [m] n x = 0 then (if rich b then (0, 2) else exS b.chs n.toNat x m.toNat) else (0, openAtE b [m] n x) := rfl
  have hZ := openAtE_zero (b := b) (V := [m]) (n := n) (x := x)
  generalize exOut b n x m = o at *
  obtain ⟨oR, oE⟩ := o
  dsimp only
  generalize openAtE b [m] n x = er at *
  by_cases he : er = 0
  · subst he
    obtain ⟨hval, hV, hxm⟩ := hZ rfl
    have hn := hV n (by simp)
    have hm := hV m (by simp)
    obtain ⟨k, rfl⟩ : ∃ k : Nat, n = (k : Int) := ⟨n.toNat, by omega⟩
    obtain ⟨j, rfl⟩ : ∃ j : Nat, m = (j : Int) := ⟨m.toNat, by omega⟩
    have hk : k ≤ b.chs.length := by omega
    have hj : j ≤ b.chs.length := by omega
    rw [if_pos rfl, Int.toNat_natCast, Int.toNat_natCast] at hE
    rw [Int.toNat_natCast] at hxm
    obtain ⟨A, hA, hxA⟩ := getD_mem hxm
    have HF := Lib.hid (fun Y (h : Below W0.heap.size W0 Y) => rfates_any _ _ b Y (HBk.out.step h) HS.out hval)
    cases hr : rich b with
    | true =>
      rw [hr, if_pos rfl] at hE
      simp only [hr] at HF
      simp only [Bool.not_true, if_true] at HF
      injection hE with h1 h2
      subst h1 h2
      clear hr hV hn hm hZ HBk HS hval hk hj hxm hA hxA
      go_enter Try.func43, Try.ntmps43
      go_wp2_with fail
      rw [HW0.out]
      (with_reducible refine (HV.out).mono ?_)
      rintro e w1 ⟨rfl, hb⟩
      have HB1 := Lib.hid (hb)
      clear hb
      clear k0 k1
      obtain ⟨k0, k1⟩ := HX.out w1 HB1.out
      go_wp2_with fail
      (with_reducible refine (HF.out w1 HB1.out).mono ?_)
      rintro e w2 ⟨⟨u, rfl, hu⟩, hb⟩
      have HB2 := Lib.hid (HB1.out.trans (hb.mono HB1.out.size))
      clear hu hb
      go_wp2_with fail
      go_ret2
      exact ⟨rfl, HB0.out.trans (HB2.out.mono HB0.out.size)⟩
    | false =>
      rw [hr, if_neg (by decide)] at hE
      simp only [hr] at HF
      simp only [Bool.not_false, Bool.false_eq_true, if_false] at HF
      have HFl := Lib.hid (show (allF b).length ≤ 100000 from fates_few hval hr)
      have HT := Lib.hid (fun u z i Y (hi : i ≤ b.chs.length) (h : VsSl Y Y.heap.size u (allF b)) => rthrough_any u (allF b) i z Y h (all_long hi) HFl.out)
      obtain ⟨z0, hz0⟩ := mns_some hval hA hxA hk hj
      obtain ⟨s0, hs0, hs1, _⟩ := (mns_fates hval hA hxA hk hj).1 hz0
      have hne : thr k x (allF b) ≠ [] := fun e => by
        obtain ⟨i, hi, e2⟩ := List.getElem_of_mem hs0
        have : (i : Int) ∈ thr k x (allF b) := mem_thr.2 ⟨i, rfl, s0, by rw [← e2]; exact List.getElem?_eq_getElem hi, hs1⟩
        rw [e] at this
        cases this
      obtain ⟨t0, ts, hth⟩ : ∃ t0 ts, thr k x (allF b) = t0 :: ts := by
        cases h : thr k x (allF b) with
        | nil => exact absurd h hne
        | cons a l => exact ⟨a, l, rfl⟩
      obtain ⟨i, rfl, f, hf, hfx⟩ := mem_thr.1 (show t0 ∈ thr k x (allF b) from by rw [hth]; exact List.mem_cons_self)
      obtain ⟨y, hy⟩ := fate_long hj (List.mem_of_getElem? hf)
      have hym := (mns_fates hval hA hxA hk hj).2 ⟨f, List.mem_of_getElem? hf, hfx, hy⟩
      rw [exS_first hym] at hE
      obtain ⟨C, hC, _, hCs⟩ := mns_ok hval hA (l := [x]) (by simp [Inc]) (by simp; exact hxA) hk hj
      rw [← rel_thr hval hA hC hxA (hCs y hym) hk hj] at hE
      have HE := Lib.hid hE
      have HTh := Lib.hid hth
      have HI := Lib.hid (show thr k x (allF b) = (i : Int) :: ts from hth)
      have HFf := Lib.hid (And.intro hf hy)
      have HFn := Lib.hid (fun g (hg : g ∈ allF b) => (mem_all.1 hg).1)
      have hk2 := hk
      have hj2 := hj
      obtain ⟨len, hlen⟩ : ∃ len, b.chs.length = len := ⟨_, rfl⟩
      rw [hlen] at HT HFn hk2 hj2
      have hi1 : i < (allF b).length := (List.getElem?_eq_some_iff.1 hf).1
      obtain ⟨nF, hnF⟩ : ∃ nF, (allF b).length = nF := ⟨_, rfl⟩
      have HnF := Lib.hid hnF
      rw [hnF] at hi1
      clear hr hV hn hm hZ HBk HS hval hk hj hxm hA hxA hz0 hs0 hs1 hne hth hf hfx hy hym hC hCs hE hlen hnF
      go_enter Try.func43, Try.ntmps43
      go_wp2_with fail
      rw [HW0.out]
      (with_reducible refine (HV.out).mono ?_)
      rintro e w1 ⟨rfl, hb⟩
      have HB1 := Lib.hid (hb)
      clear hb
      clear k0 k1
      obtain ⟨k0, k1⟩ := HX.out w1 HB1.out
      go_wp2_with fail
      (with_reducible refine (HF.out w1 HB1.out).mono ?_)
      rintro e w2 ⟨⟨u, rfl, hu⟩, hb⟩
      have HB2 := Lib.hid (HB1.out.trans (hb.mono HB1.out.size))
      have HTu := Lib.hid (HT.out u x k w2 hk2 hu)
      have HU := Lib.hid hu
      obtain ⟨Al, cl, rfl⟩ := hu.form
      rw [HnF.out] at HU HTu ⊢
      clear hu hb k0 k1
      go_wp2_with fail
      (with_reducible refine HTu.out.mono ?_)
      rintro e w3 ⟨⟨r1, rfl, h1⟩, hb⟩
      have HB3 := Lib.hid (HB2.out.trans (hb.mono HB2.out.size))
      have HR1 := Lib.hid h1
      have HUw := Lib.hid ((HU.out.below hb).mono hb.size)
      obtain ⟨Ar, cr, rfl, _⟩ := h1.form
      have hin : InA w3 w3.heap.size Ar (thr k x (allF b)) := by obtain ⟨_, _, e, _, _, h⟩ := h1; cases e; exact h
      have hin2 : InA w3 w3.heap.size Ar ((i : Int) :: ts) := by rw [← HI.out]; exact hin
      obtain ⟨adr, rfl, hbr, hcr⟩ := hin2.first
      obtain ⟨ad2, u2, f2, rfl, hbf, hf2, hcf, hsf⟩ := HUw.out.at_ hi1
      obtain rfl : f = f2 := by have := HFf.out.1; rw [hf2] at this; injection this with this; exact this.symm
      have hfl := HFn.out f (List.mem_of_getElem? hf2)
      obtain ⟨Af, cf, rfl, _⟩ := hsf.form
      have hia : InA w3 w3.heap.size Af f := by obtain ⟨_, _, e, _, _, h⟩ := hsf; cases e; exact h
      obtain ⟨adf, rfl, _, hcy⟩ := hia j y HFf.out.2
      rw [hfl] at hcf
      obtain ⟨nr, hnr⟩ : ∃ nr, (thr k x (allF b)).length = nr := ⟨_, rfl⟩
      have hnr0 : 0 < nr := by rw [← hnr, HI.out]; simp
      have hnr1 : (0 : Int) < (nr : Int) := by omega
      have HnR := Lib.hid hnr
      have hjl : (j : Int) < (len : Int) + 1 := by omega
      have hjn : j < len + 1 := by omega
      have hil : (i : Int) < (nF : Int) := by omega
      have HT2 := Lib.hid (fun Y (h : Below w3.heap.size w3 Y) => HT.out (.slice (some ad2) nF cl) y j Y hj2 ((HUw.out.below h).mono h.size))
      rw [hnr]
      rw [hnr] at HR1
      clear h1 hb hin hin2 hbr hbf hf2 hsf hfl hia hnr
      go_wp2_with fail
      (with_reducible refine (HT2.out w3 (Below.refl _ _)).mono ?_)
      rintro e w4 ⟨⟨r2, rfl, h1⟩, hb⟩
      have HB4 := Lib.hid (HB3.out.trans (hb.mono HB3.out.size))
      have HRel := Lib.hid (rrelation_any _ r2 _ _ w4 (HR1.out.step hb) h1 (Nat.le_trans (thr_len _ _ _) (Nat.le_trans HFl.out (by omega))) (Nat.le_trans (thr_len _ _ _) (Nat.le_trans HFl.out (by omega))))
      clear h1 hb hcr hcf hcy
      go_wp2_with fail
      (with_reducible refine HRel.out.mono ?_)
      rintro e w5 ⟨rfl, hb⟩
      have HB5 := Lib.hid (HB0.out.trans ((HB4.out.trans (hb.mono HB4.out.size)).mono HB0.out.size))
      obtain ⟨q, hq⟩ : ∃ q, rrelF (thr k x (allF b)) (thr j y (allF b)) = q := ⟨_, rfl⟩
      have hE := HE.out
      rw [hq] at hE ⊢
      clear hb hq HE
      by_cases h1 : q = 1
      · rw [if_pos h1] at hE
        injection hE with e1 e2
        subst h1 e1 e2
        go_wp2_with fail
        go_ret2
        exact ⟨rfl, HB5.out⟩
      · rw [if_neg h1] at hE
        injection hE with e1 e2
        subst e1 e2
        have hq1 : (q != 1) = true := by simpa using h1
        go_wp2_with fail
        go_ret2
        exact ⟨rfl, HB5.out⟩
  · rw [if_neg he] at hE
    injection hE with h1 h2
    subst h1 h2
    have hb2 : (oE == 0) = false := by simpa using he
    have hb3 : (oE != 0) = true := by simpa using he
    clear hZ HBk
    go_enter Try.func43, Try.ntmps43
    go_wp2_with fail
    rw [HW0.out]
    (with_reducible refine (HV.out).mono ?_)
    rintro e w1 ⟨rfl, hb⟩
    have HB1 := Lib.hid (hb)
    clear hb
    go_wp2_with fail
    go_ret2
    exact ⟨rfl, HB0.out.trans (HB1.out.mono HB0.out.size)⟩
end Go.Proofs.Ytplpogonkfnafaa
