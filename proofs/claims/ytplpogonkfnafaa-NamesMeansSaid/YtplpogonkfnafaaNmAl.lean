/- All. -/
import Derived.Test.YtplpogonkfnafaaNmBg
namespace Go.Proofs.Ytplpogonkfnafaa
open Go.RowKit Go.Nm

theorem two_sl (w : World) (x y : Int) : InSl (w.alloc (.cells #[.int .i64 x, .int .i64 y] 3)) (w.alloc (.cells #[.int .i64 x, .int .i64 y] 3)).heap.size (.slice (some ⟨w.heap.size, 0, none⟩) 2 2) [x, y] := by
  obtain ⟨k0, k1⟩ := cells_two (World.alloc_heap_new w (.cells #[.int .i64 x, .int .i64 y] 3))
  refine ⟨some ⟨w.heap.size, 0, none⟩, 2, rfl, Nat.le_refl _, by unfold maxLen; omega, fun i z hz => ?_⟩
  have hi : i = 0 ∨ i = 1 := by have := (List.getElem?_eq_some_iff.1 hz).1; simp at this; omega
  rcases hi with rfl | rfl
  · injection hz with hz; subst hz
    exact ⟨_, rfl, by simp, by rw [add_zero']; exact k0⟩
  · injection hz with hz; subst hz
    exact ⟨_, rfl, by simp, by rw [off_add]; exact k1⟩
def allOut (b : Bk) (n : Int) (l : List Int) (m : Int) : List Int × Int := if openE b [n, m] = 0 then (if decide (Inc l) = true then (if decide (wo l ((vers b).getD n.toNat []) = []) = true then (mns b.chs n.toNat l m.toNat, 0) else ([], 22)) else ([], 1)) else ([], openE b [n, m])
set_option maxRecDepth 100000 in
set_option maxHeartbeats 8000000 in
theorem All_any (v vc t : Value) (b : Bk) (n m : Int) (l : List Int) (w : World) (hv : BkV w v b vc) (hs : Sm b) (ht : InSl w w.heap.size t l) (hl : l.length ≤ 1000) :
    Calls Try.prog 38 #[v, .int .i64 n, t, .int .i64 m] w (OutN (allOut b n l m).1 (allOut b n l m).2 w) := by
  have hv0 := hv
  obtain ⟨v1, rfl, h1, h2⟩ := hv
  obtain ⟨A1, c1, rfl, _⟩ := h1.form
  obtain ⟨A2, c2, rfl⟩ := h2.form
  obtain ⟨At, ct, rfl, _⟩ := ht.form
  have hb0 := below_new (w := w) (.cells #[.slice A1 b.first.length c1, .slice A2 b.chs.length c2] 25)
  have hb1 := below_new (w := w.alloc (.cells #[.slice A1 b.first.length c1, .slice A2 b.chs.length c2] 25)) (.cells #[.int .i64 n, .int .i64 m] 3)
  have HO := Lib.hid (open_any _ _ _ b [n, m] _ ((hv0.step hb0).step hb1) hs (two_sl _ n m) (by simp))
  have HB0 := Lib.hid (hb0.trans (hb1.mono hb0.size))
  have HM := Lib.hid (show allOut b n l m = if openE b [n, m] = 0 then (if decide (Inc l) = true then (if decide (wo l ((vers b).getD n.toNat []) = []) = true then (mns b.chs n.toNat l m.toNat, 0) else ([], 22)) else ([], 1)) else ([], openE b [n, m]) from rfl)
  have HZ := Lib.hid (openE_val (b := b) (V := [n, m]))
  have HT := Lib.hid ht
  have HS := Lib.hid hs
  clear hv0 h1 h2 hb0 hb1 hs ht
  generalize allOut b n l m = o at *
  obtain ⟨oR, oE⟩ := o
  dsimp only
  generalize openE b [n, m] = er at *
  rw [World.size_alloc] at HO
  generalize hll : l.length = ll at *
  have HLl := Lib.hid hll
  clear hll
  go_enter Try.func38, Try.ntmps38
  go_wp2_with fail
  (with_reducible refine HO.out.mono ?_)
  rintro e w1 ⟨u, rfl, hu0, hu1, hb⟩
  have HB := Lib.hid (HB0.out.trans (hb.mono HB0.out.size))
  clear hb
  by_cases he : er = 0
  · subst he
    obtain ⟨hval, hV⟩ := HZ.out rfl
    obtain ⟨n0, n1⟩ := hV n (by simp)
    obtain ⟨m0, m1⟩ := hV m (by simp)
    obtain ⟨n', rfl⟩ : ∃ k : Nat, n = (k : Int) := ⟨n.toNat, by omega⟩
    obtain ⟨m', rfl⟩ : ∃ k : Nat, m = (k : Int) := ⟨m.toNat, by omega⟩
    rw [if_pos rfl] at HM
    have hlen := val_len hval
    have hH := hu0 rfl
    obtain ⟨Av, cv, rfl, hvs⟩ := vers_sl hH
    have hb2 := below_new (w := w1) (.cells #[.slice Av (vers b).length cv, .slice A2 b.chs.length c2] 67)
    have HB2 := Lib.hid (HB.out.trans (hb2.mono HB.out.size))
    have HT2 := Lib.hid (HT.out.step HB2.out)
    have HH := Lib.hid (hH.step hb2)
    have hnl : n' < (vers b).length := by omega
    have HI := Lib.hid (increasing_any _ l _ HT2.out (by have := HLl.out; omega))
    have HN2 := Lib.hid (World.alloc_heap_new w1 (.cells #[.slice Av (vers b).length cv, .slice A2 b.chs.length c2] 67))
    have HV8 := Lib.hid ((hvs.below hb2).mono hb2.size)
    have HVal := Lib.hid hval
    have hnc : n' ≤ b.chs.length := by omega
    have hmc : m' ≤ b.chs.length := by omega
    clear hH hvs hb2 hu0 hu1 hV hval n0 n1 m0 m1 HZ hlen
    simp only [Int.toNat_natCast] at HM
    obtain ⟨W8, hW8⟩ : ∃ W8, w1.alloc (.cells #[.slice Av (vers b).length cv, .slice A2 b.chs.length c2] 67) = W8 := ⟨_, rfl⟩
    rw [hW8] at HB2 HT2 HH HI HN2 HV8
    obtain ⟨k0, k1⟩ := cells_two HN2.out
    obtain ⟨qi, hqi⟩ : ∃ q, decide (Inc l) = q := ⟨_, rfl⟩
    rw [hqi] at HM HI
    clear hqi
    go_wp2_with fail
    (with_reducible refine HI.out.mono ?_)
    rintro e w3 ⟨rfl, hb⟩
    have HB3 := Lib.hid (And.intro hb (HB2.out.trans (hb.mono HB2.out.size)))
    have j0 : w3.cell? ⟨w1.heap.size, 0, none⟩ = some (.slice Av (vers b).length cv) := (hb.cell (p := ⟨w1.heap.size, 0, none⟩) (Array.getElem?_eq_some_iff.1 HN2.out).1).trans k0
    have j1 : w3.cell? ⟨w1.heap.size, 1, none⟩ = some (.slice A2 b.chs.length c2) := (hb.cell (p := ⟨w1.heap.size, 1, none⟩) (Array.getElem?_eq_some_iff.1 HN2.out).1).trans k1
    clear hb k0 k1
    cases qi with
    | false =>
      have hM := HM.out
      rw [if_neg (by decide)] at hM
      injection hM with hM1 hM2
      subst hM1; subst hM2
      clear HM
      go_wp2_with fail
      go_ret2
      exact OutN.nil HB3.out.2
    | true =>
      obtain ⟨ad, uk, L, rfl, hadb, hL, hck, hinL⟩ := ((HV8.out.below HB3.out.1).mono HB3.out.1.size).at_ hnl
      obtain ⟨hLi, hLl⟩ := vers_ok L (List.mem_of_getElem? hL)
      have HA := Lib.hid (hasAll_any uk _ L l _ hinL (HT2.out.step HB3.out.1) (by omega) (by have := HLl.out; omega))
      obtain ⟨Ak, ck, rfl, _⟩ := hinL.form
      have HM2 := Lib.hid (show (oR, oE) = if decide (wo l L = []) = true then (mns b.chs n' l m', 0) else ([], 22) from by
        have h := HM.out
        have hg : (vers b).getD n' [] = L := by rw [List.getD_eq_getElem?_getD, hL]; rfl
        rw [if_pos rfl] at h; simp only [hg] at h; exact h)
      obtain ⟨qa, hqa⟩ : ∃ q, decide (wo l L = []) = q := ⟨_, rfl⟩
      rw [hqa] at HM2 HA
      clear hqa hL hadb hinL hLi hLl HM
      go_wp2_with fail
      (with_reducible refine HA.out.mono ?_)
      rintro e w4 ⟨rfl, hb⟩
      have HB4 := Lib.hid (And.intro (HB3.out.1.trans (hb.mono HB3.out.1.size)) (HB3.out.2.trans (hb.mono HB3.out.2.size)))
      have i0 := (hb.cell (p := ⟨w1.heap.size, 0, none⟩) (Nat.lt_of_lt_of_le (Array.getElem?_eq_some_iff.1 HN2.out).1 HB3.out.1.size)).trans j0
      have i1 := (hb.cell (p := ⟨w1.heap.size, 1, none⟩) (Nat.lt_of_lt_of_le (Array.getElem?_eq_some_iff.1 HN2.out).1 HB3.out.1.size)).trans j1
      clear hb j0 j1 hck
      cases qa with
      | false =>
        have hM := HM2.out
        rw [if_neg (by decide)] at hM
        injection hM with hM1 hM2
        subst hM1; subst hM2
        clear HM2
        go_wp2_with fail
        go_ret2
        exact OutN.nil HB4.out.2
      | true =>
        have hM := HM2.out
        rw [if_pos rfl] at hM
        injection hM with hM1 hM2
        subst hM2
        have HR := Lib.hid hM1
        have HC := Lib.hid (meanings_any _ _ _ b l n' m' w4 (HH.out.step HB4.out.1) HS.out HVal.out.1 hnc hmc (HT2.out.step HB4.out.1) (by have := HLl.out; omega))
        clear HM2 hM1
        go_wp2_with fail
        (with_reducible refine HC.out.mono ?_)
        rintro e w5 ⟨⟨r, rfl, hr⟩, hb⟩
        have HR5 := Lib.hid (And.intro hr (HB4.out.2.trans (hb.mono HB4.out.2.size)))
        obtain ⟨A3, c3, rfl, _⟩ := hr.form
        clear hr hb
        go_wp2_with fail
        go_ret2
        exact OutN.mk (by rw [HR.out]; exact HR5.out.1) HR5.out.2
  · rw [if_neg he] at HM
    have hM := HM.out
    injection hM with hM1 hM2
    subst hM1; subst hM2
    clear HM
    obtain rfl := hu1 he
    have HB2 := Lib.hid (HB.out.trans ((below_new (w := w1) (.cells #[.slice none 0 0, .slice none 0 0] 67)).mono HB.out.size))
    unfold nilH at *
    clear hu0 hu1 HZ
    go_wp2_with fail
    go_ret2
    exact OutN.nil HB2.out
end Go.Proofs.Ytplpogonkfnafaa
