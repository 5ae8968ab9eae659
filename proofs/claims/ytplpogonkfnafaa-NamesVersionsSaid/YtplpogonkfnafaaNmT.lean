/- Names; hasSome; relation. -/
import Derived.Test.YtplpogonkfnafaaNmS
import Derived.Test.YtplpogonkfnafaaNmN
namespace Go.Proofs.Ytplpogonkfnafaa
open Go.RowKit Go.Nm

def namesOut (b : Bk) (n : Int) : List Int × Int := if openE b [n] = 0 then ((vers b).getD n.toNat [], 0) else ([], openE b [n])
set_option maxRecDepth 100000 in
set_option maxHeartbeats 4000000 in
theorem Names_any (v vc : Value) (b : Bk) (n : Int) (w : World) (hv : BkV w v b vc) (hs : Sm b) :
    Calls Try.prog 22 #[v, .int .i64 n] w (OutN (namesOut b n).1 (namesOut b n).2 w) := by
  have hv0 := hv
  obtain ⟨v1, rfl, h1, h2⟩ := hv
  obtain ⟨A1, c1, rfl, _⟩ := h1.form
  obtain ⟨A2, c2, rfl⟩ := h2.form
  have hb0 := below_new (w := w) (.cells #[.slice A1 b.first.length c1, .slice A2 b.chs.length c2] 25)
  have hb1 := below_new (w := w.alloc (.cells #[.slice A1 b.first.length c1, .slice A2 b.chs.length c2] 25)) (.cells #[.int .i64 n] 3)
  have HO := Lib.hid (open_any _ _ _ b [n] _ ((hv0.step hb0).step hb1) hs (one_sl _ n) (by simp))
  have HB0 := Lib.hid (hb0.trans (hb1.mono hb0.size))
  have HM := Lib.hid (show namesOut b n = if openE b [n] = 0 then ((vers b).getD n.toNat [], 0) else ([], openE b [n]) from rfl)
  have HZ := Lib.hid (openE_val (b := b) (V := [n]))
  clear hv0 h1 h2 hb0 hb1 hs
  generalize namesOut b n = o at *
  obtain ⟨oR, oE⟩ := o
  dsimp only
  generalize openE b [n] = er at *
  rw [World.size_alloc] at HO
  go_enter Try.func22, Try.ntmps22
  go_wp2_with fail
  (with_reducible refine HO.out.mono ?_)
  rintro e w1 ⟨u, rfl, hu0, hu1, hb⟩
  have HB := Lib.hid (HB0.out.trans (hb.mono HB0.out.size))
  clear hb
  by_cases he : er = 0
  · subst he
    obtain ⟨hval, hV⟩ := HZ.out rfl
    obtain ⟨n0, n1⟩ := hV n (by simp)
    obtain ⟨k, rfl⟩ : ∃ k : Nat, n = (k : Int) := ⟨n.toNat, by omega⟩
    rw [if_pos rfl] at HM
    have hM := HM.out
    injection hM with hM1 hM2
    subst hM2
    have hH := hu0 rfl
    obtain ⟨vs, rfl, hvs, hvc⟩ := hH
    obtain ⟨Av, cv, rfl⟩ := hvs.form
    have hkl : k < (vers b).length := by omega
    have hb2 := below_new (w := w1) (.cells #[.slice Av (vers b).length cv, .slice A2 b.chs.length c2] 67)
    obtain ⟨ad, uk, L, rfl, hadb, hL, hck, hinL⟩ := ((hvs.below hb2).mono hb2.size).at_ hkl
    obtain ⟨hLi, hLl⟩ := vers_ok L (List.mem_of_getElem? hL)
    have HC := Lib.hid (cloneV_any uk L _ hinL (by omega))
    obtain ⟨Ak, ck, rfl, _⟩ := hinL.form
    have HB2 := Lib.hid (HB.out.trans (hb2.mono HB.out.size))
    have hR : oR = L := by rw [hM1, Int.toNat_natCast, List.getD_eq_getElem?_getD, hL]; rfl
    subst hR
    clear hvs hvc hb2 hu0 hu1 hV hval n0 n1 HZ hinL hLi hL hadb
    clear hM1 HM
    generalize hvl : (vers b).length = vl at *
    clear hvl
    go_wp2_with fail
    (with_reducible refine HC.out.mono ?_)
    rintro e w2 ⟨r, rfl, hO⟩
    have HR2 := Lib.hid (And.intro hO.sl (HB2.out.trans (hO.bel.mono HB2.out.size)))
    obtain ⟨A3, c3, rfl, _⟩ := hO.sl.form
    clear hO
    go_wp2_with fail
    go_ret2
    exact OutN.mk HR2.out.1 HR2.out.2
  · rw [if_neg he] at HM
    have hM := HM.out
    injection hM with hM1 hM2
    subst hM1; subst hM2
    clear HM
    obtain rfl := hu1 he
    have HB2 := Lib.hid (HB.out.trans ((below_new (w := w1) (.cells #[.slice none 0 0, .slice none 0 0] 67)).mono HB.out.size))
    unfold nilH at *
    clear hu0 hu1 HZ
    go_wp2_with fail
    go_ret2
    exact OutN.nil HB2.out

set_option maxRecDepth 100000 in
set_option maxHeartbeats 4000000 in
theorem indexHas_any (u vm : Value) (L M : List Int) (w : World) (hu : InSl w w.heap.size u L) (hm : InSl w w.heap.size vm M) (hi : Inc M) (hn : L.length ≤ 1000000) (hmn : M.length ≤ 1000000) :
    Calls Try.prog 119 #[u, .func (.func 66) #[vm] #[]] w fun e w' => (∃ k : Int, e = .returned (.int .i64 k) ∧ decide (0 ≤ k) = L.any fun x => decide (x ∈ M)) ∧ w = w' := by
  have HH := Lib.hid (fun x => has_any vm M x w hm hi hmn)
  obtain ⟨A, c, rfl, hc, hcm, hA⟩ := hu
  obtain ⟨A2, c2, rfl, _⟩ := hm.form
  have HA := Lib.hid hA
  clear hA hm hi hc hcm
  generalize hnl : L.length = n at *
  have HL := Lib.hid hnl
  clear hnl
  go_enter Try.func119, Try.ntmps119
  go_wp2_with fail
  go_loop [8] (fun k => ∃ i : Nat, k = .int .i64 (i : Int) ∧ i ≤ n ∧ (L.take i).any (fun x => decide (x ∈ M)) = false) (fun k => n - (intOf k).toNat)
  case atStart => exact ⟨0, rfl, by omega, rfl⟩
  case round =>
    obtain ⟨i, rfl, hin, hno⟩ := hrel
    have HN := Lib.hid hno
    clear hno
    by_cases hlt : i < n
    · obtain ⟨x, ad, hx, rfl, hb, hcx⟩ := HA.out.at_ HL.out hlt
      have HHx := Lib.hid (HH.out x)
      have HX := Lib.hid hx
      have HT := Lib.hid (show (L.take (i + 1)).any (fun x => decide (x ∈ M)) = decide (x ∈ M) from by
        obtain ⟨hi2, rfl⟩ := List.getElem?_eq_some_iff.1 hx
        rw [List.take_succ_eq_append_getElem hi2, List.any_append, HN.out]; simp)
      clear hx hb
      by_cases hxm : x ∈ M
      · rw [decide_eq_true hxm] at HHx HT
        have HF := Lib.hid (show (L.any fun x => decide (x ∈ M)) = true from List.any_eq_true.2 ⟨x, List.mem_of_getElem? HX.out, decide_eq_true hxm⟩)
        clear hxm
        go_wp2_with fail
        refine HHx.out.mono ?_
        rintro e w1 ⟨rfl, rfl⟩
        go_wp2_with fail
        go_ret
        exact ⟨⟨_, rfl, by rw [HF.out]; simp⟩, rfl⟩
      · rw [decide_eq_false hxm] at HHx HT
        clear hxm
        go_wp2_with fail
        refine HHx.out.mono ?_
        rintro e w1 ⟨rfl, rfl⟩
        go_wp2_with fail
        go_round
        case rel => exact ⟨i + 1, by go_num, by omega, HT.out⟩
        case measure => simp [intOf]; omega
    · have HF := Lib.hid (show (L.any fun x => decide (x ∈ M)) = false from by
        have := HN.out
        rwa [List.take_of_length_le (by rw [HL.out]; omega)] at this)
      go_wp2_with fail
      go_ret
      exact ⟨⟨_, rfl, by rw [HF.out]; rfl⟩, rfl⟩
set_option maxHeartbeats 2000000 in
theorem hasSome_any (vm u : Value) (M L : List Int) (w : World) (hm : InSl w w.heap.size vm M) (hu : InSl w w.heap.size u L) (hi : Inc M) (hn : L.length ≤ 1000000) (hmn : M.length ≤ 1000000) :
    Calls Try.prog 86 #[vm, u] w fun e w' => e = .returned (.bool (L.any fun x => decide (x ∈ M))) ∧ w = w' := by
  have HI := Lib.hid (indexHas_any u vm L M w hu hm hi hn hmn)
  obtain ⟨A, c, rfl, _⟩ := hu.form
  obtain ⟨A2, c2, rfl, _⟩ := hm.form
  clear hu hm hi
  generalize (L.any fun x => decide (x ∈ M)) = r at *
  have HC : Calls Try.prog 106 #[.slice A L.length c, .func (.func 66) #[.slice A2 M.length c2] #[]] w fun e w' => e = .returned (.bool r) ∧ w = w' := by
    go_enter Try.func106, Try.ntmps106
    go_wp2_with fail
    refine HI.out.mono ?_
    rintro e w1 ⟨⟨k, rfl, hk⟩, rfl⟩
    have HK := Lib.hid hk
    clear hk
    go_wp2_with fail
    go_ret
    exact ⟨ret_b HK.out, rfl⟩
  have HC2 := Lib.hid HC
  clear HC HI
  go_enter Try.func86, Try.ntmps86
  go_wp2_with fail
  refine HC2.out.mono ?_
  rintro e w1 ⟨rfl, rfl⟩
  go_wp2_with fail
  go_ret
  exact ⟨rfl, rfl⟩
end Go.Proofs.Ytplpogonkfnafaa
