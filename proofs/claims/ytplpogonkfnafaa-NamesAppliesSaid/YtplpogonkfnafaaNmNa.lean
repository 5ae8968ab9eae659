/- The reference: Chain. -/
import Derived.Test.YtplpogonkfnafaaNmMo
import Derived.Test.YtplpogonkfnafaaNmBd
import Derived.Test.YtplpogonkfnafaaNmWc
namespace Go.Proofs.Ytplpogonkfnafaa
open Go.RowKit Go.Nm

theorem any_next {l : List Int} {fr : List Int} {k : Nat} {z : Int} (h : l[k]? = some z) : (l.take (k + 1)).any (fun z => decide (z ∈ fr)) = ((l.take k).any (fun z => decide (z ∈ fr)) || decide (z ∈ fr)) := by
  rw [show l.take (k + 1) = l.take k ++ [z] from by rw [List.take_add_one, h]; rfl, List.any_append]
  simp
set_option maxRecDepth 100000 in
set_option maxHeartbeats 8000000 in
theorem rChain_any (v vc : Value) (b : Bk) (n x : Int) (w : World) (hv : BkV w v b vc) (hs : Sm b) :
    Calls Try.prog 47 #[v, .int .i64 n, .int .i64 x] w (OutN (chainOut b n x).1 (chainOut b n x).2 w) := by
  obtain ⟨A1, c1, A2, c2, W0, rfl, rfl, hW0, hb0, hB0, hx⟩ := bk_box hv
  have HB0 := Lib.hid hb0
  have HBk := Lib.hid hB0
  have HX := Lib.hid hx
  have HW0 := Lib.hid hW0
  have HS := Lib.hid hs
  clear hb0 hB0 hx hW0 hs hv
  obtain ⟨k0, k1⟩ := HX.out W0 (Below.refl _ _)
  have HV := Lib.hid (rnamed_any _ _ b n x n W0 HBk.out HS.out)
  rw [openAt_one] at HV
  have hE : chainOut b n x = if openAtE b [] n x = 0 then (chainT b.chs n.toNat x b.chs.length, 0) else ([], openAtE b [] n x) := rfl
  have hZ := openAtE_zero (b := b) (V := []) (n := n) (x := x)
  generalize chainOut b n x = o at *
  obtain ⟨oR, oE⟩ := o
  dsimp only
  generalize openAtE b [] n x = er at *
  by_cases he : er = 0
  · subst he
    obtain ⟨hval, hV, hxm⟩ := hZ rfl
    have hn := hV n (by simp)
    obtain ⟨k, rfl⟩ : ∃ k : Nat, n = (k : Int) := ⟨n.toNat, by omega⟩
    have hk : k ≤ b.chs.length := by omega
    rw [if_pos rfl, Int.toNat_natCast] at hE
    rw [Int.toNat_natCast] at hxm
    obtain ⟨A, hA, hxA⟩ := getD_mem hxm
    injection hE with h1 h2
    subst h2
    have HL := Lib.hid h1
    have HMe := Lib.hid (fun j Y (h : Below W0.heap.size W0 Y) (hj : j ≤ b.chs.length) => rmean_any _ _ _ b [x] k j _ ((HBk.out.step h).step (below_new (.cells #[.int .i64 x] 3))) HS.out hval hk hj A hA (by simp [Inc]) (by simp; exact hxA) (one_sl Y x))
    have HMl := Lib.hid (fun j (hj : j ≤ b.chs.length) => (show (mns b.chs k [x] j).length ≤ 400 from by
      obtain ⟨B, hB, h3, h4⟩ := mns_ok hval hA (l := [x]) (by simp [Inc]) (by simp; exact hxA) hk hj
      exact Nat.le_trans (inc_sub_len h3 h4) (vers_ok B (List.mem_of_getElem? hB)).2))
    have HCh := Lib.hid (show ChSl W0 W0.heap.size (.slice A2 b.chs.length c2) b.chs from by obtain ⟨_, _, _, h⟩ := HBk.out; exact h)
    obtain ⟨len, hlen⟩ : ∃ len, b.chs.length = len := ⟨_, rfl⟩
    have HLn := Lib.hid hlen
    have hl64 : len ≤ 64 := by have := hval.1; omega
    rw [hlen] at HX HW0 HV HCh HMe HMl HL hk ⊢
    clear hV hn hZ HBk hval hxm hA hxA hlen h1
    go_enter Try.func47, Try.ntmps47
    go_wp2_with fail
    rw [HW0.out]
    (with_reducible refine (HV.out).mono ?_)
    rintro e w1 ⟨rfl, hb⟩
    have HB1 := Lib.hid (hb)
    clear hb
    clear k0 k1
    obtain ⟨k0, k1⟩ := HX.out w1 HB1.out
    go_wp2_with fail
    go_loopw [9, 10] (fun ov iv wr => ∃ i : Nat, iv = .int .i64 (i : Int) ∧ i ≤ len ∧ OwN w1 ov (chainT b.chs k x i) wr) (fun _ iv _ => len - (intOf iv).toNat)
    case atStart => exact ⟨0, rfl, by omega, by simpa [chainT] using OwN.start w1⟩
    case round =>
      obtain ⟨i, rfl, hil, hO⟩ := hrel
      have HO := Lib.hid hO
      have HBr := Lib.hid (HB1.out.trans (hO.bel.mono HB1.out.size))
      clear hO k0 k1
      obtain ⟨k0, k1⟩ := HX.out wr HBr.out
      by_cases hlt : i < len
      · obtain ⟨ch, ad, Af, cf, hch, rfl, hrd⟩ := ch_reads HCh.out hlt
        have HRd := Lib.hid hrd
        have HNx := Lib.hid (chainT_next (n := k) (x := x) hch)
        have HFl := Lib.hid (HS.out.2.2 ch (List.mem_of_getElem? hch)).1
        have HM1 := Lib.hid (HMe.out i wr HBr.out (by omega))
        have HFm := Lib.hid (HMl.out i (by omega))
        have HLe := Lib.hid (chainT_len b.chs k x i)
        obtain ⟨F, hF⟩ : ∃ F, mns b.chs k [x] i = F := ⟨_, rfl⟩
        rw [hF] at HNx HM1 HFm
        obtain ⟨nt, hnt⟩ : ∃ nt, F.length = nt := ⟨_, rfl⟩
        have HNt := Lib.hid hnt
        rw [hnt] at HFm
        clear hrd hch hF hnt
        have hi1 : (i : Int) < (len : Int) := by omega
        go_wp2_with fail
        (with_reducible refine HM1.out.mono ?_)
        rintro e w2 ⟨⟨lv, rfl, hlv⟩, hb⟩
        have HB2 := Lib.hid ((below_new (w := wr) (.cells #[.int .i64 x] 3)).trans (hb.mono (by simp)))
        have HO2 := Lib.hid (HO.out.step HB2.out)
        have HLv := Lib.hid hlv
        obtain ⟨Al, cl, rfl, _⟩ := hlv.form
        rw [HNt.out] at HLv ⊢
        have HBs := Lib.hid (HBr.out.trans (HB2.out.mono HBr.out.size))
        clear hlv hb HM1 k0 k1
        obtain ⟨k0, k1⟩ := HX.out w2 HBs.out
        have hnt4 : nt ≤ 400 := HFm.out
        go_wp2_with fail
        go_loopw [12, 13] (fun sv iv wq => ∃ j : Nat, iv = .int .i64 (j : Int) ∧ j ≤ nt ∧ sv = .bool ((F.take j).any (fun z => decide (z ∈ ch.fr))) ∧ Below w2.heap.size w2 wq) (fun _ iv _ => nt - (intOf iv).toNat)
        case atStart => exact ⟨0, rfl, by omega, by simp, Below.refl _ _⟩
        case round =>
          obtain ⟨j, rfl, hjn, rfl, hbq⟩ := hrel
          have HBq := Lib.hid (And.intro hbq (HBs.out.trans (hbq.mono HBs.out.size)))
          clear k0 k1 hbq
          obtain ⟨k0, k1⟩ := HX.out wr HBq.out.2
          by_cases hjt : j < nt
          · obtain ⟨z, adl, hz, rfl, _, hcz⟩ := ((show InA w2 w2.heap.size Al F from by obtain ⟨_, _, e, _, _, h⟩ := HLv.out; cases e; exact h).below HBq.out.1).at_ HNt.out hjt
            have HN2 := Lib.hid (any_next (fr := ch.fr) hz)
            clear hz
            obtain ⟨st, hst⟩ : ∃ st, (F.take j).any (fun z => decide (z ∈ ch.fr)) = st := ⟨_, rfl⟩
            rw [hst] at HN2 ⊢
            clear hst
            have hj1 : (j : Int) < (nt : Int) := by omega
            have hcf := (HRd.out wr HBq.out.2).1
            have HHo := Lib.hid (fun Y (hY : Below W0.heap.size W0 Y) => rhas_any _ ch.fr z Y ((HRd.out Y hY).2) (by have := HFl.out; omega))
            cases st with
            | true =>
              have HE2 := Lib.hid (show (F.take (j + 1)).any (fun z => decide (z ∈ ch.fr)) = true from by rw [HN2.out]; simp)
              clear HN2 HHo
              go_wp2_with fail
              refine wp_region_still_lit (by kernel_rfl) (by kernel_rfl) ?_
              iterate 15 ((with_reducible refine wpStill_step ?_); intro K hK; go_simp; (try (refine ite_neg_of (by simp [undef] <;> assumption) ?_)); (with_reducible refine hK _ ?_); clear hK K)
              (with_reducible refine wpStill_nil ?_)
              go_wp2_with fail
              go_roundw
              case rel => exact ⟨j + 1, by go_num, by omega, by rw [HE2.out], HBq.out.1.drew⟩
              case measure => simp [intOf]; omega
            | false =>
              obtain ⟨q, hq⟩ : ∃ q, decide (z ∈ ch.fr) = q := ⟨_, rfl⟩
              have HE2 := Lib.hid (show (F.take (j + 1)).any (fun z => decide (z ∈ ch.fr)) = q from by rw [HN2.out, hq]; simp)
              rw [hq] at HHo
              clear HN2 hq
              go_wp2_with fail
              refine wp_region_tail 12 (by kernel_rfl) (by kernel_rfl) ?_
              simp only [List.take_succ_cons, List.take_zero, List.drop_succ_cons, List.drop_zero]
              iterate 12 ((with_reducible refine wpStill_step ?_); intro K hK; go_simp; (try (refine ite_neg_of (by simp [undef] <;> assumption) ?_)); (with_reducible refine hK _ ?_); clear hK K)
              (with_reducible refine wpStill_nil ?_)
              go_wp2_with fail
              (with_reducible refine (HHo.out wr.drew HBq.out.2.drew).mono ?_)
              rintro e Y9 ⟨rfl, hb⟩
              have HB9 := Lib.hid (HBq.out.1.drew.trans (hb.mono HBq.out.1.drew.size))
              clear hb HHo
              go_wp2_with fail
              go_roundw
              case rel => exact ⟨j + 1, by go_num, by omega, by rw [HE2.out], HB9.out⟩
              case measure => simp [intOf]; omega
          · have hj1 : ¬ (j : Int) < (nt : Int) := by omega
            have hj : j = nt := by omega
            subst hj
            have HTo := Lib.hid (show (F.take j).any (fun z => decide (z ∈ ch.fr)) = F.any (fun z => decide (z ∈ ch.fr)) from by rw [List.take_of_length_le (by have := HNt.out; omega)])
            obtain ⟨q, hq⟩ : ∃ q, F.any (fun z => decide (z ∈ ch.fr)) = q := ⟨_, rfl⟩
            rw [hq] at HTo HNx
            rw [HTo.out]
            have HO3 := Lib.hid (HO2.out.step HBq.out.1)
            clear hq HTo
            cases q with
            | true =>
              rw [if_pos rfl] at HNx
              go_wp2_with (at_builtin; refine wpList_appN rfl _ _ rfl (HO3.out.step (below_new _)) rfl rfl (one_sl _ (i : Int)) (by have := HLe.out; simp only [List.length_singleton]; omega) ?_; intro v5 w5 hO5 hg5; have HO5 := Lib.hid hO5; clear hO5 hg5)
              go_roundw
              case rel => exact ⟨i + 1, by go_num, by omega, by rw [HNx.out]; exact HO5.out⟩
              case measure => simp [intOf]; omega
            | false =>
              rw [if_neg (by simp), List.append_nil] at HNx
              go_wp2_with fail
              go_roundw
              case rel => exact ⟨i + 1, by go_num, by omega, by rw [HNx.out]; exact HO3.out⟩
              case measure => simp [intOf]; omega
      · have hi1 : ¬ (i : Int) < (len : Int) := by omega
        have hi : i = len := by omega
        subst hi
        have HBf := Lib.hid (HB0.out.trans (HBr.out.mono HB0.out.size))
        go_wp2_with fail
        go_ret2
        exact OutN.mk (by rw [HL.out]; exact HO.out.sl) HBf.out
  · rw [if_neg he] at hE
    injection hE with h1 h2
    subst h1 h2
    have hb2 : (oE == 0) = false := by simpa using he
    have hb3 : (oE != 0) = true := by simpa using he
    clear hZ HBk
    go_enter Try.func47, Try.ntmps47
    go_wp2_with fail
    rw [HW0.out]
    (with_reducible refine (HV.out).mono ?_)
    rintro e w1 ⟨rfl, hb⟩
    have HB1 := Lib.hid (hb)
    clear hb
    go_wp2_with fail
    go_ret2
    exact OutN.nil (HB0.out.trans (HB1.out.mono HB0.out.size))
end Go.Proofs.Ytplpogonkfnafaa
