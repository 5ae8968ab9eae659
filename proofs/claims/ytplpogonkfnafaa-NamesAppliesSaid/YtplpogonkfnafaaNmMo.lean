/- The reference: Means, part, relation. -/
import Derived.Test.YtplpogonkfnafaaNmMn
import Derived.Test.YtplpogonkfnafaaNmFu
import Derived.Test.YtplpogonkfnafaaNmXm
namespace Go.Proofs.Ytplpogonkfnafaa
open Go.RowKit Go.Nm

set_option maxRecDepth 100000 in
set_option maxHeartbeats 8000000 in
theorem rMeans_any (v vc : Value) (b : Bk) (n x m : Int) (w : World) (hv : BkV w v b vc) (hs : Sm b) :
    Calls Try.prog 37 #[v, .int .i64 n, .int .i64 x, .int .i64 m] w (OutN (meansOut b n x m).1 (meansOut b n x m).2 w) := by
  obtain ⟨A1, c1, A2, c2, W0, rfl, rfl, hW0, hb0, hB0, hx⟩ := bk_box hv
  have HB0 := Lib.hid hb0
  have HBk := Lib.hid hB0
  have HX := Lib.hid hx
  have HW0 := Lib.hid hW0
  have HS := Lib.hid hs
  clear hb0 hB0 hx hW0 hs hv
  obtain ⟨k0, k1⟩ := HX.out W0 (Below.refl _ _)
  have HV := Lib.hid (rnamed_any _ _ b n x m W0 HBk.out HS.out)
  have hE : meansOut b n x m = if openAtE b [m] n x = 0 then (mns b.chs n.toNat [x] m.toNat, 0) else ([], openAtE b [m] n x) := rfl
  have hZ := openAtE_zero (b := b) (V := [m]) (n := n) (x := x)
  generalize meansOut b n x m = o at *
  obtain ⟨oR, oE⟩ := o
  dsimp only
  generalize openAtE b [m] n x = er at *
  by_cases he : er = 0
  · subst he
    obtain ⟨hval, hV, hxm⟩ := hZ rfl
    have hn := hV n (by simp)
    have hm := hV m (by simp)
    obtain ⟨k, rfl⟩ : ∃ k : Nat, n = (k : Int) := ⟨n.toNat, by omega⟩
    obtain ⟨j, rfl⟩ : ∃ j : Nat, m = (j : Int) := ⟨m.toNat, by omega⟩
    have hk : k ≤ b.chs.length := by omega
    have hj : j ≤ b.chs.length := by omega
    rw [if_pos rfl, Int.toNat_natCast, Int.toNat_natCast] at hE
    rw [Int.toNat_natCast] at hxm
    obtain ⟨A, hA, hxA⟩ := getD_mem hxm
    injection hE with h1 h2
    subst h1 h2
    have HMe := Lib.hid (fun Y (h : Below W0.heap.size W0 Y) => rmean_any _ _ _ b [x] k j _ ((HBk.out.step h).step (below_new (.cells #[.int .i64 x] 3))) HS.out hval hk hj A hA (by simp [Inc]) (by simp; exact hxA) (one_sl Y x))
    clear hV hn hm hZ HBk HS hval hk hj hxm hA hxA
    go_enter Try.func37, Try.ntmps37
    go_wp2_with fail
    rw [HW0.out]
    (with_reducible refine (HV.out).mono ?_)
    rintro e w1 ⟨rfl, hb⟩
    have HB1 := Lib.hid (hb)
    clear hb
    clear k0 k1
    obtain ⟨k0, k1⟩ := HX.out w1 HB1.out
    go_wp2_with fail
    (with_reducible refine (HMe.out w1 HB1.out).mono ?_)
    rintro e w2 ⟨⟨r, rfl, hr⟩, hb⟩
    have HR := Lib.hid hr
    have HB2 := Lib.hid (HB0.out.trans ((HB1.out.trans (((below_new _).trans (hb.mono (by simp))).mono HB1.out.size)).mono HB0.out.size))
    clear hr hb
    go_wp2_with fail
    go_ret2
    exact OutN.mk HR.out HB2.out
  · rw [if_neg he] at hE
    injection hE with h1 h2
    subst h1 h2
    have hb2 : (oE == 0) = false := by simpa using he
    have hb3 : (oE != 0) = true := by simpa using he
    clear hZ HBk
    go_enter Try.func37, Try.ntmps37
    go_wp2_with fail
    rw [HW0.out]
    (with_reducible refine (HV.out).mono ?_)
    rintro e w1 ⟨rfl, hb⟩
    have HB1 := Lib.hid (hb)
    clear hb
    go_wp2_with fail
    go_ret2
    exact OutN.nil (HB0.out.trans (HB1.out.mono HB0.out.size))
set_option maxRecDepth 100000 in
set_option maxHeartbeats 8000000 in
theorem rpart_any (u v : Value) (L M : List Int) (w : World) (hu : InSl w w.heap.size u L) (hv : InSl w w.heap.size v M) (hL : L.length ≤ 1000000) (hM : M.length ≤ 1000000) :
    Calls Try.prog 105 #[u, v] w fun e w' => e = .returned (.bool (decide (∀ z ∈ L, z ∈ M))) ∧ Below w.heap.size w w' := by
  have HH := Lib.hid (fun z Y (h : Below w.heap.size w Y) => rhas_any v M z Y (hv.step h) hM)
  obtain ⟨Au, cu, rfl, _⟩ := hu.form
  obtain ⟨Av, cv, rfl, _⟩ := hv.form
  have HU := Lib.hid (show InA w w.heap.size Au L from by obtain ⟨_, _, e, _, _, h⟩ := hu; cases e; exact h)
  obtain ⟨r, hr⟩ : ∃ r, decide (∀ z ∈ L, z ∈ M) = r := ⟨_, rfl⟩
  rw [hr]
  have HR := Lib.hid hr
  obtain ⟨n, hn⟩ : ∃ n, L.length = n := ⟨_, rfl⟩
  have HN := Lib.hid hn
  rw [hn] at hL ⊢
  clear hu hv hr hn
  go_enter Try.func105, Try.ntmps105
  go_wp2_with fail
  go_loopw [5] (fun iv wr => ∃ i : Nat, iv = .int .i64 (i : Int) ∧ i ≤ n ∧ (∀ j z, j < i → L[j]? = some z → z ∈ M) ∧ Below w.heap.size w wr) (fun iv _ => n - (intOf iv).toNat)
  case atStart => exact ⟨0, rfl, by omega, fun j z hj => absurd hj (by omega), Below.refl _ _⟩
  case round =>
    obtain ⟨i, rfl, hin, hq, hb⟩ := hrel
    have HQ := Lib.hid hq
    have HB := Lib.hid hb
    clear hq hb
    by_cases hlt : i < n
    · obtain ⟨z, ad, hz, rfl, _, hcz⟩ := (HU.out.below HB.out).at_ HN.out hlt
      have HZ := Lib.hid hz
      have HH1 := HH.out z wr HB.out
      clear hz
      by_cases hm : z ∈ M
      · rw [decide_eq_true hm] at HH1
        have HNx := Lib.hid (show ∀ j z, j < i + 1 → L[j]? = some z → z ∈ M from fun j y hj hy => by
          by_cases h1 : j < i
          · exact HQ.out j y h1 hy
          · obtain rfl : j = i := by omega
            rw [HZ.out] at hy; injection hy with hy; rw [← hy]; exact hm)
        have HH1 := Lib.hid HH1
        clear hm
        go_wp2_with fail
        (with_reducible refine HH1.out.mono ?_)
        rintro e w2 ⟨rfl, hb⟩
        have HB2 := Lib.hid (HB.out.trans (hb.mono HB.out.size))
        clear hb
        go_wp2_with fail
        go_roundw
        case rel => exact ⟨i + 1, by go_num, by omega, HNx.out, HB2.out⟩
        case measure => simp [intOf]; omega
      · rw [decide_eq_false hm] at HH1
        have HF := Lib.hid (show r = false from by rw [← HR.out, decide_eq_false_iff_not]; exact fun h => hm (h z (List.mem_of_getElem? HZ.out)))
        have HH1 := Lib.hid HH1
        clear hm
        go_wp2_with fail
        (with_reducible refine HH1.out.mono ?_)
        rintro e w2 ⟨rfl, hb⟩
        have HB2 := Lib.hid (HB.out.trans (hb.mono HB.out.size))
        clear hb
        go_wp2_with fail
        go_ret
        exact ⟨ret_b HF.out.symm, HB2.out⟩
    · have HF := Lib.hid (show r = true from by
        rw [← HR.out, decide_eq_true_eq]
        intro z hz
        obtain ⟨j, hj, e⟩ := List.getElem_of_mem hz
        exact HQ.out j z (by have := HN.out; omega) (by rw [← e]; exact List.getElem?_eq_getElem hj))
      go_wp2_with fail
      go_ret
      exact ⟨ret_b HF.out.symm, HB.out⟩
/-- the relation of two sets -/
def rrelF (L M : List Int) : Int := if (∀ z ∈ L, z ∈ M) ∧ (∀ z ∈ M, z ∈ L) then 1 else if ∀ z ∈ L, z ∈ M then 2 else if ∀ z ∈ M, z ∈ L then 3 else if ∃ z ∈ L, z ∈ M then 4 else 0
set_option maxRecDepth 100000 in
set_option maxHeartbeats 8000000 in
theorem rrelation_any (u v : Value) (L M : List Int) (w : World) (hu : InSl w w.heap.size u L) (hv : InSl w w.heap.size v M) (hL : L.length ≤ 1000000) (hM : M.length ≤ 1000000) :
    Calls Try.prog 82 #[u, v] w fun e w' => e = .returned (.int .i64 (rrelF L M)) ∧ Below w.heap.size w w' := by
  have HP := Lib.hid (rpart_any u v L M w hu hv hL hM)
  have HP2 := Lib.hid (fun Y (h : Below w.heap.size w Y) => rpart_any v u M L Y (hv.step h) (hu.step h) hM hL)
  have HH := Lib.hid (fun z Y (h : Below w.heap.size w Y) => rhas_any v M z Y (hv.step h) hM)
  obtain ⟨Au, cu, rfl, _⟩ := hu.form
  obtain ⟨Av, cv, rfl, _⟩ := hv.form
  have HU := Lib.hid (show InA w w.heap.size Au L from by obtain ⟨_, _, e, _, _, h⟩ := hu; cases e; exact h)
  have hr0 : rrelF L M = if (∀ z ∈ L, z ∈ M) ∧ (∀ z ∈ M, z ∈ L) then 1 else if ∀ z ∈ L, z ∈ M then 2 else if ∀ z ∈ M, z ∈ L then 3 else if ∃ z ∈ L, z ∈ M then 4 else 0 := rfl
  obtain ⟨r, hr⟩ : ∃ r, rrelF L M = r := ⟨_, rfl⟩
  rw [hr] at hr0 ⊢
  obtain ⟨n, hn⟩ : ∃ n, L.length = n := ⟨_, rfl⟩
  have HN := Lib.hid hn
  rw [hn] at hL HP HP2 ⊢
  obtain ⟨nm, hnm⟩ : ∃ nm, M.length = nm := ⟨_, rfl⟩
  rw [hnm] at HP HP2 HH hM ⊢
  clear hu hv hr hn hnm
  by_cases h1 : ∀ z ∈ L, z ∈ M
  · rw [decide_eq_true h1] at HP
    by_cases h2 : ∀ z ∈ M, z ∈ L
    · simp only [decide_eq_true h2] at HP2
      rw [if_pos ⟨h1, h2⟩] at hr0
      have HR := Lib.hid hr0
      clear h1 h2 hr0
      go_enter Try.func82, Try.ntmps82
      go_wp2_with fail
      (with_reducible refine (HP.out).mono ?_)
      rintro e w1 ⟨rfl, hb⟩
      have HB1 := Lib.hid (hb)
      clear hb
      go_wp2_with fail
      (with_reducible refine (HP2.out w1 HB1.out).mono ?_)
      rintro e w2 ⟨rfl, hb⟩
      have HB2 := Lib.hid (HB1.out.trans (hb.mono HB1.out.size))
      clear hb
      go_wp2_with fail
      go_ret
      exact ⟨by rw [HR.out]; rfl, HB2.out⟩
    · simp only [decide_eq_false h2] at HP2
      rw [if_neg (fun h => h2 h.2), if_pos h1] at hr0
      have HR := Lib.hid hr0
      clear h1 h2 hr0
      go_enter Try.func82, Try.ntmps82
      go_wp2_with fail
      (with_reducible refine (HP.out).mono ?_)
      rintro e w1 ⟨rfl, hb⟩
      have HB1 := Lib.hid (hb)
      clear hb
      go_wp2_with fail
      (with_reducible refine (HP2.out w1 HB1.out).mono ?_)
      rintro e w2 ⟨rfl, hb⟩
      have HB2 := Lib.hid (HB1.out.trans (hb.mono HB1.out.size))
      clear hb
      go_wp2_with fail
      go_ret
      exact ⟨by rw [HR.out]; rfl, HB2.out⟩
  · rw [decide_eq_false h1] at HP
    by_cases h2 : ∀ z ∈ M, z ∈ L
    · simp only [decide_eq_true h2] at HP2
      rw [if_neg (fun h => h1 h.1), if_neg h1, if_pos h2] at hr0
      have HR := Lib.hid hr0
      clear h1 h2 hr0
      go_enter Try.func82, Try.ntmps82
      go_wp2_with fail
      (with_reducible refine (HP.out).mono ?_)
      rintro e w1 ⟨rfl, hb⟩
      have HB1 := Lib.hid (hb)
      clear hb
      go_wp2_with fail
      (with_reducible refine (HP2.out w1 HB1.out).mono ?_)
      rintro e w2 ⟨rfl, hb⟩
      have HB2 := Lib.hid (HB1.out.trans (hb.mono HB1.out.size))
      clear hb
      go_wp2_with fail
      go_ret
      exact ⟨by rw [HR.out]; rfl, HB2.out⟩
    · simp only [decide_eq_false h2] at HP2
      rw [if_neg (fun h => h1 h.1), if_neg h1, if_neg h2] at hr0
      have HR := Lib.hid hr0
      clear h1 h2 hr0
      go_enter Try.func82, Try.ntmps82
      go_wp2_with fail
      (with_reducible refine (HP.out).mono ?_)
      rintro e w1 ⟨rfl, hb⟩
      have HB1 := Lib.hid (hb)
      clear hb
      go_wp2_with fail
      (with_reducible refine (HP2.out w1 HB1.out).mono ?_)
      rintro e w2 ⟨rfl, hb⟩
      have HB2 := Lib.hid (HB1.out.trans (hb.mono HB1.out.size))
      clear hb
      go_wp2_with fail
      go_loopw [7] (fun iv wr => ∃ i : Nat, iv = .int .i64 (i : Int) ∧ i ≤ n ∧ (∀ j z, j < i → L[j]? = some z → z ∉ M) ∧ Below w.heap.size w wr) (fun iv _ => n - (intOf iv).toNat)
      case atStart => exact ⟨0, rfl, by omega, fun j z hj => absurd hj (by omega), HB2.out⟩
      case round =>
        obtain ⟨i, rfl, hin, hq, hb⟩ := hrel
        have HQ := Lib.hid hq
        have HB := Lib.hid hb
        clear hq hb
        by_cases hlt : i < n
        · obtain ⟨z, ad, hz, rfl, _, hcz⟩ := (HU.out.below HB.out).at_ HN.out hlt
          have HZ := Lib.hid hz
          have HH1 := HH.out z wr HB.out
          clear hz
          by_cases hm : z ∈ M
          · rw [decide_eq_true hm] at HH1
            have HF := Lib.hid (show r = 4 from by rw [HR.out, if_pos ⟨z, List.mem_of_getElem? HZ.out, hm⟩])
            have HH1 := Lib.hid HH1
            clear hm
            go_wp2_with fail
            (with_reducible refine HH1.out.mono ?_)
            rintro e w3 ⟨rfl, hb⟩
            have HB3 := Lib.hid (HB.out.trans (hb.mono HB.out.size))
            clear hb
            go_wp2_with fail
            go_ret
            exact ⟨by rw [HF.out]; rfl, HB3.out⟩
          · rw [decide_eq_false hm] at HH1
            have HNx := Lib.hid (show ∀ j z, j < i + 1 → L[j]? = some z → z ∉ M from fun j y hj hy => by
              by_cases h1 : j < i
              · exact HQ.out j y h1 hy
              · obtain rfl : j = i := by omega
                rw [HZ.out] at hy; injection hy with hy; rw [← hy]; exact hm)
            have HH1 := Lib.hid HH1
            clear hm
            go_wp2_with fail
            (with_reducible refine HH1.out.mono ?_)
            rintro e w3 ⟨rfl, hb⟩
            have HB3 := Lib.hid (HB.out.trans (hb.mono HB.out.size))
            clear hb
            go_wp2_with fail
            go_roundw
            case rel => exact ⟨i + 1, by go_num, by omega, HNx.out, HB3.out⟩
            case measure => simp [intOf]; omega
        · have HF := Lib.hid (show r = 0 from by
            rw [HR.out, if_neg]
            rintro ⟨z, hz, hm⟩
            obtain ⟨j, hj, e⟩ := List.getElem_of_mem hz
            exact HQ.out j z (by have := HN.out; omega) (by rw [← e]; exact List.getElem?_eq_getElem hj) hm)
          go_wp2_with fail
          go_ret
          exact ⟨by rw [HF.out]; rfl, HB.out⟩
end Go.Proofs.Ytplpogonkfnafaa
