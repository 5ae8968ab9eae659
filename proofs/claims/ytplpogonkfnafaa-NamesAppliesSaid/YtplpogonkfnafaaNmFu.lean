/- The reference: Fates, Count, named, through, Through. -/
import Derived.Test.YtplpogonkfnafaaNmFt
import Derived.Test.YtplpogonkfnafaaNmFp
import Derived.Test.YtplpogonkfnafaaNmRm
namespace Go.Proofs.Ytplpogonkfnafaa
open Go.RowKit Go.Nm

set_option maxRecDepth 100000 in
set_option maxHeartbeats 8000000 in
theorem rFates_any (v vc : Value) (b : Bk) (w : World) (hv : BkV w v b vc) (hs : Sm b) :
    Calls Try.prog 30 #[v] w (OutV (fatesOut b).1 (fatesOut b).2 w) := by
  obtain ⟨A1, c1, A2, c2, W0, rfl, rfl, hW0, hb0, hB0, hx⟩ := bk_box hv
  have HB0 := Lib.hid hb0
  have HBk := Lib.hid hB0
  have HX := Lib.hid hx
  have HW0 := Lib.hid hW0
  have HS := Lib.hid hs
  clear hb0 hB0 hx hW0 hs hv
  obtain ⟨k0, k1⟩ := HX.out W0 (Below.refl _ _)
  have HV := Lib.hid (rValid_any _ _ b W0 HBk.out HS.out)
  have hE : fatesOut b = if Val b then (if rich b then ([], 2) else (allF b, 0)) else ([], 20) := by
    unfold fatesOut; rw [openE_empty]; by_cases h : Val b <;> simp [h]
  generalize fatesOut b = o at *
  obtain ⟨oR, oE⟩ := o
  dsimp only
  by_cases hval : Val b
  · rw [decide_eq_true hval] at HV
    rw [if_pos hval] at hE
    have HF := Lib.hid (fun Y (h : Below W0.heap.size W0 Y) => rfates_any _ _ b Y (HBk.out.step h) HS.out hval)
    clear hval HBk HS
    cases hr : rich b with
    | true =>
      rw [hr] at hE
      simp only [hr] at HF
      simp only [Bool.not_true, if_true] at HF hE
      injection hE with h1 h2
      subst h1 h2
      clear hr
      go_enter Try.func30, Try.ntmps30
      go_wp2_with fail
      rw [HW0.out]
      (with_reducible refine (HV.out).mono ?_)
      rintro e w1 ⟨rfl, hb⟩
      have HB1 := Lib.hid (hb)
      clear hb
      clear k0 k1
      obtain ⟨k0, k1⟩ := HX.out w1 HB1.out
      go_wp2_with fail
      (with_reducible refine (HF.out w1 HB1.out).mono ?_)
      rintro e w2 ⟨⟨u, rfl, hu⟩, hb⟩
      have HB2 := Lib.hid (HB0.out.trans ((HB1.out.trans (hb.mono HB1.out.size)).mono HB0.out.size))
      clear hu hb
      go_wp2_with fail
      go_ret2
      exact OutV.nil HB2.out
    | false =>
      rw [hr] at hE
      simp only [hr] at HF
      simp only [Bool.not_false, Bool.false_eq_true, if_false] at HF hE
      injection hE with h1 h2
      subst h1 h2
      clear hr
      go_enter Try.func30, Try.ntmps30
      go_wp2_with fail
      rw [HW0.out]
      (with_reducible refine (HV.out).mono ?_)
      rintro e w1 ⟨rfl, hb⟩
      have HB1 := Lib.hid (hb)
      clear hb
      clear k0 k1
      obtain ⟨k0, k1⟩ := HX.out w1 HB1.out
      go_wp2_with fail
      (with_reducible refine (HF.out w1 HB1.out).mono ?_)
      rintro e w2 ⟨⟨u, rfl, hu⟩, hb⟩
      have HU := Lib.hid hu
      have HB2 := Lib.hid (HB0.out.trans ((HB1.out.trans (hb.mono HB1.out.size)).mono HB0.out.size))
      clear hu hb
      go_wp2_with fail
      go_ret2
      exact ⟨⟨_, rfl, HU.out⟩, HB2.out⟩
  · rw [decide_eq_false hval] at HV
    rw [if_neg hval] at hE
    injection hE with h1 h2
    subst h1 h2
    clear hval HBk
    go_enter Try.func30, Try.ntmps30
    go_wp2_with fail
    rw [HW0.out]
    (with_reducible refine (HV.out).mono ?_)
    rintro e w1 ⟨rfl, hb⟩
    have HB1 := Lib.hid (hb)
    clear hb
    go_wp2_with fail
    go_ret2
    exact OutV.nil (HB0.out.trans (HB1.out.mono HB0.out.size))
theorem count_fates (b : Bk) : countOut b = (((fatesOut b).1.length : Int), (fatesOut b).2) := by
  unfold countOut fatesOut
  by_cases h1 : openE b [] = 0
  · rw [if_pos h1, if_pos h1]
    cases hr : rich b with
    | true => rfl
    | false =>
      have hv : Val b := by
        rw [openE_empty] at h1
        by_cases hv : Val b
        · exact hv
        · rw [if_neg hv] at h1; cases h1
      simp only [Bool.false_eq_true, if_false]
      rw [← fates_count hv hr]
      rfl
  · rw [if_neg h1, if_neg h1]; rfl
set_option maxRecDepth 100000 in
set_option maxHeartbeats 8000000 in
theorem rCount_any (v vc : Value) (b : Bk) (w : World) (hv : BkV w v b vc) (hs : Sm b) :
    Calls Try.prog 32 #[v] w (OutI (countOut b).1 (countOut b).2 w) := by
  rw [count_fates]
  obtain ⟨A1, c1, A2, c2, W0, rfl, rfl, hW0, hb0, hB0, hx⟩ := bk_box hv
  have HB0 := Lib.hid hb0
  have HBk := Lib.hid hB0
  have HX := Lib.hid hx
  have HW0 := Lib.hid hW0
  have HS := Lib.hid hs
  clear hb0 hB0 hx hW0 hs hv
  obtain ⟨k0, k1⟩ := HX.out W0 (Below.refl _ _)
  have HF := Lib.hid (rFates_any _ _ b W0 HBk.out HS.out)
  generalize fatesOut b = o at *
  obtain ⟨oR, oE⟩ := o
  dsimp only
  clear HBk HS
  go_enter Try.func32, Try.ntmps32
  go_wp2_with fail
  rw [HW0.out]
  (with_reducible refine HF.out.mono ?_)
  rintro e w2 ⟨⟨u, rfl, hu⟩, hb⟩
  have HB2 := Lib.hid (HB0.out.trans (hb.mono HB0.out.size))
  obtain ⟨Au, cu, rfl⟩ := hu.form
  clear hu hb
  go_wp2_with fail
  go_ret2
  exact ⟨rfl, HB2.out⟩
theorem named_open (b : Bk) (n x m : Int) : openAtE b [m] n x = if openE b [n, m] = 0 then (if x ∈ rverF b n.toNat then 0 else 22) else openE b [n, m] := by
  unfold openAtE
  have e : openE b ([m] ++ [n]) = openE b [n, m] := by rw [List.singleton_append]; exact openE_two b n m
  rw [e]
  by_cases h : openE b [n, m] = 0
  · rw [if_pos h, if_pos h]
    obtain ⟨hv, hV⟩ := openE_val h
    have hn := hV n (by simp)
    rw [val_len hv] at hn
    have : (vers b).getD n.toNat [] = rverF b n.toNat := by
      rw [List.getD_eq_getElem?_getD, rver_is hv (by omega)]; rfl
    rw [this]
  · rw [if_neg h, if_neg h]
theorem openAt_one (b : Bk) (n x : Int) : openAtE b [n] n x = openAtE b [] n x := by
  unfold openAtE
  rw [List.singleton_append, List.nil_append, openE_one]
set_option maxRecDepth 100000 in
set_option maxHeartbeats 8000000 in
theorem rnamed_any (v vc : Value) (b : Bk) (n x m : Int) (w : World) (hv : BkV w v b vc) (hs : Sm b) :
    Calls Try.prog 74 #[v, .int .i64 n, .int .i64 x, .int .i64 m] w fun e w' => e = .returned (.int .i64 (openAtE b [m] n x)) ∧ Below w.heap.size w w' := by
  obtain ⟨A1, c1, A2, c2, W0, rfl, rfl, hW0, hb0, hB0, hx⟩ := bk_box hv
  have HB0 := Lib.hid hb0
  have HBk := Lib.hid hB0
  have HX := Lib.hid hx
  have HW0 := Lib.hid hW0
  have HS := Lib.hid hs
  clear hb0 hB0 hx hW0 hs hv
  obtain ⟨k0, k1⟩ := HX.out W0 (Below.refl _ _)
  have HV := Lib.hid (rversions_any _ _ b n m W0 HBk.out HS.out)
  have hE := named_open b n x m
  have hZ := openE_val (b := b) (V := [n, m])
  generalize openAtE b [m] n x = o at *
  generalize openE b [n, m] = er at *
  by_cases he : er = 0
  · subst he
    rw [if_pos rfl] at hE
    obtain ⟨hval, hV⟩ := hZ rfl
    have hn := hV n (by simp)
    rw [val_len hval] at hn
    obtain ⟨k, rfl⟩ : ∃ k : Nat, n = (k : Int) := ⟨n.toNat, by omega⟩
    rw [Int.toNat_natCast] at hE
    have hk : k ≤ b.chs.length := by omega
    have HVe := Lib.hid (fun Y (h : Below W0.heap.size W0 Y) => rVersion_any _ _ b k Y (HBk.out.step h) HS.out hval.1 hk)
    have HLe := Lib.hid (rver_len HS.out k hk)
    have hk64 : k ≤ 64 := by have := hval.1; omega
    clear hV hn hval HBk hZ
    by_cases hx : x ∈ rverF b k
    · rw [if_pos hx] at hE
      subst hE
      go_enter Try.func74, Try.ntmps74
      go_wp2_with fail
      rw [HW0.out]
      (with_reducible refine (HV.out).mono ?_)
      rintro e w1 ⟨rfl, hb⟩
      have HB1 := Lib.hid (hb)
      clear hb
      clear k0 k1
      obtain ⟨k0, k1⟩ := HX.out w1 HB1.out
      go_wp2_with fail
      (with_reducible refine (HVe.out w1 HB1.out).mono ?_)
      rintro e w2 ⟨⟨r, rfl, hr⟩, hb⟩
      have HHa := Lib.hid (rhas_any r (rverF b k) x w2 hr (by have := HLe.out; omega))
      rw [decide_eq_true hx] at HHa
      have HB2 := Lib.hid (HB0.out.trans ((HB1.out.trans (hb.mono HB1.out.size)).mono HB0.out.size))
      obtain ⟨Ar, cr, rfl, _⟩ := hr.form
      clear hr hb
      go_wp2_with fail
      (with_reducible refine HHa.out.mono ?_)
      rintro e w3 ⟨rfl, hb⟩
      have HB3 := Lib.hid (HB2.out.trans (hb.mono HB2.out.size))
      clear hb
      go_wp2_with fail
      go_ret
      exact ⟨rfl, HB3.out⟩
    · rw [if_neg hx] at hE
      subst hE
      go_enter Try.func74, Try.ntmps74
      go_wp2_with fail
      rw [HW0.out]
      (with_reducible refine (HV.out).mono ?_)
      rintro e w1 ⟨rfl, hb⟩
      have HB1 := Lib.hid (hb)
      clear hb
      clear k0 k1
      obtain ⟨k0, k1⟩ := HX.out w1 HB1.out
      go_wp2_with fail
      (with_reducible refine (HVe.out w1 HB1.out).mono ?_)
      rintro e w2 ⟨⟨r, rfl, hr⟩, hb⟩
      have HHa := Lib.hid (rhas_any r (rverF b k) x w2 hr (by have := HLe.out; omega))
      rw [decide_eq_false hx] at HHa
      have HB2 := Lib.hid (HB0.out.trans ((HB1.out.trans (hb.mono HB1.out.size)).mono HB0.out.size))
      obtain ⟨Ar, cr, rfl, _⟩ := hr.form
      clear hr hb
      go_wp2_with fail
      (with_reducible refine HHa.out.mono ?_)
      rintro e w3 ⟨rfl, hb⟩
      have HB3 := Lib.hid (HB2.out.trans (hb.mono HB2.out.size))
      clear hb
      go_wp2_with fail
      go_ret
      exact ⟨rfl, HB3.out⟩
  · rw [if_neg he] at hE
    subst hE
    have hb2 : (o == 0) = false := by simpa using he
    clear hZ HBk
    go_enter Try.func74, Try.ntmps74
    go_wp2_with fail
    rw [HW0.out]
    (with_reducible refine (HV.out).mono ?_)
    rintro e w1 ⟨rfl, hb⟩
    have HB1 := Lib.hid (hb)
    clear hb
    go_wp2_with fail
    go_ret
    exact ⟨rfl, HB0.out.trans (HB1.out.mono HB0.out.size)⟩
theorem thr_next {n : Nat} {x : Int} {fs : List (List Int)} {i : Nat} {f : List Int} {z : Int} (h : fs[i]? = some f) (hz : f[n]? = some z) : thr n x (fs.take (i + 1)) = thr n x (fs.take i) ++ (if z = x then [(i : Int)] else []) := by
  have hi := (List.getElem?_eq_some_iff.1 h).1
  rw [show fs.take (i + 1) = fs.take i ++ [f] from by rw [List.take_add_one, h]; rfl, thr_snoc, hz, List.length_take, Nat.min_eq_left (by omega)]
  by_cases e : z = x <;> simp [e]
set_option maxRecDepth 100000 in
set_option maxHeartbeats 8000000 in
theorem rthrough_any (u : Value) (fs : List (List Int)) (n : Nat) (x : Int) (w : World) (hu : VsSl w w.heap.size u fs) (hf : ∀ f ∈ fs, n < f.length) (hl : fs.length ≤ 100000) :
    Calls Try.prog 75 #[u, .int .i64 n, .int .i64 x] w fun e w' => (∃ r, e = .returned r ∧ InSl w' w'.heap.size r (thr n x fs)) ∧ Below w.heap.size w w' := by
  have HU := Lib.hid hu
  have HF := Lib.hid hf
  obtain ⟨A, c, rfl⟩ := hu.form
  obtain ⟨R, hR⟩ : ∃ R, thr n x fs = R := ⟨_, rfl⟩
  rw [hR]
  have HR := Lib.hid hR
  obtain ⟨nl, hnl⟩ : ∃ nl, fs.length = nl := ⟨_, rfl⟩
  have HNl := Lib.hid hnl
  rw [hnl] at HU hl ⊢
  clear hu hf hR hnl
  go_enter Try.func75, Try.ntmps75
  go_wp2_with fail
  go_loopw [7, 8] (fun ov iv wr => ∃ i : Nat, iv = .int .i64 (i : Int) ∧ i ≤ nl ∧ OwN w ov (thr n x (fs.take i)) wr) (fun _ iv _ => nl - (intOf iv).toNat)
  case atStart => exact ⟨0, rfl, by omega, OwN.start _⟩
  case round =>
    obtain ⟨i, rfl, hin, hO⟩ := hrel
    have HO := Lib.hid hO
    clear hO
    by_cases hlt : i < nl
    · obtain ⟨ad, ug, f, rfl, hbd, hfi, hcg, hgS⟩ := (HU.out.below HO.out.bel).at_ hlt
      have hfl := HF.out f (List.mem_of_getElem? hfi)
      obtain ⟨z, hz⟩ : ∃ z, f[n]? = some z := ⟨_, List.getElem?_eq_getElem hfl⟩
      have HN := Lib.hid (thr_next (x := x) hfi hz)
      have HLe := Lib.hid (Nat.le_trans (thr_len n x (fs.take i)) (by rw [List.length_take]; have := HNl.out; omega : (fs.take i).length ≤ 100000))
      obtain ⟨Ag, cg, rfl, _⟩ := hgS.form
      have hgi : InA wr w.heap.size Ag f := by obtain ⟨_, _, e, _, _, h⟩ := hgS; cases e; exact h
      obtain ⟨adg, rfl, hadg, hcz⟩ := hgi n z hz
      have hi1 : (i : Int) < (nl : Int) := by omega
      obtain ⟨m, hm⟩ : ∃ m, f.length = m := ⟨_, rfl⟩
      rw [hm] at hcg hfl
      have hn1 : (n : Int) < (m : Int) := by omega
      clear hfi hz hgS hgi hbd hadg hm
      by_cases e : z = x
      · rw [if_pos e] at HN
        subst e
        go_wp2_with (at_builtin; refine wpList_appN rfl _ _ rfl (HO.out.step (below_new _)) rfl rfl (one_sl _ (i : Int)) (by have := HLe.out; simp only [List.length_singleton]; omega) ?_; intro v5 w5 hO5 hg5; have HO5 := Lib.hid hO5; clear hO5 hg5)
        go_roundw
        case rel => exact ⟨i + 1, by go_num, by omega, by rw [HN.out]; exact HO5.out⟩
        case measure => simp [intOf]; omega
      · rw [if_neg e, List.append_nil] at HN
        have hb2 : (z == x) = false := by simpa using e
        go_wp2_with fail
        go_roundw
        case rel => exact ⟨i + 1, by go_num, by omega, by rw [HN.out]; exact HO.out⟩
        case measure => simp [intOf]; omega
    · have HE := Lib.hid (show thr n x (fs.take i) = R from by rw [List.take_of_length_le (by have := HNl.out; omega)]; exact HR.out)
      have hi1 : ¬ (i : Int) < (nl : Int) := by omega
      go_wp2_with fail
      go_ret
      exact ⟨⟨_, rfl, by rw [← HE.out]; exact HO.out.sl⟩, HO.out.bel⟩
theorem all_long {b : Bk} {n : Nat} (hn : n ≤ b.chs.length) : ∀ f ∈ allF b, n < f.length := fun f hf => by
  have := (mem_all.1 hf).1
  omega
set_option maxRecDepth 100000 in
set_option maxHeartbeats 8000000 in
theorem rThrough_any (v vc : Value) (b : Bk) (n x : Int) (w : World) (hv : BkV w v b vc) (hs : Sm b) :
    Calls Try.prog 34 #[v, .int .i64 n, .int .i64 x] w (OutN (throughOut b n x).1 (throughOut b n x).2 w) := by
  obtain ⟨A1, c1, A2, c2, W0, rfl, rfl, hW0, hb0, hB0, hx⟩ := bk_box hv
  have HB0 := Lib.hid hb0
  have HBk := Lib.hid hB0
  have HX := Lib.hid hx
  have HW0 := Lib.hid hW0
  have HS := Lib.hid hs
  clear hb0 hB0 hx hW0 hs hv
  obtain ⟨k0, k1⟩ := HX.out W0 (Below.refl _ _)
  have HV := Lib.hid (rnamed_any _ _ b n x n W0 HBk.out HS.out)
  rw [openAt_one] at HV
  have hE : throughOut b n x = if openAtE b [] n x = 0 then (if rich b then ([], 2) else (thr n.toNat x (allF b), 0)) else ([], openAtE b [] n x) := rfl
  have hZ := openAtE_zero (b := b) (V := []) (n := n) (x := x)
  generalize throughOut b n x = o at *
  obtain ⟨oR, oE⟩ := o
  dsimp only
  generalize openAtE b [] n x = er at *
  by_cases he : er = 0
  · subst he
    obtain ⟨hval, hV, _⟩ := hZ rfl
    have hn := hV n (by simp)
    obtain ⟨k, rfl⟩ : ∃ k : Nat, n = (k : Int) := ⟨n.toNat, by omega⟩
    have hk : k ≤ b.chs.length := by omega
    rw [if_pos rfl, Int.toNat_natCast] at hE
    have HF := Lib.hid (fun Y (h : Below W0.heap.size W0 Y) => rfates_any _ _ b Y (HBk.out.step h) HS.out hval)
    have HT := Lib.hid (fun u Y (h : VsSl Y Y.heap.size u (allF b)) (hr : rich b = false) => rthrough_any u (allF b) k x Y h (all_long hk) (fates_few hval hr))
    clear hV hn hZ HBk HS hval hk
    cases hr : rich b with
    | true =>
      rw [hr] at hE
      simp only [hr] at HF
      simp only [Bool.not_true, if_true] at HF hE
      injection hE with h1 h2
      subst h1 h2
      clear hr HT
      go_enter Try.func34, Try.ntmps34
      go_wp2_with fail
      rw [HW0.out]
      (with_reducible refine (HV.out).mono ?_)
      rintro e w1 ⟨rfl, hb⟩
      have HB1 := Lib.hid (hb)
      clear hb
      clear k0 k1
      obtain ⟨k0, k1⟩ := HX.out w1 HB1.out
      go_wp2_with fail
      (with_reducible refine (HF.out w1 HB1.out).mono ?_)
      rintro e w2 ⟨⟨u, rfl, hu⟩, hb⟩
      have HB2 := Lib.hid (HB0.out.trans ((HB1.out.trans (hb.mono HB1.out.size)).mono HB0.out.size))
      clear hu hb
      go_wp2_with fail
      go_ret2
      exact OutN.nil HB2.out
    | false =>
      rw [hr] at hE
      simp only [hr] at HF
      simp only [Bool.not_false, Bool.false_eq_true, if_false] at HF hE
      have HT := Lib.hid (fun u Y h => HT.out u Y h hr)
      injection hE with h1 h2
      subst h2
      rw [← h1] at HT
      clear hr h1
      go_enter Try.func34, Try.ntmps34
      go_wp2_with fail
      rw [HW0.out]
      (with_reducible refine (HV.out).mono ?_)
      rintro e w1 ⟨rfl, hb⟩
      have HB1 := Lib.hid (hb)
      clear hb
      clear k0 k1
      obtain ⟨k0, k1⟩ := HX.out w1 HB1.out
      go_wp2_with fail
      (with_reducible refine (HF.out w1 HB1.out).mono ?_)
      rintro e w2 ⟨⟨u, rfl, hu⟩, hb⟩
      have HB2 := Lib.hid (HB0.out.trans ((HB1.out.trans (hb.mono HB1.out.size)).mono HB0.out.size))
      have HTu := Lib.hid (HT.out u w2 hu)
      clear hu hb
      go_wp2_with fail
      (with_reducible refine HTu.out.mono ?_)
      rintro e w3 ⟨⟨r, rfl, hr⟩, hb⟩
      have HR := Lib.hid hr
      have HB3 := Lib.hid (HB2.out.trans (hb.mono HB2.out.size))
      clear hr hb
      go_wp2_with fail
      go_ret2
      exact OutN.mk HR.out HB3.out
  · rw [if_neg he] at hE
    injection hE with h1 h2
    subst h1 h2
    have hb2 : (oE == 0) = false := by simpa using he
    have hb3 : (oE != 0) = true := by simpa using he
    clear hZ HBk
    go_enter Try.func34, Try.ntmps34
    go_wp2_with fail
    rw [HW0.out]
    (with_reducible refine (HV.out).mono ?_)
    rintro e w1 ⟨rfl, hb⟩
    have HB1 := Lib.hid (hb)
    clear hb
    go_wp2_with fail
    go_ret2
    exact OutN.nil (HB0.out.trans (HB1.out.mono HB0.out.size))
end Go.Proofs.Ytplpogonkfnafaa
