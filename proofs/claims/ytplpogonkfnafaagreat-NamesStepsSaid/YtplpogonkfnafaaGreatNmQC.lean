
/- The reference of names: Check, Valid, versions, Version, Last, VersionOf, Names, Has, Kind. -/
import Derived.Test.YtplpogonkfnafaaGreatNmQB
import Derived.Test.YtplpogonkfnafaaGreatNmKi
namespace Go.Proofs.YtplpogonkfnafaaGreat
open Go.RowKit Go.Nm

/-- a change of the book, whole, in whatever later world -/
theorem ch_all {W0 : World} {A : Option Addr} {n c : Nat} {L : List Ch} (h : ChSl W0 W0.heap.size (.slice A n c) L) {i : Nat} (hi : i < n) : ∃ (x : Ch) (ad : Addr) (Af At : Option Addr) (cf ct : Nat), L[i]? = some x ∧ A = some ad ∧
    ∀ Y, Below W0.heap.size W0 Y → (Y.cell? (ad.add (i * 3)) = some (.int .i64 x.yr) ∧ Y.cell? ⟨(ad.add (i * 3)).block, (ad.add (i * 3)).off + 1, none⟩ = some (.slice Af x.fr.length cf) ∧ Y.cell? ⟨(ad.add (i * 3)).block, (ad.add (i * 3)).off + 2, none⟩ = some (.slice At x.to.length ct)) ∧
      InSl Y Y.heap.size (.slice Af x.fr.length cf) x.fr ∧ InSl Y Y.heap.size (.slice At x.to.length ct) x.to := by
  obtain ⟨x, ad, vf, vt, hx, ha, hb, d0, d1, d2, hf, ht⟩ := h.at_ hi
  obtain ⟨Af, cf, rfl, _⟩ := hf.form
  obtain ⟨At, ct, rfl, _⟩ := ht.form
  have hb' : (ad.add (i * 3)).block < W0.heap.size := by rw [add_block]; exact hb
  exact ⟨x, ad, Af, At, cf, ct, hx, ha, fun Y hY => ⟨⟨(hY.cell hb').trans d0, (hY.cell (p := ⟨(ad.add (i * 3)).block, _, none⟩) hb').trans d1, (hY.cell (p := ⟨(ad.add (i * 3)).block, _, none⟩) hb').trans d2⟩, hf.step hY, ht.step hY⟩⟩
theorem rnext_len (l : List Int) (x : Ch) : (rnextF l x).length ≤ l.length + x.to.length := by
  unfold rnextF
  have := puts_len x.to (l.filter fun z => !decide (z ∈ x.fr))
  have := List.length_filter_le (fun z => !decide (z ∈ x.fr)) l
  omega
theorem rchk_next {L : List Int} {y : Int} {i : Nat} {l : List Ch} {x : Ch} (h : l[i]? = some x) : rchk L y i (l.drop i) = if rfitsF L y x then rchk (rnextF L x) x.yr (i + 1) (l.drop (i + 1)) else (20, ((i + 1 : Nat) : Int)) := by
  obtain ⟨hk, rfl⟩ := List.getElem?_eq_some_iff.1 h
  rw [List.drop_eq_getElem_cons hk]; rfl
set_option maxRecDepth 100000 in
set_option maxHeartbeats 8000000 in
theorem rCheck_any (v vc : Value) (b : Bk) (w : World) (hv : BkV w v b vc) (hs : Sm b) :
    Calls Tryz.prog 74 #[v] w (OutI (rcheckOut b).1 (rcheckOut b).2 w) := by
  obtain ⟨v1, rfl, h1, h2⟩ := hv
  obtain ⟨A1, c1, rfl, _⟩ := h1.form
  obtain ⟨A2, c2, rfl⟩ := h2.form
  obtain ⟨W0, hW0⟩ : ∃ W0, w.alloc (.cells #[.slice A1 b.first.length c1, .slice A2 b.chs.length c2] 25) = W0 := ⟨_, rfl⟩
  have hb0 : Below w.heap.size w W0 := by rw [← hW0]; exact below_new _
  have HB0 := Lib.hid hb0
  have HS := Lib.hid hs
  have HF := Lib.hid (h1.step hb0)
  have HCh := Lib.hid (h2.step hb0)
  have HBx := Lib.hid (show ∀ Y, Below W0.heap.size W0 Y → Y.cell? ⟨w.heap.size, 0, none⟩ = some (.slice A1 b.first.length c1) ∧ Y.cell? ⟨w.heap.size, 1, none⟩ = some (.slice A2 b.chs.length c2) from fun Y hY => by
    have h := World.alloc_heap_new w (.cells #[.slice A1 b.first.length c1, .slice A2 b.chs.length c2] 25)
    rw [hW0] at h
    exact cells_two ((hY.block _ (Array.getElem?_eq_some_iff.1 h).1).trans h))
  have HM := Lib.hid (show rcheckOut b = if b.chs.length ≤ 64 then (if Ver b.first then rchk b.first 0 0 b.chs else (20, 0)) else (2, 0) from rfl)
  generalize rcheckOut b = o at *
  obtain ⟨oE, oI⟩ := o
  dsimp only
  obtain ⟨nf, hnf⟩ : ∃ nf, b.first.length = nf := ⟨_, rfl⟩
  have HNf := Lib.hid hnf
  obtain ⟨len, hlen⟩ : ∃ len, b.chs.length = len := ⟨_, rfl⟩
  have HLn := Lib.hid hlen
  rw [hnf, hlen] at hW0 HBx ⊢
  rw [hnf] at HF
  rw [hlen] at HCh HM
  have hl1 : len ≤ 1000 := by have := hs.2.1; omega
  have HLi := Lib.hid (fun Y (h : Below W0.heap.size W0 Y) => rlist_any (.slice A1 nf c1) b.first Y (HF.out.step h) (by have := hs.1; omega))
  have HW0 := Lib.hid hW0
  clear h1 h2 hb0 hW0 hs hnf hlen
  obtain ⟨k0, k1⟩ := HBx.out W0 (Below.refl _ _)
  by_cases hlen64 : len ≤ 64
  · have hM := HM.out
    rw [if_pos hlen64] at hM
    have HM := Lib.hid hM
    have h64i : ¬ (64 : Int) < (len : Int) := by omega
    clear hM
    go_enter Tryz.func74, Tryz.ntmps74
    go_wp2_with fail
    rw [HW0.out]
    by_cases hVf : Ver b.first
    · simp only [decide_eq_true hVf] at HLi
      have hM := HM.out
      rw [if_pos hVf] at hM
      have HM := Lib.hid hM
      clear hM hVf
      (with_reducible refine (HLi.out _ (Below.refl _ _)).mono ?_)
      rintro e w1 ⟨rfl, hb⟩
      have HB1 := Lib.hid hb
      clear hb k0 k1
      obtain ⟨k0, k1⟩ := HBx.out w1 HB1.out
      go_wp2_with fail
      go_loopw [4, 5, 6] (fun lv yv iv wr => ∃ (i : Nat) (L : List Int) (y : Int), iv = .int .i64 (i : Int) ∧ i ≤ len ∧ yv = .int .i64 y ∧ InSl wr wr.heap.size lv L ∧ L.length ≤ 1000 + 1000 * i ∧ rchk L y i (b.chs.drop i) = (oE, oI) ∧ Below W0.heap.size W0 wr) (fun _ _ iv _ => len - (intOf iv).toNat)
      case atStart => exact ⟨0, b.first, 0, rfl, by omega, rfl, HF.out.step HB1.out, by have := HS.out.1; omega, HM.out.symm, HB1.out⟩
      case round =>
        obtain ⟨i, L, y, rfl, hil, rfl, hL, hLl, hE, hb⟩ := hrel
        have HL := Lib.hid hL
        have HE := Lib.hid hE
        have HBr := Lib.hid hb
        obtain ⟨Al, cl, rfl, _⟩ := hL.form
        clear k0 k1 hL hE hb
        obtain ⟨k0, k1⟩ := HBx.out wr HBr.out
        by_cases hlt : i < len
        · obtain ⟨x, ad, Af, At, cf, ct, hx, rfl, hcd⟩ := ch_all HCh.out hlt
          have HSx := Lib.hid (HS.out.2.2 x (List.mem_of_getElem? hx))
          have hE := HE.out
          rw [rchk_next hx] at hE
          have HE := Lib.hid hE
          have HCd := Lib.hid hcd
          have hL7 : L.length ≤ 70000 := by omega
          have HFt := Lib.hid (rfits_any _ _ _ L y x wr HL.out (hcd wr HBr.out).2.1 (hcd wr HBr.out).2.2 (by omega) (by have := HSx.out.1; omega) (by have := HSx.out.2; omega))
          have HNx := Lib.hid (fun Y (h : Below wr.heap.size wr Y) => rnext_any _ _ _ L x Y (HL.out.step h) (hcd Y (HBr.out.trans (h.mono HBr.out.size))).2.1 (hcd Y (HBr.out.trans (h.mono HBr.out.size))).2.2 (by omega) (by have := HSx.out.1; omega) (by have := HSx.out.2; omega))
          obtain ⟨⟨d0, d1, d2⟩, _, _⟩ := hcd wr HBr.out
          have HRl := Lib.hid (rnext_len L x)
          have hilt : (i : Int) < (len : Int) := by omega
          have hwi : IntKind.i64.wrap ((i : Int) + 1) = (i : Int) + 1 := by rw [IntKind.wrap_i64]; omega
          clear hx hcd
          by_cases hfit : rfitsF L y x
          · rw [decide_eq_true hfit] at HFt
            have hE := HE.out
            rw [if_pos hfit] at hE
            have HE := Lib.hid hE
            clear hE hfit
            go_wp2_with fail
            (with_reducible refine HFt.out.mono ?_)
            rintro e w2 ⟨rfl, hb⟩
            have HB2 := Lib.hid hb
            have HBa := Lib.hid (HBr.out.trans (hb.mono HBr.out.size))
            clear k0 k1 d0 d1 d2 hb
            obtain ⟨k0, k1⟩ := HBx.out w2 HBa.out
            obtain ⟨⟨d0, d1, d2⟩, _, _⟩ := HCd.out w2 HBa.out
            have HNy := Lib.hid (HNx.out w2 HB2.out)
            go_wp2_with fail
            (with_reducible refine HNy.out.mono ?_)
            rintro e w3 ⟨⟨r, rfl, hr⟩, hb⟩
            have HR3 := Lib.hid hr
            have HB3 := Lib.hid (HBa.out.trans (hb.mono HBa.out.size))
            clear k0 k1 d0 d1 d2 hb hr
            obtain ⟨k0, k1⟩ := HBx.out w3 HB3.out
            obtain ⟨⟨d0, d1, d2⟩, _, _⟩ := HCd.out w3 HB3.out
            go_wp2_with fail
            go_roundw
            case rel => exact ⟨i + 1, rnextF L x, x.yr, by go_num, by omega, rfl, HR3.out, by have := HRl.out; have := HSx.out.2; omega, HE.out, HB3.out⟩
            case measure => simp [intOf]; omega
          · rw [decide_eq_false hfit] at HFt
            have hE := HE.out
            rw [if_neg hfit] at hE
            injection hE with hE1 hE2
            subst hE1 hE2
            clear HE hfit
            go_wp2_with fail
            (with_reducible refine HFt.out.mono ?_)
            rintro e w2 ⟨rfl, hb⟩
            have HBa := Lib.hid (HBr.out.trans (hb.mono HBr.out.size))
            clear k0 k1 d0 d1 d2 hb
            go_wp2_with fail
            go_ret2
            exact ⟨by simp, HB0.out.trans (HBa.out.mono HB0.out.size)⟩
        · have hi : i = len := by omega
          have hE := HE.out
          rw [List.drop_eq_nil_of_le (by have := HLn.out; omega)] at hE
          have hE' : ((0 : Int), (0 : Int)) = (oE, oI) := hE
          injection hE' with hE1 hE2
          subst hE1 hE2
          clear HE hE HM
          go_wp2_with fail
          go_ret2
          exact ⟨rfl, HB0.out.trans (HBr.out.mono HB0.out.size)⟩
    · simp only [decide_eq_false hVf] at HLi
      have hM := HM.out
      rw [if_neg hVf] at hM
      injection hM with hM1 hM2
      subst hM1 hM2
      clear hVf HM
      (with_reducible refine (HLi.out _ (Below.refl _ _)).mono ?_)
      rintro e w1 ⟨rfl, hb⟩
      have HB1 := Lib.hid hb
      clear hb
      go_wp2_with fail
      go_ret2
      exact ⟨rfl, HB0.out.trans (HB1.out.mono HB0.out.size)⟩
  · have hM := HM.out
    rw [if_neg hlen64] at hM
    injection hM with hM1 hM2
    subst hM1 hM2
    clear HM
    have h64i : (64 : Int) < (len : Int) := by omega
    go_enter Tryz.func74, Tryz.ntmps74
    go_wp2_with fail
    rw [HW0.out]
    go_ret2
    exact ⟨rfl, HB0.out⟩
end Go.Proofs.YtplpogonkfnafaaGreat
namespace Go.Proofs.YtplpogonkfnafaaGreat
open Go.RowKit Go.Nm

/-- a book as an argument: boxed first -/
theorem bk_box {w : World} {v vc : Value} {b : Bk} (hv : BkV w v b vc) : ∃ (A1 : Option Addr) (c1 : Nat) (A2 : Option Addr) (c2 : Nat) (W0 : World), v = .agg #[.slice A1 b.first.length c1, .slice A2 b.chs.length c2] ∧ vc = .slice A2 b.chs.length c2 ∧
    w.alloc (.cells #[.slice A1 b.first.length c1, .slice A2 b.chs.length c2] 25) = W0 ∧ Below w.heap.size w W0 ∧ BkV W0 (.agg #[.slice A1 b.first.length c1, .slice A2 b.chs.length c2]) b (.slice A2 b.chs.length c2) ∧
    ∀ Y, Below W0.heap.size W0 Y → Y.cell? ⟨w.heap.size, 0, none⟩ = some (.slice A1 b.first.length c1) ∧ Y.cell? ⟨w.heap.size, 1, none⟩ = some (.slice A2 b.chs.length c2) := by
  have hv0 := hv
  obtain ⟨v1, rfl, h1, h2⟩ := hv
  obtain ⟨A1, c1, rfl, _⟩ := h1.form
  obtain ⟨A2, c2, rfl⟩ := h2.form
  refine ⟨A1, c1, A2, c2, _, rfl, rfl, rfl, below_new _, hv0.step (below_new _), fun Y hY => ?_⟩
  have h := World.alloc_heap_new w (.cells #[.slice A1 b.first.length c1, .slice A2 b.chs.length c2] 25)
  exact cells_two ((hY.block _ (Array.getElem?_eq_some_iff.1 h).1).trans h)
set_option maxRecDepth 100000 in
set_option maxHeartbeats 8000000 in
theorem rValid_any (v vc : Value) (b : Bk) (w : World) (hv : BkV w v b vc) (hs : Sm b) :
    Calls Tryz.prog 48 #[v] w fun e w' => e = .returned (.bool (decide (Val b))) ∧ Below w.heap.size w w' := by
  obtain ⟨A1, c1, A2, c2, W0, rfl, rfl, hW0, hb0, hB0, hx⟩ := bk_box hv
  have HB0 := Lib.hid hb0
  have HBk := Lib.hid hB0
  have HX := Lib.hid hx
  have HW0 := Lib.hid hW0
  have HS := Lib.hid hs
  clear hb0 hB0 hx hW0 hs hv
  obtain ⟨k0, k1⟩ := HX.out W0 (Below.refl _ _)
  have HC := Lib.hid (rCheck_any _ _ b W0 HBk.out HS.out)
  have HV := Lib.hid (rcheck_val b)
  generalize rcheckOut b = o at *
  obtain ⟨oE, oI⟩ := o
  dsimp only at *
  clear HBk HS
  by_cases he : oE = 0
  · have HF := Lib.hid (show decide (Val b) = true from decide_eq_true (HV.out.1 he))
    subst he
    go_enter Tryz.func48, Tryz.ntmps48
    go_wp2_with fail
    rw [HW0.out]
    (with_reducible refine HC.out.mono ?_)
    rintro e w1 ⟨rfl, hb⟩
    have HB := Lib.hid hb
    clear hb
    go_wp2_with fail
    go_ret
    exact ⟨ret_b HF.out.symm, HB0.out.trans (HB.out.mono HB0.out.size)⟩
  · have HF := Lib.hid (show decide (Val b) = false from decide_eq_false fun h => he (HV.out.2 h))
    have hb2 : (oE == 0) = false := by simpa using he
    go_enter Tryz.func48, Tryz.ntmps48
    go_wp2_with fail
    rw [HW0.out]
    (with_reducible refine HC.out.mono ?_)
    rintro e w1 ⟨rfl, hb⟩
    have HB := Lib.hid hb
    clear hb
    go_wp2_with fail
    go_ret
    exact ⟨by rw [HF.out]; simp, HB0.out.trans (HB.out.mono HB0.out.size)⟩
/-- the error of a book and two versions -/
theorem openE_both (b : Bk) (n m : Int) : openE b [n, m] = if Val b then (if (0 ≤ n ∧ n ≤ b.chs.length) ∧ 0 ≤ m ∧ m ≤ b.chs.length then 0 else 21) else 20 := by
  unfold openE
  by_cases hv : Val b
  · rw [if_pos hv, if_pos hv, val_len hv]
    have e : (∀ v ∈ [n, m], 0 ≤ v ∧ v < ((b.chs.length + 1 : Nat) : Int)) ↔ ((0 ≤ n ∧ n ≤ b.chs.length) ∧ 0 ≤ m ∧ m ≤ b.chs.length) := by
      simp only [List.mem_cons, List.not_mem_nil, or_false, forall_eq_or_imp, forall_eq]
      omega
    simp only [e]
  · rw [if_neg hv, if_neg hv]
theorem openE_one (b : Bk) (n : Int) : openE b [n, n] = openE b [n] := by
  unfold openE
  have e : (∀ v ∈ [n, n], 0 ≤ v ∧ v < ((vers b).length : Int)) ↔ (∀ v ∈ [n], 0 ≤ v ∧ v < ((vers b).length : Int)) := by
    simp only [List.mem_cons, List.not_mem_nil, or_false, forall_eq_or_imp, forall_eq]
    exact and_self_iff
  simp only [e]
theorem openE_empty (b : Bk) : openE b [] = if Val b then 0 else 20 := by
  unfold openE
  by_cases hv : Val b
  · rw [if_pos hv, if_pos hv, if_pos (by simp)]
  · rw [if_neg hv, if_neg hv]
set_option maxRecDepth 100000 in
set_option maxHeartbeats 8000000 in
theorem rversions_any (v vc : Value) (b : Bk) (n m : Int) (w : World) (hv : BkV w v b vc) (hs : Sm b) :
    Calls Tryz.prog 24 #[v, .int .i64 n, .int .i64 m] w fun e w' => e = .returned (.int .i64 (openE b [n, m])) ∧ Below w.heap.size w w' := by
  obtain ⟨A1, c1, A2, c2, W0, rfl, rfl, hW0, hb0, hB0, hx⟩ := bk_box hv
  have HB0 := Lib.hid hb0
  have HBk := Lib.hid hB0
  have HX := Lib.hid hx
  have HW0 := Lib.hid hW0
  have HS := Lib.hid hs
  clear hb0 hB0 hx hW0 hs hv
  obtain ⟨k0, k1⟩ := HX.out W0 (Below.refl _ _)
  have HV := Lib.hid (rValid_any _ _ b W0 HBk.out HS.out)
  have hE := openE_both b n m
  obtain ⟨E, hEE⟩ : ∃ E, openE b [n, m] = E := ⟨_, rfl⟩
  rw [hEE] at hE ⊢
  obtain ⟨len, hlen⟩ : ∃ len, b.chs.length = len := ⟨_, rfl⟩
  have hl : len ≤ 1000 := by have := HS.out.2.1; omega
  rw [hlen] at HV HX HW0 hE k1 ⊢
  have HN := Lib.hid (fun Y => rwithin_any n 0 (len : Int) Y)
  have HM := Lib.hid (fun Y => rwithin_any m 0 (len : Int) Y)
  clear hEE HBk HS hlen
  by_cases hval : Val b
  · rw [decide_eq_true hval] at HV
    rw [if_pos hval] at hE
    by_cases hn : 0 ≤ n ∧ n ≤ (len : Int)
    · simp only [decide_eq_true hn] at HN
      by_cases hm : 0 ≤ m ∧ m ≤ (len : Int)
      · simp only [decide_eq_true hm] at HM
        rw [if_pos ⟨hn, hm⟩] at hE
        have HE := Lib.hid hE
        clear hE hn hm hval
        go_enter Tryz.func24, Tryz.ntmps24
        go_wp2_with fail
        rw [HW0.out]
        (with_reducible refine (HV.out).mono ?_)
        rintro e w1 ⟨rfl, hb⟩
        have HB1 := Lib.hid (hb)
        clear hb
        clear k0 k1
        obtain ⟨k0, k1⟩ := HX.out w1 HB1.out
        go_wp2_with fail
        (with_reducible refine (HN.out _).mono ?_)
        rintro e w2 ⟨rfl, hb⟩
        have HB2 := Lib.hid (HB1.out.trans (hb.mono HB1.out.size))
        clear hb
        clear k0 k1
        obtain ⟨k0, k1⟩ := HX.out w2 HB2.out
        go_wp2_with fail
        (with_reducible refine (HM.out _).mono ?_)
        rintro e w3 ⟨rfl, hb⟩
        have HB3 := Lib.hid (HB2.out.trans (hb.mono HB2.out.size))
        clear hb
        go_wp2_with fail
        go_ret
        exact ⟨by rw [HE.out]; rfl, HB0.out.trans (HB3.out.mono HB0.out.size)⟩
      · simp only [decide_eq_false hm] at HM
        rw [if_neg (fun h => hm h.2)] at hE
        have HE := Lib.hid hE
        clear hE hn hm hval
        go_enter Tryz.func24, Tryz.ntmps24
        go_wp2_with fail
        rw [HW0.out]
        (with_reducible refine (HV.out).mono ?_)
        rintro e w1 ⟨rfl, hb⟩
        have HB1 := Lib.hid (hb)
        clear hb
        clear k0 k1
        obtain ⟨k0, k1⟩ := HX.out w1 HB1.out
        go_wp2_with fail
        (with_reducible refine (HN.out _).mono ?_)
        rintro e w2 ⟨rfl, hb⟩
        have HB2 := Lib.hid (HB1.out.trans (hb.mono HB1.out.size))
        clear hb
        clear k0 k1
        obtain ⟨k0, k1⟩ := HX.out w2 HB2.out
        go_wp2_with fail
        (with_reducible refine (HM.out _).mono ?_)
        rintro e w3 ⟨rfl, hb⟩
        have HB3 := Lib.hid (HB2.out.trans (hb.mono HB2.out.size))
        clear hb
        go_wp2_with fail
        go_ret
        exact ⟨by rw [HE.out]; rfl, HB0.out.trans (HB3.out.mono HB0.out.size)⟩
    · simp only [decide_eq_false hn] at HN
      rw [if_neg (fun h => hn h.1)] at hE
      have HE := Lib.hid hE
      clear hE hn hval
      go_enter Tryz.func24, Tryz.ntmps24
      go_wp2_with fail
      rw [HW0.out]
      (with_reducible refine (HV.out).mono ?_)
      rintro e w1 ⟨rfl, hb⟩
      have HB1 := Lib.hid (hb)
      clear hb
      clear k0 k1
      obtain ⟨k0, k1⟩ := HX.out w1 HB1.out
      go_wp2_with fail
      (with_reducible refine (HN.out _).mono ?_)
      rintro e w2 ⟨rfl, hb⟩
      have HB2 := Lib.hid (HB1.out.trans (hb.mono HB1.out.size))
      clear hb
      go_wp2_with fail
      go_ret
      exact ⟨by rw [HE.out]; rfl, HB0.out.trans (HB2.out.mono HB0.out.size)⟩
  · rw [decide_eq_false hval] at HV
    rw [if_neg hval] at hE
    have HE := Lib.hid hE
    clear hE hval
    go_enter Tryz.func24, Tryz.ntmps24
    go_wp2_with fail
    rw [HW0.out]
    (with_reducible refine (HV.out).mono ?_)
    rintro e w1 ⟨rfl, hb⟩
    have HB1 := Lib.hid (hb)
    clear hb
    go_wp2_with fail
    go_ret
    exact ⟨by rw [HE.out]; rfl, HB0.out.trans (HB1.out.mono HB0.out.size)⟩
theorem rver_next {b : Bk} {k : Nat} {x : Ch} (h : b.chs[k]? = some x) : rverF b (k + 1) = rnextF (rverF b k) x := by
  unfold rverF
  rw [show b.chs.take (k + 1) = b.chs.take k ++ [x] from by rw [List.take_add_one, h]; rfl, List.foldl_append]; rfl
theorem rver_len {b : Bk} (hs : Sm b) : ∀ k, k ≤ b.chs.length → (rverF b k).length ≤ 1000 + 1000 * k
  | 0, _ => by have := hs.1; simpa [rverF] using this
  | k + 1, hk => by
    have hx := List.getElem?_eq_getElem (l := b.chs) (i := k) (by omega)
    rw [rver_next hx]
    have h1 := rnext_len (rverF b k) b.chs[k]
    have h2 := rver_len hs k (by omega)
    have h3 := (hs.2.2 _ (List.mem_of_getElem? hx)).2
    omega
set_option maxRecDepth 100000 in
set_option maxHeartbeats 8000000 in
theorem rVersion_any (v vc : Value) (b : Bk) (n : Nat) (w : World) (hv : BkV w v b vc) (hs : Sm b) (h64 : b.chs.length ≤ 64) (hn : n ≤ b.chs.length) :
    Calls Tryz.prog 25 #[v, .int .i64 n] w fun e w' => (∃ r, e = .returned r ∧ InSl w' w'.heap.size r (rverF b n)) ∧ Below w.heap.size w w' := by
  obtain ⟨A1, c1, A2, c2, W0, rfl, rfl, hW0, hb0, hB0, hx⟩ := bk_box hv
  have HB0 := Lib.hid hb0
  have HBk := Lib.hid hB0
  have HX := Lib.hid hx
  have HW0 := Lib.hid hW0
  have HS := Lib.hid hs
  clear hb0 hB0 hx hW0 hs hv
  obtain ⟨k0, k1⟩ := HX.out W0 (Below.refl _ _)
  have HF := Lib.hid (show InSl W0 W0.heap.size (.slice A1 b.first.length c1) b.first from by obtain ⟨_, e, h1, h2⟩ := HBk.out; simp only [Value.agg.injEq, Array.mk.injEq, List.cons.injEq, and_true] at e; rw [e]; exact h1)
  have HCh := Lib.hid (show ChSl W0 W0.heap.size (.slice A2 b.chs.length c2) b.chs from by obtain ⟨_, e, h1, h2⟩ := HBk.out; exact h2)
  have HRl := Lib.hid (rver_len HS.out)
  obtain ⟨nf, hnf⟩ : ∃ nf, b.first.length = nf := ⟨_, rfl⟩
  obtain ⟨len, hlen⟩ : ∃ len, b.chs.length = len := ⟨_, rfl⟩
  rw [hnf, hlen] at HX HW0 ⊢
  rw [hnf] at HF k0
  rw [hlen] at HCh HRl hn h64 k1
  clear HBk hnf hlen
  go_enter Tryz.func25, Tryz.ntmps25
  go_wp2_with fail
  rw [HW0.out]
  go_loopw [5, 6] (fun lv iv wr => ∃ i : Nat, iv = .int .i64 (i : Int) ∧ i ≤ n ∧ InSl wr wr.heap.size lv (rverF b i) ∧ Below W0.heap.size W0 wr) (fun _ iv _ => n - (intOf iv).toNat)
  case atStart => exact ⟨0, rfl, by omega, HF.out, Below.refl _ _⟩
  case round =>
    obtain ⟨i, rfl, hin, hL, hb⟩ := hrel
    have HL := Lib.hid hL
    have HBr := Lib.hid hb
    have hll := HRl.out i (by omega)
    obtain ⟨Al, cl, rfl, _⟩ := hL.form
    clear k0 k1 hL hb
    obtain ⟨k0, k1⟩ := HX.out wr HBr.out
    by_cases hlt : i < n
    · obtain ⟨x, ad, Af, At, cf, ct, hx, rfl, hcd⟩ := ch_all HCh.out (show i < len by omega)
      have HSx := Lib.hid (HS.out.2.2 x (List.mem_of_getElem? hx))
      have HN := Lib.hid (rver_next hx)
      have HNx := Lib.hid (rnext_any _ _ _ (rverF b i) x wr HL.out (hcd wr HBr.out).2.1 (hcd wr HBr.out).2.2 (by omega) (by have := HSx.out.1; omega) (by have := HSx.out.2; omega))
      obtain ⟨⟨d0, d1, d2⟩, _, _⟩ := hcd wr HBr.out
      have hilt : (i : Int) < (len : Int) := by omega
      rw [← HN.out] at HNx
      obtain ⟨nl, hnl⟩ : ∃ nl, (rverF b i).length = nl := ⟨_, rfl⟩
      rw [hnl] at HNx ⊢
      clear hx hcd hll hnl
      go_wp2_with fail
      (with_reducible refine HNx.out.mono ?_)
      rintro e w2 ⟨⟨r, rfl, hr⟩, hb⟩
      have HR := Lib.hid hr
      have HB2 := Lib.hid (HBr.out.trans (hb.mono HBr.out.size))
      clear hr hb k0 k1 d0 d1 d2
      go_wp2_with fail
      go_roundw
      case rel => exact ⟨i + 1, by go_num, by omega, HR.out, HB2.out⟩
      case measure => simp [intOf]; omega
    · obtain rfl : i = n := by omega
      have HI0 := Lib.hid (show OwN W0 (.slice (some ⟨wr.heap.size, 0, none⟩) 0 0) [] (wr.alloc (.cells #[] 3)) from ⟨HBr.out.trans ((below_new _).mono HBr.out.size), World.ownsRow_lit (size := 1) wr #[] 0 HBr.out.size (by unfold maxLen; omega) rfl⟩)
      have HL2 := Lib.hid (HL.out.step (below_new (.cells #[] 3)))
      go_wp2_with (at_builtin; refine wpList_appN rfl _ _ rfl HI0.out rfl rfl HL2.out (by simp only [List.length_nil]; omega) ?_; intro v4 w4 hO4 hg4; rw [List.nil_append] at hO4; have HO4 := Lib.hid hO4; clear hO4 hg4)
      go_ret
      exact ⟨⟨_, rfl, HO4.out.sl⟩, HB0.out.trans (HO4.out.bel.mono HB0.out.size)⟩
end Go.Proofs.YtplpogonkfnafaaGreat
namespace Go.Proofs.YtplpogonkfnafaaGreat
open Go.RowKit Go.Nm

end Go.Proofs.YtplpogonkfnafaaGreat
namespace Go.Proofs.YtplpogonkfnafaaGreat
open Go.RowKit Go.Nm

theorem cnt_next {y : Int} {l : List Ch} {i : Nat} {x : Ch} (h : l[i]? = some x) : (l.take (i + 1)).countP (fun x => decide (x.yr ≤ y)) = (l.take i).countP (fun x => decide (x.yr ≤ y)) + (if x.yr ≤ y then 1 else 0) := by
  rw [show l.take (i + 1) = l.take i ++ [x] from by rw [List.take_add_one, h]; rfl, List.countP_append]
  by_cases hx : x.yr ≤ y <;> simp [hx]
theorem val_pos {b : Bk} (hb : Val b) {k : Nat} {x : Ch} (h : b.chs[k]? = some x) : 0 < x.fr.length ∧ 0 < x.to.length := by
  obtain ⟨A, y, _, h2, _⟩ := vers_step hb h
  exact ⟨h2.2.2.1.1, h2.2.2.2.1.1⟩
end Go.Proofs.YtplpogonkfnafaaGreat
