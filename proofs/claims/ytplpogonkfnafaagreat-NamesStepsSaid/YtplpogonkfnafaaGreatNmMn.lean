
/- The reference: mean. -/
import Derived.Test.YtplpogonkfnafaaGreatNmMh
namespace Go.Proofs.YtplpogonkfnafaaGreat
open Go.RowKit Go.Nm

theorem rver_getD {b : Bk} (hb : Val b) {v : Nat} (hv : v ≤ b.chs.length) {A : List Int} (hA : (vers b)[v]? = some A) : rverF b v = A := by
  have := rver_is hb hv
  rw [hA] at this
  injection this with this
  exact this.symm
set_option maxRecDepth 100000 in
set_option maxHeartbeats 16000000 in
theorem rmean_any (v vc u : Value) (b : Bk) (l : List Int) (n m : Nat) (w : World) (hv : BkV w v b vc) (hs : Sm b) (hval : Val b) (hn : n ≤ b.chs.length) (hm : m ≤ b.chs.length) (A : List Int) (hA : (vers b)[n]? = some A) (hl : Inc l) (hsub : ∀ z ∈ l, z ∈ A) (hu : InSl w w.heap.size u l) :
    Calls Tryz.prog 26 #[v, .int .i64 n, u, .int .i64 m] w fun e w' => (∃ r, e = .returned r ∧ InSl w' w'.heap.size r (mns b.chs n l m)) ∧ Below w.heap.size w w' := by
  obtain ⟨A1, c1, A2, c2, W0, rfl, rfl, hW0, hb0, hB0, hx⟩ := bk_box hv
  have HB0 := Lib.hid hb0
  have HX := Lib.hid hx
  have HW0 := Lib.hid hW0
  have HS := Lib.hid hs
  have HVal := Lib.hid hval
  have HBk := Lib.hid hB0
  have HCh := Lib.hid (show ChSl W0 W0.heap.size (.slice A2 b.chs.length c2) b.chs from by obtain ⟨_, e, h1, h2⟩ := hB0; exact h2)
  have HU := Lib.hid (hu.step hb0)
  obtain ⟨Au, cu, rfl, _⟩ := hu.form
  obtain ⟨R, hR⟩ : ∃ R, mns b.chs n l m = R := ⟨_, rfl⟩
  have HR := Lib.hid hR
  rw [hR]
  obtain ⟨len, hlen⟩ : ∃ len, b.chs.length = len := ⟨_, rfl⟩
  have HLn := Lib.hid hlen
  have hl64 : len ≤ 64 := by have := hval.1; omega
  have HFw := Lib.hid (fun k (h : n + k ≤ b.chs.length) => fwdN_ok hval hA hl hsub k h)
  have HBw := Lib.hid (fun k (h : k ≤ n) => bwdN_ok hval hA hl hsub hn k h)
  rw [hlen] at HX HW0 HCh HBk hn hm ⊢
  clear hb0 hx hW0 hs hv hB0 hval hlen hR hu hA hl hsub
  obtain ⟨k0, k1⟩ := HX.out W0 (Below.refl _ _)
  obtain ⟨nl, hnl⟩ : ∃ nl, l.length = nl := ⟨_, rfl⟩
  rw [hnl] at HU ⊢
  clear hnl
  by_cases hnm : n ≤ m
  · have hF : mns b.chs n l m = fwdN b.chs n (m - n) l := by unfold mns; rw [if_pos hnm]
    have HF := Lib.hid (show fwdN b.chs n (m - n) l = R from by rw [← hF]; exact HR.out)
    clear hF
    go_enter Tryz.func26, Tryz.ntmps26
    go_wp2_with fail
    rw [HW0.out]
    go_wp2_with fail
    go_loopw [2, 9] (fun lv iv wr => ∃ k : Nat, iv = .int .i64 ((n + k : Nat) : Int) ∧ n + k ≤ m ∧ InSl wr wr.heap.size lv (fwdN b.chs n k l) ∧ Below W0.heap.size W0 wr) (fun _ iv _ => m - (intOf iv).toNat)
    case atStart => exact ⟨0, rfl, by omega, HU.out, Below.refl _ _⟩
    case round =>
      obtain ⟨k, rfl, hkm, hO, hb⟩ := hrel
      have HO := Lib.hid hO
      have HB := Lib.hid hb
      obtain ⟨Al, cl, rfl, _⟩ := hO.form
      clear k0 k1 hO hb
      obtain ⟨k0, k1⟩ := HX.out wr HB.out
      obtain ⟨i, hi⟩ : ∃ i, n + k = i := ⟨_, rfl⟩
      have HI := Lib.hid hi
      rw [hi] at hkm ⊢
      obtain ⟨C, hC, hCi, hCm⟩ := HFw.out k (by rw [hi, HLn.out]; omega)
      rw [hi] at hC
      have hFl : (fwdN b.chs n k l).length ≤ 400 := Nat.le_trans (inc_sub_len hCi hCm) (vers_ok C (List.mem_of_getElem? hC)).2
      clear hi
      by_cases hlt : i < m
      · obtain ⟨x, ad, Af, At, cf, ct, hx, rfl, hcd⟩ := ch_all HCh.out (show i < len by omega)
        have HSx := Lib.hid (HS.out.2.2 x (List.mem_of_getElem? hx))
        obtain ⟨A', B', hA', hB', d⟩ := step_data HVal.out hx
        rw [hC] at hA'
        injection hA' with hA'
        subst hA'
        have HNx := Lib.hid (show rforthF x (fwdN b.chs n k l) = fwdN b.chs n (k + 1) l from by rw [forth_rep d hCi hCm, fwd_step (x := x) (by rw [HI.out]; exact hx)])
        have HFo := Lib.hid (rforth_any _ _ _ x (fwdN b.chs n k l) wr (hcd wr HB.out).2.1 (hcd wr HB.out).2.2 HO.out HSx.out.1 HSx.out.2 hFl)
        rw [HNx.out] at HFo
        obtain ⟨⟨d0, d1, d2⟩, _, _⟩ := hcd wr HB.out
        obtain ⟨F, hF⟩ : ∃ F, fwdN b.chs n k l = F := ⟨_, rfl⟩
        rw [hF] at HFo HO ⊢
        have hil : (i : Int) < (len : Int) := by omega
        clear hx hcd hC hCi hCm hFl hB' d hF HNx
        go_wp2_with fail
        (with_reducible refine HFo.out.mono ?_)
        rintro e W2 ⟨⟨rv, rfl, hr⟩, hb⟩
        have HR2 := Lib.hid hr
        have HB2 := Lib.hid (HB.out.trans (hb.mono HB.out.size))
        clear hr hb k0 k1 d0 d1 d2
        go_wp2_with fail
        go_roundw
        case rel => exact ⟨k + 1, by have := HI.out; rw [show n + (k + 1) = i + 1 from by omega]; go_num, by have := HI.out; omega, HR2.out, HB2.out⟩
        case measure => simp [intOf]; omega
      · have him : i = m := by omega
        have HE := Lib.hid (show fwdN b.chs n k l = R from by rw [← HF.out, show m - n = k from by have := HI.out; omega])
        rw [HE.out] at HO
        have HO2 := Lib.hid (And.intro HO.out HB.out)
        have hnm2 : ¬ (m : Int) < (n : Int) := by omega
        rw [HE.out]
        clear hC hCi hCm hFl him HO HB
        go_wp2_with fail
        go_loopw [2, 10] (fun lv iv wq => iv = .int .i64 (n : Int) ∧ InSl wq wq.heap.size lv R ∧ Below W0.heap.size W0 wq) (fun _ iv _ => 0)
        case atStart => exact ⟨rfl, HO2.out.1, HO2.out.2⟩
        case round =>
          obtain ⟨rfl, h1, h2⟩ := hrel
          have HO3 := Lib.hid (And.intro h1 h2)
          obtain ⟨Ar, cr, rfl, _⟩ := h1.form
          clear h1 h2 k0 k1
          go_wp2_with fail
          go_ret
          exact ⟨⟨_, rfl, HO3.out.1⟩, HB0.out.trans (HO3.out.2.mono HB0.out.size)⟩
  · have hF : mns b.chs n l m = bwdN b.chs n (n - m) l := by unfold mns; rw [if_neg hnm]
    have HF := Lib.hid (show bwdN b.chs n (n - m) l = R from by rw [← hF]; exact HR.out)
    have hnm3 : ¬ (n : Int) < (m : Int) := by omega
    clear hF
    go_enter Tryz.func26, Tryz.ntmps26
    go_wp2_with fail
    rw [HW0.out]
    go_wp2_with fail
    go_loopw [2, 9] (fun lv iv wq => iv = .int .i64 (n : Int) ∧ InSl wq wq.heap.size lv l ∧ Below W0.heap.size W0 wq) (fun _ iv _ => 0)
    case atStart => exact ⟨rfl, HU.out, Below.refl _ _⟩
    case round =>
      obtain ⟨rfl, h1, h2⟩ := hrel
      have HO3 := Lib.hid (And.intro h1 h2)
      clear h1 h2 k0 k1
      go_wp2_with fail
      go_loopw [2, 10] (fun lv iv wr => ∃ k : Nat, k ≤ n - m ∧ iv = .int .i64 ((n - k : Nat) : Int) ∧ InSl wr wr.heap.size lv (bwdN b.chs n k l) ∧ Below W0.heap.size W0 wr) (fun _ iv _ => (intOf iv).toNat)
      case atStart => exact ⟨0, by omega, rfl, HO3.out.1, HO3.out.2⟩
      case round =>
        obtain ⟨k, hkm, rfl, hO, hb⟩ := hrel
        have HO := Lib.hid hO
        have HB := Lib.hid hb
        obtain ⟨Al, cl, rfl, _⟩ := hO.form
        clear hO hb
        obtain ⟨k0, k1⟩ := HX.out wr HB.out
        obtain ⟨C, hC, hCi, hCm⟩ := HBw.out k (by omega)
        have hFl : (bwdN b.chs n k l).length ≤ 400 := Nat.le_trans (inc_sub_len hCi hCm) (vers_ok C (List.mem_of_getElem? hC)).2
        by_cases hlt : m < n - k
        · obtain ⟨j, hj⟩ : ∃ j, n - k = j + 1 := ⟨n - k - 1, by omega⟩
          have HJ := Lib.hid hj
          obtain ⟨x, ad, Af, At, cf, ct, hx, rfl, hcd⟩ := ch_all HCh.out (show j < len by omega)
          have HSx := Lib.hid (HS.out.2.2 x (List.mem_of_getElem? hx))
          obtain ⟨A', B', hA', hB', d⟩ := step_data HVal.out hx
          rw [hj] at hC hlt ⊢
          rw [hB'] at hC
          injection hC with hC
          subst hC
          have HNx := Lib.hid (show rbackF x A' (bwdN b.chs n k l) = bwdN b.chs n (k + 1) l from by rw [back_rep d hCi hCm, bwd_step (x := x) (by rw [show n - (k + 1) = j from by omega]; exact hx)])
          have HBa := Lib.hid (fun Y va lv (h : Below W0.heap.size W0 Y) (h1 : InSl Y Y.heap.size va A') (h2 : InSl Y Y.heap.size lv (bwdN b.chs n k l)) => rback_any _ _ va lv x A' (bwdN b.chs n k l) Y (hcd Y h).2.1 (hcd Y h).2.2 h1 h2 HSx.out.1 HSx.out.2 (vers_ok A' (List.mem_of_getElem? hA')).2 hFl)
          simp only [HNx.out] at HBa
          have HVe := Lib.hid (fun Y (h : Below W0.heap.size W0 Y) => rVersion_any _ _ b j Y (HBk.out.step h) HS.out (by have := HLn.out; omega) (by have := HLn.out; omega))
          rw [rver_getD HVal.out (by have := HLn.out; omega) hA'] at HVe
          have HCd := Lib.hid (fun Y h => (hcd Y h).1)
          obtain ⟨F, hF⟩ : ∃ F, bwdN b.chs n k l = F := ⟨_, rfl⟩
          rw [hF] at HO HBa ⊢
          have hjl : j < len := by omega
          have hjw : IntKind.i64.wrap (((j + 1 : Nat) : Int) - 1) = (j : Int) := by rw [IntKind.wrap_i64]; omega
          have hjm : (m : Int) < ((j + 1 : Nat) : Int) := by omega
          clear hx hcd hCi hCm hFl hB' hA' d hF HNx k0 k1 hj
          go_wp2_with fail
          obtain ⟨nF, hnF⟩ : ∃ nF, F.length = nF := ⟨_, rfl⟩
          rw [hnF] at HO ⊢
          have HXc := Lib.hid (show ∀ Y, Below wr.heap.size wr Y → Below W0.heap.size W0 Y from fun Y h => HB.out.trans (h.mono HB.out.size))
          refine wp_opaque ?_
          intro t0 ht0
          have hsz0 : t0.size = 43 := by rw [ht0]; rfl
          have t2 : t0.getD 2 undef = .slice Al nF cl := by rw [ht0]; rfl
          have t4 : t0.getD 4 undef = .pointer (some ⟨w.heap.size, 0, none⟩) := by rw [ht0]; rfl
          have t10 : t0.getD 10 undef = .int .i64 ((j : Int) + 1) := by rw [ht0]; rfl
          have HT0 := Lib.hid ht0
          clear ht0
          refine wp_region_vals [some 30, some 31, some 32, some 33, some 34, some 35, some 36, some 37, some 38, some 39, some 40, some 41, some 2] (MnI wr.drew A' (fun u X => InSl X X.heap.size u (bwdN b.chs n (k + 1) l) ∧ Below W0.heap.size W0 X) (.pointer (some ⟨w.heap.size, 1, none⟩)) (.slice (some ad) len c2) (.int .i64 ((j : Int) + 1)) (.int .i64 (j : Int)) (.pointer (some (ad.add (j * 3)))) (.agg #[.int .i64 x.yr, .slice Af x.fr.length cf, .slice At x.to.length ct]) (.agg #[.slice A1 b.first.length c1, .slice (some ad) len c2]) (.slice Al nF cl)) (by kernel_rfl) (by kernel_rfl) rfl rfl (by simp [hsz0]) (by kernel_rfl) ?_ ?_ ?_
          · intro val
            exact ⟨(fun h => nomatch h), (fun h => nomatch h), (fun h => nomatch h), (fun h => nomatch h), (fun h => nomatch h), (fun h => nomatch h), (fun h => nomatch h), (fun h => nomatch h), (fun h => nomatch h), (fun h => nomatch h), fun _ => Below.refl _ _, (fun h => nomatch h), (fun h => nomatch h), (fun h => nomatch h)⟩
          · intro dn q o hi hd hp hc val X a ha hn hI K hK
            have hq : q < 13 := by
              have := (Array.getElem?_eq_some_iff.1 hi).1
              simpa using this
            have c1' : dn 1 = true → dn 0 = true := fun h => hc 1 _ rfl h ⟨0, .data⟩ (by simp) rfl
            have c4 : dn 4 = true → dn 1 = true ∧ dn 3 = true := fun h => ⟨hc 4 _ rfl h ⟨1, .data⟩ (by simp) rfl, hc 4 _ rfl h ⟨3, .data⟩ (by simp) rfl⟩
            have c5 : dn 5 = true → dn 4 = true := fun h => hc 5 _ rfl h ⟨4, .data⟩ (by simp) rfl
            have c9 : dn 9 = true → dn 6 = true ∧ dn 8 = true := fun h => ⟨hc 9 _ rfl h ⟨6, .data⟩ (by simp) rfl, hc 9 _ rfl h ⟨8, .data⟩ (by simp) rfl⟩
            have c11 : dn 11 = true → dn 5 = true ∧ dn 9 = true ∧ dn 10 = true := fun h => ⟨hc 11 _ rfl h ⟨5, .data⟩ (by simp) rfl, hc 11 _ rfl h ⟨9, .data⟩ (by simp) rfl, hc 11 _ rfl h ⟨10, .data⟩ (by simp) rfl⟩
            have c12 : dn 12 = true → dn 11 = true := fun h => hc 12 _ rfl h ⟨11, .data⟩ (by simp) rfl
            have bf : ∀ {q : Bool}, (q = true → False) → q = false := fun {q} h => by cases q; rfl; exact (h rfl).elim
            have hb3 : dn 11 = false → Below W0.heap.size W0 X := fun n11 => HXc.out X ((Below.refl _ _).drew.trans (hI.bel n11))
            rcases (show q = 0 ∨ q = 1 ∨ q = 2 ∨ q = 3 ∨ q = 4 ∨ q = 5 ∨ q = 6 ∨ q = 7 ∨ q = 8 ∨ q = 9 ∨ q = 10 ∨ q = 11 ∨ q = 12 by omega) with rfl | rfl | rfl | rfl | rfl | rfl | rfl | rfl | rfl | rfl | rfl | rfl | rfl
            · obtain rfl := Option.some.inj hi
              exact opField1 4 _ rfl ((ha 4).trans t4) (hK _ _ hI.op0)
            · obtain rfl := Option.some.inj hi
              have y0 := hp ⟨0, .data⟩ (by simp) rfl
              have n11 : dn 11 = false := bf fun h => f_t hd (c4 (c5 (c11 h).1)).1
              exact opLdCs 30 _ _ rfl ((ha 30).trans (hI.s0 y0)) (HX.out X (hb3 n11)).2 (hK _ _ hI.op1)
            · obtain rfl := Option.some.inj hi
              exact opMove 10 _ rfl ((ha 10).trans t10) (hK _ _ hI.op2)
            · obtain rfl := Option.some.inj hi
              have y2 := hp ⟨2, .data⟩ (by simp) rfl
              exact opSub1 32 _ _ rfl ((ha 32).trans (hI.s2 y2)) hjw (hK _ _ hI.op3)
            · obtain rfl := Option.some.inj hi
              have y1 := hp ⟨1, .data⟩ (by simp) rfl
              have y3 := hp ⟨3, .data⟩ (by simp) rfl
              exact opIxC 31 33 len c2 j ad rfl ((ha 31).trans (hI.s1 y1)) ((ha 33).trans (hI.s3 y3)) hjl (hK _ _ hI.op4)
            · obtain rfl := Option.some.inj hi
              have y4 := hp ⟨4, .data⟩ (by simp) rfl
              have n11 : dn 11 = false := bf fun h => f_t hd (c11 h).1
              obtain ⟨e0, e1, e2⟩ := HCd.out X (hb3 n11)
              exact opLdC 34 _ _ _ _ rfl ((ha 34).trans (hI.s4 y4)) e0 e1 e2 (hK _ _ hI.op5)
            · obtain rfl := Option.some.inj hi
              have n11 : dn 11 = false := bf fun h => f_t hd (c9 (c11 h).2.1).1
              obtain ⟨e0, e1⟩ := HX.out X (hb3 n11)
              exact opLdB 4 _ _ _ rfl ((ha 4).trans t4) e0 e1 (hK _ _ hI.op6)
            · obtain rfl := Option.some.inj hi
              exact opMove 10 _ rfl ((ha 10).trans t10) (hK _ _ hI.op7)
            · obtain rfl := Option.some.inj hi
              have y7 := hp ⟨7, .data⟩ (by simp) rfl
              exact opSub1 37 _ _ rfl ((ha 37).trans (hI.s7 y7)) hjw (hK _ _ hI.op8)
            · obtain rfl := Option.some.inj hi
              have y6 := hp ⟨6, .data⟩ (by simp) rfl
              have y8 := hp ⟨8, .data⟩ (by simp) rfl
              have n11 : dn 11 = false := bf fun h => f_t hd (c11 h).2.1
              refine opCallV 36 38 _ _ _ rfl ((ha 36).trans (hI.s6 y6)) ((ha 38).trans (hI.s8 y8)) (HVe.out X (hb3 n11)) ?_
              rintro e Y ⟨⟨u, rfl, hu⟩, hb⟩
              exact ⟨_, rfl, hK _ _ (hI.op9 n11 (bf fun h => f_t n11 (c12 h)) hu hb)⟩
            · obtain rfl := Option.some.inj hi
              have n12 : dn 12 = false := bf fun h => f_t hd (c11 (c12 h)).2.2
              exact opMove 2 _ rfl (((ha 2).trans (hn 12 2 n12 rfl)).trans t2) (hK _ _ hI.op10)
            · obtain rfl := Option.some.inj hi
              have y5 := hp ⟨5, .data⟩ (by simp) rfl
              have y9 := hp ⟨9, .data⟩ (by simp) rfl
              have y10 := hp ⟨10, .data⟩ (by simp) rfl
              have hbX := hb3 hd
              refine opCallB 35 39 40 _ _ _ _ rfl ((ha 35).trans (hI.s5 y5)) (ha 39) ((ha 40).trans (hI.s10 y10)) (HBa.out X _ _ hbX (hI.e9 y9 hd) (HO.out.step ((Below.refl _ _).drew.trans (hI.bel hd)))) ?_
              rintro e Y ⟨⟨u, rfl, hu⟩, hb⟩
              exact ⟨_, rfl, hK _ _ (hI.op11 (bf fun h => f_t hd (c12 h)) ⟨hu, hbX.trans (hb.mono hbX.size)⟩)⟩
            · obtain rfl := Option.some.inj hi
              exact opAssign 41 _ rfl (ha 41) (hK _ _ hI.op12)
          · intro dn val X hdn hI
            have HS5 := Lib.hid (hI.e11 (hdn 11 (by simp)))
            have e12 := hI.e12 (hdn 12 (by simp))
            clear hdn hI
            simp only [wrS, HT0.out, e12]
            simp only [List.setIfInBounds_toArray, List.set_cons_succ, List.set_cons_zero]
            simp only [Exit.inBlock, Exit.then]
            clear e12 t2 t4 t10 hsz0 HT0 hnF
            go_wp2_with fail
            go_roundw
            case rel => exact ⟨k + 1, by have := HJ.out; omega, by rw [show n - (k + 1) = j from by have := HJ.out; omega], HS5.out.1, HS5.out.2⟩
            case measure => simp [intOf]
        · have HE := Lib.hid (show bwdN b.chs n k l = R from by rw [← HF.out, show n - m = k from by omega])
          rw [HE.out] at HO ⊢
          have hnk : ¬ (m : Int) < ((n - k : Nat) : Int) := by omega
          clear hC hCi hCm hFl
          go_wp2_with fail
          go_ret
          exact ⟨⟨_, rfl, HO.out⟩, HB0.out.trans (HB.out.mono HB0.out.size)⟩
end Go.Proofs.YtplpogonkfnafaaGreat
