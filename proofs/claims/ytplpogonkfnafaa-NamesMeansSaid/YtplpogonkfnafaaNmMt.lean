/- The reference: All. -/
import Derived.Test.YtplpogonkfnafaaNmMo
import Derived.Test.YtplpogonkfnafaaNmAl
namespace Go.Proofs.Ytplpogonkfnafaa
open Go.RowKit Go.Nm

structure AlI (V : World) (l : List Int) (R : Value → World → Prop) (bv nv lv mv : Value) (dn : Nat → Bool) (val : Nat → Value) (X : World) : Prop where
  s0 : dn 0 = true → val 0 = bv
  s1 : dn 1 = true → val 1 = nv
  s3 : dn 3 = true → val 3 = lv
  s5 : dn 5 = true → val 5 = mv
  s8 : dn 8 = true → val 8 = (.int .i64 0)
  bel : dn 6 = false → Below V.heap.size V X
  e2 : dn 2 = true → dn 4 = false → OwN V (val 2) [] X
  e4 : dn 4 = true → dn 6 = false → OwN V (val 4) l X
  e6 : dn 6 = true → R (val 6) X
  e7 : dn 7 = true → val 7 = val 6
section
variable {V : World} {l : List Int} {R : Value → World → Prop} {bv nv lv mv : Value} {dn : Nat → Bool} {val : Nat → Value} {X Y : World}
theorem AlI.op0 (h : AlI V l R bv nv lv mv dn val X) : AlI V l R bv nv lv mv (andB dn 0) (updV val 0 (bv)) X :=
  ⟨(fun _ => rfl), h.s1, h.s3, h.s5, h.s8, h.bel, h.e2, h.e4, h.e6, h.e7⟩
theorem AlI.op1 (h : AlI V l R bv nv lv mv dn val X) : AlI V l R bv nv lv mv (andB dn 1) (updV val 1 (nv)) X :=
  ⟨h.s0, (fun _ => rfl), h.s3, h.s5, h.s8, h.bel, h.e2, h.e4, h.e6, h.e7⟩
theorem AlI.op3 (h : AlI V l R bv nv lv mv dn val X) : AlI V l R bv nv lv mv (andB dn 3) (updV val 3 (lv)) X :=
  ⟨h.s0, h.s1, (fun _ => rfl), h.s5, h.s8, h.bel, h.e2, h.e4, h.e6, h.e7⟩
theorem AlI.op5 (h : AlI V l R bv nv lv mv dn val X) : AlI V l R bv nv lv mv (andB dn 5) (updV val 5 (mv)) X :=
  ⟨h.s0, h.s1, h.s3, (fun _ => rfl), h.s8, h.bel, h.e2, h.e4, h.e6, h.e7⟩
theorem AlI.op8 (h : AlI V l R bv nv lv mv dn val X) : AlI V l R bv nv lv mv (andB dn 8) (updV val 8 ((.int .i64 0))) X :=
  ⟨h.s0, h.s1, h.s3, h.s5, (fun _ => rfl), h.bel, h.e2, h.e4, h.e6, h.e7⟩
theorem AlI.op2 (h : AlI V l R bv nv lv mv dn val X) (n4 : dn 4 = false) (n6 : dn 6 = false) (n7 : dn 7 = false) : AlI V l R bv nv lv mv (andB dn 2) (updV val 2 (.slice (some ⟨X.heap.size, 0, none⟩) 0 0)) (X.alloc (.cells #[] 3)) :=
  ⟨h.s0, h.s1, h.s3, h.s5, h.s8, (fun _ => (h.bel n6).trans ((below_new _).mono (h.bel n6).size)), (fun _ _ => ⟨(h.bel n6).trans ((below_new _).mono (h.bel n6).size), World.ownsRow_lit (size := 1) X #[] 0 (h.bel n6).size (by unfold maxLen; omega) rfl⟩), (fun d => f_t n4 d), (fun d => f_t n6 d), (fun d => f_t n7 d)⟩
theorem AlI.op4 (h : AlI V l R bv nv lv mv dn val X) (n6 : dn 6 = false) (n7 : dn 7 = false) {u : Value} (hO : OwN V u l Y) : AlI V l R bv nv lv mv (andB dn 4) (updV val 4 (u)) Y :=
  ⟨h.s0, h.s1, h.s3, h.s5, h.s8, (fun _ => hO.bel), (fun _ n => nomatch n), (fun _ _ => hO), (fun d => f_t n6 d), (fun d => f_t n7 d)⟩
theorem AlI.op6 (h : AlI V l R bv nv lv mv dn val X) (y4 : dn 4 = true) (n7 : dn 7 = false) {u : Value} (hR : R u Y) : AlI V l R bv nv lv mv (andB dn 6) (updV val 6 (u)) Y :=
  ⟨h.s0, h.s1, h.s3, h.s5, h.s8, (fun n => nomatch n), (fun _ n => f_t n y4), (fun _ n => nomatch n), (fun _ => hR), (fun d => f_t n7 d)⟩
theorem AlI.op7 (h : AlI V l R bv nv lv mv dn val X) : AlI V l R bv nv lv mv (andB dn 7) (updV val 7 (val 6)) X :=
  ⟨h.s0, h.s1, h.s3, h.s5, h.s8, h.bel, h.e2, h.e4, h.e6, (fun _ => rfl)⟩
end
section
variable {o : Oper} {a : Act} {w : World} {K : Act → World → Prop} {Q : Exit → Act → World → Prop}
theorem opConst (v : Value) (ho : o.op = .assign (.const v)) (h : K (a.put o.dst v) w) : o.wp Try.prog a w K Q := by
  unfold Oper.wp execOp
  simp only [ho]
  go_simp
  exact h
theorem opCallM (q r s t : Nat) (v1 v2 v3 v4 : Value) (R : Ending → World → Prop) (ho : o.op = .call { callee := .value (.func 77), args := #[.tmp q, .tmp r, .tmp s, .tmp t], argTypes := #[25, 3, 22, 3] }) (h1 : a.tmps.getD q undef = v1) (h2 : a.tmps.getD r undef = v2) (h3 : a.tmps.getD s undef = v3) (h4 : a.tmps.getD t undef = v4)
    (hc : Calls Try.prog 77 #[v1, v2, v3, v4] w R) (h : ∀ e w', R e w' → ∃ v, e = .returned v ∧ K (a.put o.dst v) w') : o.wp Try.prog a w K Q := by
  unfold Oper.wp execOp
  have e1 : a.eval (.tmp q) = v1 := h1
  have e2 : a.eval (.tmp r) = v2 := h2
  have e3 : a.eval (.tmp s) = v3 := h3
  have e4 : a.eval (.tmp t) = v4 := h4
  simp only [ho]
  go_simp
  refine hc.mono ?_
  intro e w' hR
  obtain ⟨v, rfl, hK⟩ := h e w' hR
  exact hK
end
theorem allOut_r (b : Bk) (n m : Int) (l : List Int) : allOut b n l m = if openE b [n, m] = 0 then (if Inc l then (if ∀ z ∈ l, z ∈ rverF b n.toNat then (mns b.chs n.toNat l m.toNat, 0) else ([], 22)) else ([], 1)) else ([], openE b [n, m]) := by
  unfold allOut
  by_cases h : openE b [n, m] = 0
  · rw [if_pos h, if_pos h]
    obtain ⟨hv, hV⟩ := openE_val h
    have hn := hV n (by simp)
    rw [val_len hv] at hn
    obtain ⟨A, hA, hAi, _⟩ := vers_at hv (k := n.toNat) (by omega)
    have e1 := rver_getD hv (by omega) hA
    rw [List.getD_eq_getElem?_getD, hA, Option.getD_some, e1]
    by_cases h2 : Inc l
    · rw [if_pos (decide_eq_true h2), if_pos h2]
      have e2 := wo_nil h2 hAi
      by_cases h3 : ∀ z ∈ l, z ∈ A
      · rw [if_pos (decide_eq_true (e2.2 h3)), if_pos h3]
      · rw [if_neg (by simp only [decide_eq_true_eq]; exact fun h => h3 (e2.1 h)), if_neg h3]
    · rw [if_neg (by simpa using h2), if_neg h2]
  · rw [if_neg h, if_neg h]
set_option maxRecDepth 100000 in
set_option maxHeartbeats 16000000 in
theorem rAll_any (v vc u : Value) (b : Bk) (n m : Int) (l : List Int) (w : World) (hv : BkV w v b vc) (hs : Sm b) (hu : InSl w w.heap.size u l) (hl : l.length ≤ 1000) :
    Calls Try.prog 39 #[v, .int .i64 n, u, .int .i64 m] w (OutN (allOut b n l m).1 (allOut b n l m).2 w) := by
  obtain ⟨A1, c1, A2, c2, W0, rfl, rfl, hW0, hb0, hB0, hx⟩ := bk_box hv
  have HB0 := Lib.hid hb0
  have HBk := Lib.hid hB0
  have HX := Lib.hid hx
  have HW0 := Lib.hid hW0
  have HS := Lib.hid hs
  have HU := Lib.hid (hu.step hb0)
  obtain ⟨Au, cu, rfl, _⟩ := hu.form
  clear hb0 hB0 hx hW0 hs hv hu
  obtain ⟨k0, k1⟩ := HX.out W0 (Below.refl _ _)
  have HV := Lib.hid (rversions_any _ _ b n m W0 HBk.out HS.out)
  have hE := allOut_r b n m l
  have hZ := openE_val (b := b) (V := [n, m])
  generalize allOut b n l m = o at *
  obtain ⟨oR, oE⟩ := o
  dsimp only
  generalize openE b [n, m] = er at *
  obtain ⟨nl, hnl⟩ : ∃ nl, l.length = nl := ⟨_, rfl⟩
  have HNl := Lib.hid hnl
  rw [hnl] at HU hl ⊢
  have HIu := Lib.hid (show InA W0 W0.heap.size Au l from by obtain ⟨_, _, e, _, _, h⟩ := HU.out; cases e; exact h)
  clear hnl
  by_cases he : er = 0
  · subst he
    obtain ⟨hval, hV⟩ := hZ rfl
    have hn := hV n (by simp)
    have hm := hV m (by simp)
    rw [val_len hval] at hn hm
    obtain ⟨k, rfl⟩ : ∃ k : Nat, n = (k : Int) := ⟨n.toNat, by omega⟩
    obtain ⟨j, rfl⟩ : ∃ j : Nat, m = (j : Int) := ⟨m.toNat, by omega⟩
    have hk : k ≤ b.chs.length := by omega
    have hj : j ≤ b.chs.length := by omega
    rw [if_pos rfl, Int.toNat_natCast, Int.toNat_natCast] at hE
    obtain ⟨A, hA, hAi, hAl⟩ := vers_at hval hk
    rw [rver_getD hval hk hA] at hE
    have HE := Lib.hid hE
    have HVe := Lib.hid (fun Y (h : Below W0.heap.size W0 Y) => rVersion_any _ _ b k Y (HBk.out.step h) HS.out hval.1 hk)
    rw [rver_getD hval hk hA] at HVe
    have HMe := Lib.hid (fun Y lv (h : Below W0.heap.size W0 Y) (h1 : Inc l) (h2 : ∀ z ∈ l, z ∈ A) (h3 : InSl Y Y.heap.size lv l) => rmean_any _ _ lv b l k j Y (HBk.out.step h) HS.out hval hk hj A hA h1 h2 h3)
    have HIn := Lib.hid (@inc_of_next l)
    have HIx := Lib.hid (fun (h : Inc l) j x y => @next_of_inc l h j x y)
    have HAl := Lib.hid hAl
    clear hV hn hm hZ HBk hval hk hj hA hAi hAl hE
    go_enter Try.func39, Try.ntmps39
    go_wp2_with fail
    rw [HW0.out]
    (with_reducible refine (HV.out).mono ?_)
    rintro e w1 ⟨rfl, hb⟩
    have HB1 := Lib.hid (hb)
    clear hb
    clear k0 k1
    obtain ⟨k0, k1⟩ := HX.out w1 HB1.out
    go_wp2_with fail
    go_loopw [11] (fun iv wr => ∃ i : Nat, iv = .int .i64 (i : Int) ∧ 1 ≤ i ∧ i ≤ nl + 1 ∧ (∀ q x y, q + 1 < i → l[q]? = some x → l[q + 1]? = some y → x < y) ∧ Below W0.heap.size W0 wr) (fun iv _ => nl + 1 - (intOf iv).toNat)
    case atStart => exact ⟨1, rfl, by omega, by omega, fun q x y h => absurd h (by omega), HB1.out⟩
    case round =>
      obtain ⟨i, rfl, hi1, hin, hq, hb⟩ := hrel
      have HQ := Lib.hid hq
      have HB := Lib.hid hb
      clear hq hb k0 k1
      obtain ⟨k0, k1⟩ := HX.out wr HB.out
      by_cases hlt : i < nl
      · obtain ⟨p, hp⟩ : ∃ p, i = p + 1 := ⟨i - 1, by omega⟩
        obtain ⟨y, ad, hy, rfl, _, hcy⟩ := (HIu.out.below HB.out).at_ HNl.out hlt
        obtain ⟨x, ad', hx, e, _, hcx⟩ := (HIu.out.below HB.out).at_ (i := p) HNl.out (by omega)
        injection e with e
        subst e
        have hpi : p < nl := by omega
        have hpn : (p : Int) < (nl : Int) := by omega
        have hil : (i : Int) < (nl : Int) := by omega
        have hiw : IntKind.i64.wrap ((i : Int) - 1) = (p : Int) := by rw [IntKind.wrap_i64]; omega
        have HXY := Lib.hid (And.intro hx (And.intro (show l[p + 1]? = some y by rw [← hp]; exact hy) hp))
        clear hx hy hp
        by_cases hge : y ≤ x
        · have hE := HE.out
          rw [if_neg (fun h => by have := HIx.out h p x y HXY.out.1 HXY.out.2.1; omega)] at hE
          injection hE with h1 h2
          subst h1 h2
          clear HE HMe HVe
          go_wp2_with fail
          refine wp_region_still_lit (by kernel_rfl) (by kernel_rfl) ?_
          iterate 10 ((with_reducible refine wpStill_step ?_); intro K hK; go_simp; (try (refine ite_neg_of (by simp [undef] <;> assumption) ?_)); (with_reducible refine hK _ ?_); clear hK K)
          (with_reducible refine wpStill_nil ?_)
          have HBx := Lib.hid (HB0.out.trans (HB.out.drew.mono HB0.out.size))
          go_wp2_with fail
          go_ret2
          exact OutN.nil HBx.out
        · have HN := Lib.hid (show ∀ q x y, q + 1 < i + 1 → l[q]? = some x → l[q + 1]? = some y → x < y from fun q x' y' hq h1 h2 => by
            by_cases e : q = p
            · subst e
              rw [HXY.out.1] at h1
              rw [HXY.out.2.1] at h2
              injection h1 with h1; injection h2 with h2; omega
            · exact HQ.out q x' y' (by have := HXY.out.2.2; omega) h1 h2)
          have hge' : x < y := by omega
          go_wp2_with fail
          refine wp_region_still_lit (by kernel_rfl) (by kernel_rfl) ?_
          iterate 10 ((with_reducible refine wpStill_step ?_); intro K hK; go_simp; (try (refine ite_neg_of (by simp [undef] <;> assumption) ?_)); (with_reducible refine hK _ ?_); clear hK K)
          (with_reducible refine wpStill_nil ?_)
          have HBx := Lib.hid HB.out.drew
          go_wp2_with fail
          go_roundw
          case rel => exact ⟨i + 1, by go_num, by omega, by omega, HN.out, HBx.out⟩
          case measure => simp [intOf]; omega
      · have HInc := Lib.hid (show Inc l from HIn.out fun q x y h1 h2 => HQ.out q x y (by have := (List.getElem?_eq_some_iff.1 h2).1; have := HNl.out; omega) h1 h2)
        have hE := HE.out
        rw [if_pos HInc.out] at hE
        have HE := Lib.hid hE
        have hil : ¬ (i : Int) < (nl : Int) := by omega
        clear hE HQ
        go_wp2_with fail
        (with_reducible refine (HVe.out wr HB.out).mono ?_)
        rintro e w2 ⟨⟨r, rfl, hr⟩, hb⟩
        have HB2 := Lib.hid (HB.out.trans (hb.mono HB.out.size))
        have HH := Lib.hid (fun z Y (h : Below w2.heap.size w2 Y) => rhas_any r A z Y (hr.step h) (by have := HAl.out; omega))
        obtain ⟨Ar, cr, rfl, _⟩ := hr.form
        clear hr hb k0 k1
        obtain ⟨k0, k1⟩ := HX.out w2 HB2.out
        go_wp2_with fail
        go_loopw [13] (fun iv wq => ∃ q : Nat, iv = .int .i64 (q : Int) ∧ q ≤ nl ∧ (∀ p z, p < q → l[p]? = some z → z ∈ A) ∧ Below w2.heap.size w2 wq) (fun iv _ => nl - (intOf iv).toNat)
        case atStart => exact ⟨0, rfl, by omega, fun p z hp => absurd hp (by omega), Below.refl _ _⟩
        case round =>
          obtain ⟨q, rfl, hqn, hq, hb⟩ := hrel
          have HQ := Lib.hid hq
          have HBq := Lib.hid (And.intro hb (HB2.out.trans (hb.mono HB2.out.size)))
          clear hq hb k0 k1
          obtain ⟨k0, k1⟩ := HX.out wr HBq.out.2
          by_cases hqt : q < nl
          · obtain ⟨z, ad, hz, rfl, _, hcz⟩ := (HIu.out.below HBq.out.2).at_ HNl.out hqt
            have HZ := Lib.hid hz
            have HH1 := HH.out z wr HBq.out.1
            have hql : (q : Int) < (nl : Int) := by omega
            clear hz
            by_cases hzA : z ∈ A
            · rw [decide_eq_true hzA] at HH1
              have HN := Lib.hid (show ∀ p z, p < q + 1 → l[p]? = some z → z ∈ A from fun p y hp hy => by
                by_cases h1 : p < q
                · exact HQ.out p y h1 hy
                · obtain rfl : p = q := by omega
                  rw [HZ.out] at hy; injection hy with hy; rw [← hy]; exact hzA)
              have HH1 := Lib.hid HH1
              clear hzA
              go_wp2_with fail
              (with_reducible refine HH1.out.mono ?_)
              rintro e w3 ⟨rfl, hb⟩
              have HB3 := Lib.hid (HBq.out.1.trans (hb.mono HBq.out.1.size))
              clear hb hcz
              go_wp2_with fail
              go_roundw
              case rel => exact ⟨q + 1, by go_num, by omega, HN.out, HB3.out⟩
              case measure => simp [intOf]; omega
            · rw [decide_eq_false hzA] at HH1
              have hE := HE.out
              rw [if_neg (fun h => hzA (h z (List.mem_of_getElem? HZ.out)))] at hE
              injection hE with h1 h2
              subst h1 h2
              have HH1 := Lib.hid HH1
              clear hzA HE
              go_wp2_with fail
              (with_reducible refine HH1.out.mono ?_)
              rintro e w3 ⟨rfl, hb⟩
              have HB3 := Lib.hid (HB0.out.trans ((HBq.out.2.trans (hb.mono HBq.out.2.size)).mono HB0.out.size))
              clear hb hcz
              go_wp2_with fail
              go_ret2
              exact OutN.nil HB3.out
          · have HSub := Lib.hid (show ∀ z ∈ l, z ∈ A from fun z hz => by
              obtain ⟨p, hp, e⟩ := List.getElem_of_mem hz
              exact HQ.out p z (by have := HNl.out; omega) (by rw [← e]; exact List.getElem?_eq_getElem hp))
            have hE := HE.out
            rw [if_pos HSub.out] at hE
            injection hE with h1 h2
            subst h1 h2
            have hql : ¬ (q : Int) < (nl : Int) := by omega
            have HXc := Lib.hid (show ∀ Y, Below wr.heap.size wr Y → Below W0.heap.size W0 Y from fun Y h => HBq.out.2.trans (h.mono HBq.out.2.size))
            clear HE HQ
            go_wp2_with fail
            refine wp_opaque ?_
            intro t0 ht0
            have hsz0 : t0.size = 60 := by rw [ht0]; rfl
            have t1 : t0.getD 1 undef = .int .i64 (k : Int) := by rw [ht0]; rfl
            have t2 : t0.getD 2 undef = .slice Au nl cu := by rw [ht0]; rfl
            have t3 : t0.getD 3 undef = .int .i64 (j : Int) := by rw [ht0]; rfl
            have t4 : t0.getD 4 undef = .pointer (some ⟨w.heap.size, 0, none⟩) := by rw [ht0]; rfl
            have HT0 := Lib.hid ht0
            clear ht0
            refine wp_region_vals [some 53, some 54, some 55, some 56, some 57, some 58, some 59, some 8, some 9] (AlI wr.drew l (fun u X => InSl X X.heap.size u (mns b.chs k l j) ∧ Below W0.heap.size W0 X) (.agg #[.slice A1 b.first.length c1, .slice A2 b.chs.length c2]) (.int .i64 (k : Int)) (.slice Au nl cu) (.int .i64 (j : Int))) (by kernel_rfl) (by kernel_rfl) rfl rfl (by simp [hsz0]) (by kernel_rfl) ?_ ?_ ?_
            · intro val
              exact ⟨(fun h => nomatch h), (fun h => nomatch h), (fun h => nomatch h), (fun h => nomatch h), (fun h => nomatch h), fun _ => Below.refl _ _, (fun h => nomatch h), (fun h => nomatch h), (fun h => nomatch h), (fun h => nomatch h)⟩
            · intro dn q' o hi hd hp hc val X a ha hn hI K hK
              have hq' : q' < 9 := by
                have := (Array.getElem?_eq_some_iff.1 hi).1
                simpa using this
              have c4 : dn 4 = true → dn 2 = true ∧ dn 3 = true := fun h => ⟨hc 4 _ rfl h ⟨2, .data⟩ (by simp) rfl, hc 4 _ rfl h ⟨3, .data⟩ (by simp) rfl⟩
              have c6 : dn 6 = true → dn 0 = true ∧ dn 1 = true ∧ dn 4 = true ∧ dn 5 = true := fun h => ⟨hc 6 _ rfl h ⟨0, .data⟩ (by simp) rfl, hc 6 _ rfl h ⟨1, .data⟩ (by simp) rfl, hc 6 _ rfl h ⟨4, .data⟩ (by simp) rfl, hc 6 _ rfl h ⟨5, .data⟩ (by simp) rfl⟩
              have c7 : dn 7 = true → dn 6 = true := fun h => hc 7 _ rfl h ⟨6, .data⟩ (by simp) rfl
              have bf : ∀ {q : Bool}, (q = true → False) → q = false := fun {q} h => by cases q; rfl; exact (h rfl).elim
              have hb3 : dn 6 = false → Below W0.heap.size W0 X := fun n6 => HXc.out X ((Below.refl _ _).drew.trans (hI.bel n6))
              rcases (show q' = 0 ∨ q' = 1 ∨ q' = 2 ∨ q' = 3 ∨ q' = 4 ∨ q' = 5 ∨ q' = 6 ∨ q' = 7 ∨ q' = 8 by omega) with rfl | rfl | rfl | rfl | rfl | rfl | rfl | rfl | rfl
              · obtain rfl := Option.some.inj hi
                have n6 : dn 6 = false := bf fun h => f_t hd (c6 h).1
                obtain ⟨e0, e1⟩ := HX.out X (hb3 n6)
                exact opLdB 4 _ _ _ rfl ((ha 4).trans t4) e0 e1 (hK _ _ hI.op0)
              · obtain rfl := Option.some.inj hi
                exact opMove 1 _ rfl ((ha 1).trans t1) (hK _ _ hI.op1)
              · obtain rfl := Option.some.inj hi
                have n4 : dn 4 = false := bf fun h => f_t hd (c4 h).1
                have n6 : dn 6 = false := bf fun h => f_t n4 (c6 h).2.2.1
                exact opNew rfl (hK _ _ (hI.op2 n4 n6 (bf fun h => f_t n6 (c7 h))))
              · obtain rfl := Option.some.inj hi
                exact opMove 2 _ rfl ((ha 2).trans t2) (hK _ _ hI.op3)
              · obtain rfl := Option.some.inj hi
                have y2 := hp ⟨2, .data⟩ (by simp) rfl
                have y3 := hp ⟨3, .data⟩ (by simp) rfl
                have n6 : dn 6 = false := bf fun h => f_t hd (c6 h).2.2.1
                exact run_appN (.tmp 55) (.tmp 56) rfl (hI.e2 y2 hd) (ha 55) ((ha 56).trans (hI.s3 y3)) (HU.out.step (hb3 n6)) (by have := HNl.out; simp only [List.length_nil]; omega) (fun v' w' h1 _ _ => hK _ _ (hI.op4 n6 (bf fun h => f_t n6 (c7 h)) h1))
              · obtain rfl := Option.some.inj hi
                exact opMove 3 _ rfl ((ha 3).trans t3) (hK _ _ hI.op5)
              · obtain rfl := Option.some.inj hi
                have y0 := hp ⟨0, .data⟩ (by simp) rfl
                have y1 := hp ⟨1, .data⟩ (by simp) rfl
                have y4 := hp ⟨4, .data⟩ (by simp) rfl
                have y5 := hp ⟨5, .data⟩ (by simp) rfl
                have hbX := hb3 hd
                refine opCallM 53 54 57 58 _ _ _ _ _ rfl ((ha 53).trans (hI.s0 y0)) ((ha 54).trans (hI.s1 y1)) (ha 57) ((ha 58).trans (hI.s5 y5)) (HMe.out X _ hbX HInc.out HSub.out (hI.e4 y4 hd).sl) ?_
                rintro e Y ⟨⟨u, rfl, hu⟩, hb⟩
                exact ⟨_, rfl, hK _ _ (hI.op6 y4 (bf fun h => f_t hd (c7 h)) ⟨hu, hbX.trans (hb.mono hbX.size)⟩)⟩
              · obtain rfl := Option.some.inj hi
                exact opAssign 59 _ rfl (ha 59) (hK _ _ hI.op7)
              · obtain rfl := Option.some.inj hi
                exact opConst _ rfl (hK _ _ hI.op8)
            · intro dn val X hdn hI
              have HS5 := Lib.hid (hI.e6 (hdn 6 (by simp)))
              have e7 := hI.e7 (hdn 7 (by simp))
              have e8 := hI.s8 (hdn 8 (by simp))
              clear hdn hI
              simp only [wrS, HT0.out, e7, e8]
              simp only [List.setIfInBounds_toArray, List.set_cons_succ, List.set_cons_zero]
              simp only [Exit.then]
              clear e7 e8 t1 t2 t3 t4 hsz0 HT0
              go_wp2_with fail
              go_ret2
              exact OutN.mk HS5.out.1 (HB0.out.trans (HS5.out.2.mono HB0.out.size))
  · rw [if_neg he] at hE
    injection hE with h1 h2
    subst h1 h2
    have hb2 : (oE == 0) = false := by simpa using he
    have hb3 : (oE != 0) = true := by simpa using he
    clear hZ HBk
    go_enter Try.func39, Try.ntmps39
    go_wp2_with fail
    rw [HW0.out]
    (with_reducible refine (HV.out).mono ?_)
    rintro e w1 ⟨rfl, hb⟩
    have HB1 := Lib.hid (hb)
    clear hb
    go_wp2_with fail
    go_ret2
    exact OutN.nil (HB0.out.trans (HB1.out.mono HB0.out.size))
end Go.Proofs.Ytplpogonkfnafaa
