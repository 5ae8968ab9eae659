/- The reference's put, forth, back, mean: whose memory their results are. -/
import Derived.Test.YtplpogonkfnafaaGreatNmMt
import Derived.Test.YtplpogonkfnafaaGreatNmPe
namespace Go.Proofs.YtplpogonkfnafaaGreat
open Go.RowKit Go.Nm

/-- a list whose memory, if it is a block's of the call's own, lies above B -/
structure InW (B : Nat) (w : World) (n : Nat) (v : Value) (L : List Int) : Prop where
  sl : InSl w n v L
  own : ∀ g, v.ownBlock = some g → B ≤ g
theorem InW.step {B : Nat} {w w' : World} {v : Value} {L : List Int} (h : InW B w w.heap.size v L) (hb : Below w.heap.size w w') : InW B w' w'.heap.size v L := ⟨h.sl.step hb, h.own⟩
theorem InW.form {B n : Nat} {w : World} {v : Value} {L : List Int} (h : InW B w n v L) : ∃ A c, v = .slice A L.length c ∧ L.length ≤ c ∧ c ≤ maxLen := h.sl.form
theorem InW.nil (B : Nat) (w : World) (n : Nat) : InW B w n (.slice none 0 0) [] := ⟨InSl.nil _ _, fun _ e => nomatch e⟩
theorem InW.low {B B' n : Nat} {w : World} {v : Value} {L : List Int} (h : InW B w n v L) (hb : B' ≤ B) : InW B' w n v L := ⟨h.sl, fun g e => Nat.le_trans hb (h.own g e)⟩
set_option maxRecDepth 100000 in
set_option maxHeartbeats 16000000 in
theorem rput_new (u : Value) (L : List Int) (x : Int) (w : World) (B : Nat) (hBw : B ≤ w.heap.size) (hu0 : InW B w w.heap.size u L) (hL : L.length ≤ 1000000) :
    Calls Tryz.prog 36 #[u, .int .i64 x] w fun e w' => (∃ r, e = .returned r ∧ InW B w' w'.heap.size r (rputF x L)) ∧ Below w.heap.size w w' := by
  have hu := hu0.sl
  have HU0 := Lib.hid hu0.own
  have HU := Lib.hid hu
  obtain ⟨A, c, rfl, hc, hcm, hA⟩ := hu
  have HA := Lib.hid hA
  have HF := Lib.hid (fun (i : Nat) => @rputF_at x L i)
  obtain ⟨R, hR⟩ : ∃ R, rputF x L = R := ⟨_, rfl⟩
  simp only [hR] at HF ⊢
  clear hA hR hu0
  obtain ⟨n, hn⟩ : ∃ n, L.length = n := ⟨_, rfl⟩
  have HL := Lib.hid hn
  rw [hn] at HU HU0 hL hc ⊢
  clear hn
  go_enter Tryz.func36, Tryz.ntmps36
  go_wp2_with fail
  go_loopw [5] (fun iv wr => ∃ i : Nat, iv = .int .i64 (i : Int) ∧ i ≤ n ∧ (∀ j z, j < i → L[j]? = some z → z < x) ∧ Below w.heap.size w wr) (fun iv _ => n - (intOf iv).toNat)
  case atStart => exact ⟨0, rfl, by omega, fun j z hj => absurd hj (by omega), Below.refl _ _⟩
  case round =>
    obtain ⟨i, rfl, hin, hq, hb⟩ := hrel
    have HQ := Lib.hid hq
    have HBl := Lib.hid hb
    clear hq hb
    by_cases hlt : i < n
    · obtain ⟨y, ad, hy, rfl, hbd, hcy⟩ := (HA.out.below HBl.out).at_ HL.out hlt
      have HY := Lib.hid hy
      clear hy hbd
      by_cases hyx : y < x
      · have HN := Lib.hid (show ∀ j z, j < i + 1 → L[j]? = some z → z < x from fun j z hj hz => by
          by_cases h1 : j < i
          · exact HQ.out j z h1 hz
          · obtain rfl : j = i := by omega
            rw [HY.out] at hz; injection hz with hz; rw [← hz]; exact hyx)
        go_wp2_with fail
        go_roundw
        case rel => exact ⟨i + 1, by go_num, by omega, HN.out, HBl.out⟩
        case measure => simp [intOf]; omega
      · have HE := Lib.hid (HF.out i HQ.out (by have := HL.out; omega) (fun z hz => by rw [HY.out] at hz; injection hz with hz; omega))
        by_cases he : y = x
        · have hR := HE.out
          rw [HY.out, if_pos (by rw [he])] at hR
          have HR := Lib.hid hR
          clear hR
          subst he
          go_wp2_with fail
          go_ret
          exact ⟨⟨_, rfl, ⟨by rw [HR.out]; exact HU.out.step HBl.out, HU0.out⟩⟩, HBl.out⟩
        · have hR := HE.out
          rw [HY.out, if_neg (by intro h; injection h with h; exact he h)] at hR
          have HR := Lib.hid hR
          have hb2 : (y == x) = false := by simpa using he
          clear hR HE HF HQ
          have HDz := Lib.hid (fun X (hb : Below w.heap.size w X) => show InSl X w.heap.size (.slice (some (ad.add i)) (n - i) (c - i)) (L.drop i) from InSl.drop (i := i) (HU.out.below hb) (by have := HL.out; omega))
          have HI0 := Lib.hid (show OwN w (.slice (some ⟨wr.heap.size, 0, none⟩) 0 0) [] (wr.alloc (.cells #[] 3)) from ⟨HBl.out.trans ((below_new _).mono HBl.out.size), World.ownsRow_lit (size := 1) wr #[] 0 HBl.out.size (by unfold maxLen; omega) rfl⟩)
          have HTl := Lib.hid (show (L.take i).length = i from by rw [List.length_take]; have := HL.out; omega)
          have HDl := Lib.hid (show (L.drop i).length ≤ 1000000 from by rw [List.length_drop]; have := HL.out; omega)
          have HBw := Lib.hid (show Below w.heap.size w (wr.alloc (.cells #[] 3)) from HBl.out.trans ((below_new _).mono HBl.out.size))
          go_wp2_with (at_builtin; first | (refine wpList_appN rfl _ _ rfl HO5.out rfl rfl (HDz.out _ HO5.out.bel) (by have := HTl.out; have := HDl.out; simp only [List.length_append, List.length_singleton]; omega) ?_; intro v6 w6 hO6 hg6; have HO6 := Lib.hid hO6; clear hO6 hg6) | (refine wpList_appN rfl _ _ rfl (HO4.out.step (below_new _)) rfl rfl (one_sl _ x) (by have := HTl.out; simp only [List.length_singleton]; omega) ?_; intro v5 w5 hO5 hg5; have HO5 := Lib.hid hO5; clear hO5 hg5) | (refine wpList_appN rfl _ _ rfl HI0.out rfl rfl (InSl.take (i := i) (HU.out.below HBw.out) (by have := HL.out; omega)) (by have := HTl.out; simp only [List.length_nil]; omega) ?_; intro v4 w4 hO4 hg4; rw [List.nil_append] at hO4; have HO4 := Lib.hid hO4; clear hO4 hg4))
          all_goals (go_ret; exact ⟨⟨_, rfl, ⟨by rw [HR.out]; have h := HO6.out.sl; rw [List.append_assoc, List.singleton_append] at h; exact h, fun g e => Nat.le_trans hBw ((HO6.out.own.lt g e).1)⟩⟩, HO6.out.bel⟩)
    · obtain rfl : i = n := by omega
      have hR := HF.out i HQ.out (by have := HL.out; omega) (fun z hz => by have := (List.getElem?_eq_some_iff.1 hz).1; have := HL.out; omega)
      rw [if_neg (by intro h; have := (List.getElem?_eq_some_iff.1 h).1; have := HL.out; omega)] at hR
      have HR := Lib.hid hR
      clear hR HF HQ
      cases A with
      | none =>
        have hi0 : i = 0 := by rw [← HL.out, HA.out.none_nil]; rfl
        subst hi0
        have HDz := Lib.hid (fun X (hb : Below w.heap.size w X) => show InSl X w.heap.size (.slice none 0 c) (L.drop 0) from (HU.out.below hb))
        have HI0 := Lib.hid (show OwN w (.slice (some ⟨wr.heap.size, 0, none⟩) 0 0) [] (wr.alloc (.cells #[] 3)) from ⟨HBl.out.trans ((below_new _).mono HBl.out.size), World.ownsRow_lit (size := 1) wr #[] 0 HBl.out.size (by unfold maxLen; omega) rfl⟩)
        have HTl := Lib.hid (show (L.take 0).length = 0 from by rw [List.length_take]; have := HL.out; omega)
        have HDl := Lib.hid (show (L.drop 0).length ≤ 1000000 from by rw [List.length_drop]; have := HL.out; omega)
        have HBw := Lib.hid (show Below w.heap.size w (wr.alloc (.cells #[] 3)) from HBl.out.trans ((below_new _).mono HBl.out.size))
        go_wp2_with (at_builtin; first | (refine wpList_appN rfl _ _ rfl HO5.out rfl rfl (HDz.out _ HO5.out.bel) (by have := HTl.out; have := HDl.out; simp only [List.length_append, List.length_singleton]; omega) ?_; intro v6 w6 hO6 hg6; have HO6 := Lib.hid hO6; clear hO6 hg6) | (refine wpList_appN rfl _ _ rfl (HO4.out.step (below_new _)) rfl rfl (one_sl _ x) (by have := HTl.out; simp only [List.length_singleton]; omega) ?_; intro v5 w5 hO5 hg5; have HO5 := Lib.hid hO5; clear hO5 hg5) | (refine wpList_appN rfl _ _ rfl HI0.out rfl rfl (InSl.take (i := 0) (HU.out.below HBw.out) (by have := HL.out; omega)) (by have := HTl.out; simp only [List.length_nil]; omega) ?_; intro v4 w4 hO4 hg4; rw [List.nil_append] at hO4; have HO4 := Lib.hid hO4; clear hO4 hg4))
        all_goals (go_ret; exact ⟨⟨_, rfl, ⟨by rw [HR.out]; have h := HO6.out.sl; rw [List.append_assoc, List.singleton_append] at h; exact h, fun g e => Nat.le_trans hBw ((HO6.out.own.lt g e).1)⟩⟩, HO6.out.bel⟩)

      | some ad =>
        have HDz := Lib.hid (fun X (hb : Below w.heap.size w X) => show InSl X w.heap.size (.slice (if c = i then some ad else some (ad.add i)) 0 (c - i)) (L.drop i) from ⟨_, c - i, by rw [List.drop_eq_nil_of_le (by have := HL.out; omega)]; rfl, by rw [List.drop_eq_nil_of_le (by have := HL.out; omega)]; exact Nat.zero_le _, by omega, by rw [List.drop_eq_nil_of_le (by have := HL.out; omega)]; exact InA.nil _ _ _⟩)
        have HI0 := Lib.hid (show OwN w (.slice (some ⟨wr.heap.size, 0, none⟩) 0 0) [] (wr.alloc (.cells #[] 3)) from ⟨HBl.out.trans ((below_new _).mono HBl.out.size), World.ownsRow_lit (size := 1) wr #[] 0 HBl.out.size (by unfold maxLen; omega) rfl⟩)
        have HTl := Lib.hid (show (L.take i).length = i from by rw [List.length_take]; have := HL.out; omega)
        have HDl := Lib.hid (show (L.drop i).length ≤ 1000000 from by rw [List.length_drop]; have := HL.out; omega)
        have HBw := Lib.hid (show Below w.heap.size w (wr.alloc (.cells #[] 3)) from HBl.out.trans ((below_new _).mono HBl.out.size))
        go_wp2_with (at_builtin; first | (refine wpList_appN rfl _ _ rfl HO5.out rfl rfl (HDz.out _ HO5.out.bel) (by have := HTl.out; have := HDl.out; simp only [List.length_append, List.length_singleton]; omega) ?_; intro v6 w6 hO6 hg6; have HO6 := Lib.hid hO6; clear hO6 hg6) | (refine wpList_appN rfl _ _ rfl (HO4.out.step (below_new _)) rfl rfl (one_sl _ x) (by have := HTl.out; simp only [List.length_singleton]; omega) ?_; intro v5 w5 hO5 hg5; have HO5 := Lib.hid hO5; clear hO5 hg5) | (refine wpList_appN rfl _ _ rfl HI0.out rfl rfl (InSl.take (i := i) (HU.out.below HBw.out) (by have := HL.out; omega)) (by have := HTl.out; simp only [List.length_nil]; omega) ?_; intro v4 w4 hO4 hg4; rw [List.nil_append] at hO4; have HO4 := Lib.hid hO4; clear hO4 hg4))
        all_goals (go_ret; exact ⟨⟨_, rfl, ⟨by rw [HR.out]; have h := HO6.out.sl; rw [List.append_assoc, List.singleton_append] at h; exact h, fun g e => Nat.le_trans hBw ((HO6.out.own.lt g e).1)⟩⟩, HO6.out.bel⟩)
set_option maxRecDepth 100000 in
set_option maxHeartbeats 16000000 in
theorem rforth_new (vf vt u : Value) (x : Ch) (l : List Int) (w : World) (hf : InSl w w.heap.size vf x.fr) (ht : InSl w w.heap.size vt x.to) (hu : InSl w w.heap.size u l) (hF : x.fr.length ≤ 1000) (hT : x.to.length ≤ 1000) (hl : l.length ≤ 400) :
    Calls Tryz.prog 51 #[.agg #[.int .i64 x.yr, vf, vt], u] w fun e w' => (∃ r, e = .returned r ∧ InW w.heap.size w' w'.heap.size r (rforthF x l)) ∧ Below w.heap.size w w' := by
  obtain ⟨Af, cf, rfl, _⟩ := hf.form
  obtain ⟨At, ct, rfl, _⟩ := ht.form
  obtain ⟨Au, cu, rfl, _⟩ := hu.form
  obtain ⟨W0, hW0⟩ : ∃ W0, w.alloc (.cells #[.int .i64 x.yr, .slice Af x.fr.length cf, .slice At x.to.length ct] 52) = W0 := ⟨_, rfl⟩
  have hb0 : Below w.heap.size w W0 := by rw [← hW0]; exact below_new _
  have HB0 := Lib.hid hb0
  have HU := Lib.hid (hu.step hb0)
  have HBx := Lib.hid (show ∀ Y, Below W0.heap.size W0 Y → Y.cell? ⟨w.heap.size, 0, none⟩ = some (.int .i64 x.yr) ∧ Y.cell? ⟨w.heap.size, 1, none⟩ = some (.slice Af x.fr.length cf) ∧ Y.cell? ⟨w.heap.size, 2, none⟩ = some (.slice At x.to.length ct) from fun Y hY => by
    have h := World.alloc_heap_new w (.cells #[.int .i64 x.yr, .slice Af x.fr.length cf, .slice At x.to.length ct] 52)
    rw [hW0] at h
    exact cells_three ((hY.block _ (Array.getElem?_eq_some_iff.1 h).1).trans h))
  have HGo := Lib.hid (fun z Y (h : Below W0.heap.size W0 Y) => rgoes_any _ _ x z Y ((hf.step hb0).step h) ((ht.step hb0).step h) (by omega))
  have HGl := Lib.hid (goesF_len hT (by omega))
  have HW0 := Lib.hid hW0
  obtain ⟨R, hR⟩ : ∃ R, rforthF x l = R := ⟨_, rfl⟩
  have HR := Lib.hid hR
  rw [hR]
  obtain ⟨n, hn⟩ : ∃ n, l.length = n := ⟨_, rfl⟩
  have HN := Lib.hid hn
  rw [hn] at HU hl ⊢
  clear hf ht hu hb0 hW0 hR hn
  obtain ⟨d0, d1, d2⟩ := HBx.out W0 (Below.refl _ _)
  go_enter Tryz.func51, Tryz.ntmps51
  go_wp2_with fail
  rw [HW0.out]
  go_loopw [5, 6] (fun ov iv wr => ∃ i : Nat, iv = .int .i64 (i : Int) ∧ i ≤ n ∧ InW w.heap.size wr wr.heap.size ov ((l.take i).foldl (fun o z => putsF o (goesF x z)) []) ∧ Below W0.heap.size W0 wr) (fun _ iv _ => n - (intOf iv).toNat)
  case atStart => exact ⟨0, rfl, by omega, InW.nil _ _ _, Below.refl _ _⟩
  case round =>
    obtain ⟨i, rfl, hin, hO, hb⟩ := hrel
    have HO := Lib.hid hO
    have HB := Lib.hid hb
    clear d0 d1 d2 hO hb
    obtain ⟨d0, d1, d2⟩ := HBx.out wr HB.out
    by_cases hlt : i < n
    · obtain ⟨z, ad, hz, rfl, hbd, hcz⟩ := ((show InA W0 W0.heap.size Au l from by obtain ⟨_, _, e, _, _, h⟩ := HU.out; cases e; exact h).below HB.out).at_ HN.out hlt
      have HNx := Lib.hid (fold_next (f := fun o z => putsF o (goesF x z)) (o := []) hz)
      have hOl := forthG_len (x := x) (l := l.take i) (o := []) HGl.out
      rw [List.length_take, List.length_nil] at hOl
      have hOl2 : ((l.take i).foldl (fun o z => putsF o (goesF x z)) []).length ≤ 400000 := by
        have : 1000 * min i l.length ≤ 1000 * 400 := Nat.mul_le_mul_left _ (by have := HN.out; omega)
        omega
      have HOl := Lib.hid hOl2
      have HG := Lib.hid (HGo.out z wr.drew HB.out.drew)
      have HGz := Lib.hid (HGl.out z)
      obtain ⟨O, hOe⟩ : ∃ O, (l.take i).foldl (fun o z => putsF o (goesF x z)) [] = O := ⟨_, rfl⟩
      obtain ⟨G, hGe⟩ : ∃ G, goesF x z = G := ⟨_, rfl⟩
      rw [hOe, hGe] at HNx
      rw [hOe] at HO HOl
      rw [hGe] at HG HGz
      clear hz hbd hOl hOl2 hOe hGe
      go_wp2_with fail
      refine wp_region_tail 5 (by kernel_rfl) (by kernel_rfl) ?_
      simp only [List.take_succ_cons, List.take_zero, List.drop_succ_cons, List.drop_zero]
      iterate 5 ((with_reducible refine wpStill_step ?_); intro K hK; go_simp; (try (refine ite_neg_of (by simp [undef] <;> assumption) ?_)); (with_reducible refine hK _ ?_); clear hK K)
      (with_reducible refine wpStill_nil ?_)
      go_wp2_with fail
      (with_reducible refine HG.out.mono ?_)
      rintro e W2 ⟨⟨lv, rfl, hlv, _⟩, hb⟩
      have HB2 := Lib.hid (show Below wr.heap.size wr W2 from (Below.refl _ _).drew.trans hb)
      have HL := Lib.hid hlv
      have HO2 := Lib.hid (HO.out.step HB2.out)
      have HB3 := Lib.hid (HB.out.trans (HB2.out.mono HB.out.size))
      obtain ⟨Al, cl, rfl, _⟩ := hlv.form
      obtain ⟨m, hm⟩ : ∃ m, G.length = m := ⟨_, rfl⟩
      have HM := Lib.hid hm
      rw [hm] at HL HGz ⊢
      have hm1 : m ≤ 1000 := HGz.out
      clear d0 d1 d2 hb hlv hcz hm HG
      go_wp2_with fail
      go_loopw [5, 8] (fun ov kv wq => ∃ k : Nat, kv = .int .i64 (k : Int) ∧ k ≤ m ∧ InW w.heap.size wq wq.heap.size ov (putsF O (G.take k)) ∧ Below W2.heap.size W2 wq) (fun _ kv _ => m - (intOf kv).toNat)
      case atStart => exact ⟨0, rfl, by omega, HO2.out, Below.refl _ _⟩
      case round =>
        obtain ⟨k, rfl, hkm, hO, hb⟩ := hrel
        have HOk := Lib.hid hO
        have HBk := Lib.hid hb
        have HBk3 := Lib.hid (HB3.out.trans (hb.mono HB3.out.size))
        clear hO hb
        by_cases hkt : k < m
        · obtain ⟨y, adl, hy, rfl, _, hcy⟩ := ((show InA W2 W2.heap.size Al G from by obtain ⟨_, _, e, _, _, h⟩ := HL.out; cases e; exact h).below HBk.out).at_ HM.out hkt
          have HNy := Lib.hid (show putsF O (G.take (k + 1)) = rputF y (putsF O (G.take k)) from fold_next (f := fun o n => rputF n o) hy)
          have hpl := putsF_len (G.take k) O
          rw [List.length_take] at hpl
          have HPu := Lib.hid (rput_new _ (putsF O (G.take k)) y wr w.heap.size (Nat.le_trans HB0.out.size HBk3.out.size) HOk.out (by have := HOl.out; omega))
          rw [← HNy.out] at HPu
          clear hy hpl
          go_wp2_with fail
          (with_reducible refine HPu.out.mono ?_)
          rintro e W3 ⟨⟨rv, rfl, hr⟩, hb⟩
          have HR3 := Lib.hid hr
          have HB4 := Lib.hid (HBk.out.trans (hb.mono HBk.out.size))
          clear hr hb hcy
          go_wp2_with fail
          go_roundw
          case rel => exact ⟨k + 1, by go_num, by omega, HR3.out, HB4.out⟩
          case measure => simp [intOf]; omega
        · have HE := Lib.hid (show G.take k = G from List.take_of_length_le (by have := HM.out; omega))
          go_wp2_with fail
          go_roundw
          case rel => exact ⟨i + 1, by go_num, by omega, by rw [HNx.out, ← HE.out]; have h := HOk.out; rw [HE.out] at h ⊢; exact h, HBk3.out⟩
          case measure => simp [intOf]; omega
    · have HE := Lib.hid (show (l.take i).foldl (fun o z => putsF o (goesF x z)) [] = R from by rw [List.take_of_length_le (by have := HN.out; omega)]; exact HR.out)
      go_wp2_with fail
      go_ret
      exact ⟨⟨_, rfl, by rw [← HE.out]; exact HO.out⟩, HB0.out.trans (HB.out.mono HB0.out.size)⟩
set_option maxRecDepth 100000 in
set_option maxHeartbeats 16000000 in
theorem rback_new (vf vt va u : Value) (x : Ch) (A l : List Int) (w : World) (hf : InSl w w.heap.size vf x.fr) (ht : InSl w w.heap.size vt x.to) (ha : InSl w w.heap.size va A) (hu : InSl w w.heap.size u l) (hF : x.fr.length ≤ 1000) (hT : x.to.length ≤ 1000) (hA : A.length ≤ 400) (hl : l.length ≤ 400) :
    Calls Tryz.prog 52 #[.agg #[.int .i64 x.yr, vf, vt], va, u] w fun e w' => (∃ r, e = .returned r ∧ InW w.heap.size w' w'.heap.size r (rbackF x A l)) ∧ Below w.heap.size w w' := by
  obtain ⟨Af, cf, rfl, _⟩ := hf.form
  obtain ⟨At, ct, rfl, _⟩ := ht.form
  obtain ⟨Aa, ca, rfl, _⟩ := ha.form
  obtain ⟨Au, cu, rfl, _⟩ := hu.form
  obtain ⟨W0, hW0⟩ : ∃ W0, w.alloc (.cells #[.int .i64 x.yr, .slice Af x.fr.length cf, .slice At x.to.length ct] 52) = W0 := ⟨_, rfl⟩
  have hb0 : Below w.heap.size w W0 := by rw [← hW0]; exact below_new _
  have HB0 := Lib.hid hb0
  have HV := Lib.hid (ha.step hb0)
  have HH := Lib.hid (fun z Y (h : Below W0.heap.size W0 Y) => rhas_any _ l z Y ((hu.step hb0).step h) (by omega))
  have HBx := Lib.hid (show ∀ Y, Below W0.heap.size W0 Y → Y.cell? ⟨w.heap.size, 0, none⟩ = some (.int .i64 x.yr) ∧ Y.cell? ⟨w.heap.size, 1, none⟩ = some (.slice Af x.fr.length cf) ∧ Y.cell? ⟨w.heap.size, 2, none⟩ = some (.slice At x.to.length ct) from fun Y hY => by
    have h := World.alloc_heap_new w (.cells #[.int .i64 x.yr, .slice Af x.fr.length cf, .slice At x.to.length ct] 52)
    rw [hW0] at h
    exact cells_three ((hY.block _ (Array.getElem?_eq_some_iff.1 h).1).trans h))
  have HGo := Lib.hid (fun z Y (h : Below W0.heap.size W0 Y) => rgoes_any _ _ x z Y ((hf.step hb0).step h) ((ht.step hb0).step h) (by omega))
  have HGl := Lib.hid (goesF_len hT (by omega))
  have HW0 := Lib.hid hW0
  obtain ⟨R, hR⟩ : ∃ R, rbackF x A l = R := ⟨_, rfl⟩
  have HR := Lib.hid hR
  rw [hR]
  obtain ⟨n, hn⟩ : ∃ n, A.length = n := ⟨_, rfl⟩
  have HN := Lib.hid hn
  rw [hn] at HV hA ⊢
  clear hf ht hu ha hb0 hW0 hR hn
  obtain ⟨d0, d1, d2⟩ := HBx.out W0 (Below.refl _ _)
  go_enter Tryz.func52, Tryz.ntmps52
  go_wp2_with fail
  rw [HW0.out]
  go_loopw [7, 8] (fun ov iv wr => ∃ i : Nat, iv = .int .i64 (i : Int) ∧ i ≤ n ∧ InW w.heap.size wr wr.heap.size ov ((A.take i).foldl (backS x l) []) ∧ Below W0.heap.size W0 wr) (fun _ iv _ => n - (intOf iv).toNat)
  case atStart => exact ⟨0, rfl, by omega, InW.nil _ _ _, Below.refl _ _⟩
  case round =>
    obtain ⟨i, rfl, hin, hO, hb⟩ := hrel
    have HO := Lib.hid hO
    have HB := Lib.hid hb
    clear d0 d1 d2 hO hb
    obtain ⟨d0, d1, d2⟩ := HBx.out wr HB.out
    by_cases hlt : i < n
    · obtain ⟨z, ad, hz, rfl, hbd, hcz⟩ := ((show InA W0 W0.heap.size Aa A from by obtain ⟨_, _, e, _, _, h⟩ := HV.out; cases e; exact h).below HB.out).at_ HN.out hlt
      have HNx := Lib.hid (fold_next (f := backS x l) (o := []) hz)
      have hOl := backG_len (x := x) (l := l) (A := A.take i) (o := []) HGl.out
      rw [List.length_take, List.length_nil] at hOl
      have hOl2 : ((A.take i).foldl (backS x l) []).length ≤ 400000 := by
        have : 1000 * min i A.length ≤ 1000 * 400 := Nat.mul_le_mul_left _ (by have := HN.out; omega)
        omega
      have HOl := Lib.hid hOl2
      have HG := Lib.hid (HGo.out z wr.drew HB.out.drew)
      have HGz := Lib.hid (HGl.out z)
      have hS : ∀ O, backS x l O z = (goesF x z).foldl (fun o m => if m ∈ l then rputF z o else o) O := fun _ => rfl
      rw [hS] at HNx
      obtain ⟨O, hOe⟩ : ∃ O, (A.take i).foldl (backS x l) [] = O := ⟨_, rfl⟩
      obtain ⟨G, hGe⟩ : ∃ G, goesF x z = G := ⟨_, rfl⟩
      rw [hOe, hGe] at HNx
      rw [hOe] at HO HOl
      rw [hGe] at HG HGz
      have HCz := Lib.hid (fun Y (h : Below wr.heap.size wr Y) => (h.cell (World.block_lt_of_cell? _ _ hcz)).trans hcz)
      clear hz hbd hOl hOl2 hOe hGe hS
      go_wp2_with fail
      refine wp_region_tail 5 (by kernel_rfl) (by kernel_rfl) ?_
      simp only [List.take_succ_cons, List.take_zero, List.drop_succ_cons, List.drop_zero]
      iterate 5 ((with_reducible refine wpStill_step ?_); intro K hK; go_simp; (try (refine ite_neg_of (by simp [undef] <;> assumption) ?_)); (with_reducible refine hK _ ?_); clear hK K)
      (with_reducible refine wpStill_nil ?_)
      go_wp2_with fail
      (with_reducible refine HG.out.mono ?_)
      rintro e W2 ⟨⟨lv, rfl, hlv, _⟩, hb⟩
      have HB2 := Lib.hid (show Below wr.heap.size wr W2 from (Below.refl _ _).drew.trans hb)
      have HL := Lib.hid hlv
      have HO2 := Lib.hid (HO.out.step HB2.out)
      have HB3 := Lib.hid (HB.out.trans (HB2.out.mono HB.out.size))
      have HCz := Lib.hid (fun Y (h : Below W2.heap.size W2 Y) => HCz.out Y (HB2.out.trans (h.mono HB2.out.size)))
      obtain ⟨Al, cl, rfl, _⟩ := hlv.form
      obtain ⟨m, hm⟩ : ∃ m, G.length = m := ⟨_, rfl⟩
      have HM := Lib.hid hm
      rw [hm] at HL HGz ⊢
      have hm1 : m ≤ 1000 := HGz.out
      clear d0 d1 d2 hb hlv hcz hm HG
      go_wp2_with fail
      go_loopw [7, 10] (fun ov kv wq => ∃ k : Nat, kv = .int .i64 (k : Int) ∧ k ≤ m ∧ InW w.heap.size wq wq.heap.size ov ((G.take k).foldl (fun o m => if m ∈ l then rputF z o else o) O) ∧ Below W2.heap.size W2 wq) (fun _ kv _ => m - (intOf kv).toNat)
      case atStart => exact ⟨0, rfl, by omega, HO2.out, Below.refl _ _⟩
      case round =>
        obtain ⟨k, rfl, hkm, hO, hb⟩ := hrel
        have HOk := Lib.hid hO
        have HBk := Lib.hid hb
        have HBk3 := Lib.hid (HB3.out.trans (hb.mono HB3.out.size))
        clear hO hb
        by_cases hkt : k < m
        · obtain ⟨y, adl, hy, rfl, _, hcy⟩ := ((show InA W2 W2.heap.size Al G from by obtain ⟨_, _, e, _, _, h⟩ := HL.out; cases e; exact h).below HBk.out).at_ HM.out hkt
          have HNy := Lib.hid (fold_next (f := fun o m => if m ∈ l then rputF z o else o) (o := O) hy)
          have hpl := fold_len (l := l) (z := z) (m := G.take k) (o := O)
          rw [List.length_take] at hpl
          obtain ⟨P, hP⟩ : ∃ P, (G.take k).foldl (fun o m => if m ∈ l then rputF z o else o) O = P := ⟨_, rfl⟩
          rw [hP] at HNy HOk hpl
          have HH1 := HH.out y wr HBk3.out
          have HPu := Lib.hid (fun Y (h : Below wr.heap.size wr Y) => rput_new _ P z Y w.heap.size (Nat.le_trans (Nat.le_trans HB0.out.size HBk3.out.size) h.size) (HOk.out.step h) (by have := HOl.out; omega))
          clear hy hpl hP
          by_cases hyl : y ∈ l
          · rw [decide_eq_true hyl] at HH1
            simp only [if_pos hyl] at HNy
            have HH1 := Lib.hid HH1
            clear hyl
            go_wp2_with fail
            (with_reducible refine HH1.out.mono ?_)
            rintro e W3 ⟨rfl, hb⟩
            have HB4 := Lib.hid (And.intro hb (HBk.out.trans (hb.mono HBk.out.size)))
            have hcz := HCz.out W3 HB4.out.2
            have HPv := Lib.hid (HPu.out W3 HB4.out.1)
            clear hb hcy
            go_wp2_with fail
            (with_reducible refine HPv.out.mono ?_)
            rintro e W4 ⟨⟨rv, rfl, hr⟩, hb⟩
            have HR4 := Lib.hid hr
            have HB5 := Lib.hid (HB4.out.2.trans (hb.mono HB4.out.2.size))
            clear hr hb hcz
            go_wp2_with fail
            go_roundw
            case rel => exact ⟨k + 1, by go_num, by omega, by rw [HNy.out]; exact HR4.out, HB5.out⟩
            case measure => simp [intOf]; omega
          · rw [decide_eq_false hyl] at HH1
            simp only [if_neg hyl] at HNy
            have HH1 := Lib.hid HH1
            clear hyl
            go_wp2_with fail
            (with_reducible refine HH1.out.mono ?_)
            rintro e W3 ⟨rfl, hb⟩
            have HB4 := Lib.hid (And.intro (HOk.out.step hb) (HBk.out.trans (hb.mono HBk.out.size)))
            clear hb hcy
            go_wp2_with fail
            go_roundw
            case rel => exact ⟨k + 1, by go_num, by omega, by rw [HNy.out]; exact HB4.out.1, HB4.out.2⟩
            case measure => simp [intOf]; omega
        · have HE := Lib.hid (show G.take k = G from List.take_of_length_le (by have := HM.out; omega))
          go_wp2_with fail
          go_roundw
          case rel => exact ⟨i + 1, by go_num, by omega, by rw [HNx.out, ← HE.out]; have h := HOk.out; rw [HE.out] at h ⊢; exact h, HBk3.out⟩
          case measure => simp [intOf]; omega
    · have HE := Lib.hid (show (A.take i).foldl (backS x l) [] = R from by rw [List.take_of_length_le (by have := HN.out; omega)]; exact HR.out)
      go_wp2_with fail
      go_ret
      exact ⟨⟨_, rfl, by rw [← HE.out]; exact HO.out⟩, HB0.out.trans (HB.out.mono HB0.out.size)⟩
set_option maxRecDepth 100000 in
set_option maxHeartbeats 16000000 in
theorem rmean_new (v vc u : Value) (b : Bk) (l : List Int) (n m : Nat) (w : World) (hv : BkV w v b vc) (hs : Sm b) (hval : Val b) (hn : n ≤ b.chs.length) (hm : m ≤ b.chs.length) (A : List Int) (hA : (vers b)[n]? = some A) (hl : Inc l) (hsub : ∀ z ∈ l, z ∈ A) (B : Nat) (hBw : B ≤ w.heap.size) (hu0 : InW B w w.heap.size u l) :
    Calls Tryz.prog 26 #[v, .int .i64 n, u, .int .i64 m] w fun e w' => (∃ r, e = .returned r ∧ InW B w' w'.heap.size r (mns b.chs n l m)) ∧ Below w.heap.size w w' := by
  obtain ⟨A1, c1, A2, c2, W0, rfl, rfl, hW0, hb0, hB0, hx⟩ := bk_box hv
  have HB0 := Lib.hid hb0
  have HX := Lib.hid hx
  have HW0 := Lib.hid hW0
  have HS := Lib.hid hs
  have HVal := Lib.hid hval
  have HBk := Lib.hid hB0
  have HCh := Lib.hid (show ChSl W0 W0.heap.size (.slice A2 b.chs.length c2) b.chs from by obtain ⟨_, e, h1, h2⟩ := hB0; exact h2)
  have hu := hu0.sl
  have HU := Lib.hid (hu0.step hb0)
  obtain ⟨Au, cu, rfl, _⟩ := hu.form
  obtain ⟨R, hR⟩ : ∃ R, mns b.chs n l m = R := ⟨_, rfl⟩
  have HR := Lib.hid hR
  rw [hR]
  obtain ⟨len, hlen⟩ : ∃ len, b.chs.length = len := ⟨_, rfl⟩
  have HLn := Lib.hid hlen
  have hl64 : len ≤ 64 := by have := hval.1; omega
  have HFw := Lib.hid (fun k (h : n + k ≤ b.chs.length) => fwdN_ok hval hA hl hsub k h)
  have HBw := Lib.hid (fun k (h : k ≤ n) => bwdN_ok hval hA hl hsub hn k h)
  rw [hlen] at HX HW0 HCh HBk hn hm ⊢
  clear hb0 hx hW0 hs hv hB0 hval hlen hR hu hu0 hA hl hsub
  obtain ⟨k0, k1⟩ := HX.out W0 (Below.refl _ _)
  obtain ⟨nl, hnl⟩ : ∃ nl, l.length = nl := ⟨_, rfl⟩
  rw [hnl] at HU ⊢
  clear hnl
  by_cases hnm : n ≤ m
  · have hF : mns b.chs n l m = fwdN b.chs n (m - n) l := by unfold mns; rw [if_pos hnm]
    have HF := Lib.hid (show fwdN b.chs n (m - n) l = R from by rw [← hF]; exact HR.out)
    clear hF
    go_enter Tryz.func26, Tryz.ntmps26
    go_wp2_with fail
    rw [HW0.out]
    go_wp2_with fail
    go_loopw [2, 9] (fun lv iv wr => ∃ k : Nat, iv = .int .i64 ((n + k : Nat) : Int) ∧ n + k ≤ m ∧ InW B wr wr.heap.size lv (fwdN b.chs n k l) ∧ Below W0.heap.size W0 wr) (fun _ iv _ => m - (intOf iv).toNat)
    case atStart => exact ⟨0, rfl, by omega, HU.out, Below.refl _ _⟩
    case round =>
      obtain ⟨k, rfl, hkm, hO, hb⟩ := hrel
      have HO := Lib.hid hO
      have HB := Lib.hid hb
      obtain ⟨Al, cl, rfl, _⟩ := hO.form
      clear k0 k1 hO hb
      obtain ⟨k0, k1⟩ := HX.out wr HB.out
      obtain ⟨i, hi⟩ : ∃ i, n + k = i := ⟨_, rfl⟩
      have HI := Lib.hid hi
      rw [hi] at hkm ⊢
      obtain ⟨C, hC, hCi, hCm⟩ := HFw.out k (by rw [hi, HLn.out]; omega)
      rw [hi] at hC
      have hFl : (fwdN b.chs n k l).length ≤ 400 := Nat.le_trans (inc_sub_len hCi hCm) (vers_ok C (List.mem_of_getElem? hC)).2
      clear hi
      by_cases hlt : i < m
      · obtain ⟨x, ad, Af, At, cf, ct, hx, rfl, hcd⟩ := ch_all HCh.out (show i < len by omega)
        have HSx := Lib.hid (HS.out.2.2 x (List.mem_of_getElem? hx))
        obtain ⟨A', B', hA', hB', d⟩ := step_data HVal.out hx
        rw [hC] at hA'
        injection hA' with hA'
        subst hA'
        have HNx := Lib.hid (show rforthF x (fwdN b.chs n k l) = fwdN b.chs n (k + 1) l from by rw [forth_rep d hCi hCm, fwd_step (x := x) (by rw [HI.out]; exact hx)])
        have HFo := Lib.hid (rforth_new _ _ _ x (fwdN b.chs n k l) wr (hcd wr HB.out).2.1 (hcd wr HB.out).2.2 HO.out.sl HSx.out.1 HSx.out.2 hFl)
        rw [HNx.out] at HFo
        obtain ⟨⟨d0, d1, d2⟩, _, _⟩ := hcd wr HB.out
        obtain ⟨F, hF⟩ : ∃ F, fwdN b.chs n k l = F := ⟨_, rfl⟩
        rw [hF] at HFo HO ⊢
        have hil : (i : Int) < (len : Int) := by omega
        clear hx hcd hC hCi hCm hFl hB' d hF HNx
        go_wp2_with fail
        (with_reducible refine HFo.out.mono ?_)
        rintro e W2 ⟨⟨rv, rfl, hr⟩, hb⟩
        have HR2 := Lib.hid (hr.low (Nat.le_trans hBw (Nat.le_trans HB0.out.size HB.out.size)))
        have HB2 := Lib.hid (HB.out.trans (hb.mono HB.out.size))
        clear hr hb k0 k1 d0 d1 d2
        go_wp2_with fail
        go_roundw
        case rel => exact ⟨k + 1, by have := HI.out; rw [show n + (k + 1) = i + 1 from by omega]; go_num, by have := HI.out; omega, HR2.out, HB2.out⟩
        case measure => simp [intOf]; omega
      · have him : i = m := by omega
        have HE := Lib.hid (show fwdN b.chs n k l = R from by rw [← HF.out, show m - n = k from by have := HI.out; omega])
        rw [HE.out] at HO
        have HO2 := Lib.hid (And.intro HO.out HB.out)
        have hnm2 : ¬ (m : Int) < (n : Int) := by omega
        rw [HE.out]
        clear hC hCi hCm hFl him HO HB
        go_wp2_with fail
        go_loopw [2, 10] (fun lv iv wq => iv = .int .i64 (n : Int) ∧ InW B wq wq.heap.size lv R ∧ Below W0.heap.size W0 wq) (fun _ iv _ => 0)
        case atStart => exact ⟨rfl, HO2.out.1, HO2.out.2⟩
        case round =>
          obtain ⟨rfl, h1, h2⟩ := hrel
          have HO3 := Lib.hid (And.intro h1 h2)
          obtain ⟨Ar, cr, rfl, _⟩ := h1.form
          clear h1 h2 k0 k1
          go_wp2_with fail
          go_ret
          exact ⟨⟨_, rfl, HO3.out.1⟩, HB0.out.trans (HO3.out.2.mono HB0.out.size)⟩
  · have hF : mns b.chs n l m = bwdN b.chs n (n - m) l := by unfold mns; rw [if_neg hnm]
    have HF := Lib.hid (show bwdN b.chs n (n - m) l = R from by rw [← hF]; exact HR.out)
    have hnm3 : ¬ (n : Int) < (m : Int) := by omega
    clear hF
    go_enter Tryz.func26, Tryz.ntmps26
    go_wp2_with fail
    rw [HW0.out]
    go_wp2_with fail
    go_loopw [2, 9] (fun lv iv wq => iv = .int .i64 (n : Int) ∧ InW B wq wq.heap.size lv l ∧ Below W0.heap.size W0 wq) (fun _ iv _ => 0)
    case atStart => exact ⟨rfl, HU.out, Below.refl _ _⟩
    case round =>
      obtain ⟨rfl, h1, h2⟩ := hrel
      have HO3 := Lib.hid (And.intro h1 h2)
      clear h1 h2 k0 k1
      go_wp2_with fail
      go_loopw [2, 10] (fun lv iv wr => ∃ k : Nat, k ≤ n - m ∧ iv = .int .i64 ((n - k : Nat) : Int) ∧ InW B wr wr.heap.size lv (bwdN b.chs n k l) ∧ Below W0.heap.size W0 wr) (fun _ iv _ => (intOf iv).toNat)
      case atStart => exact ⟨0, by omega, rfl, HO3.out.1, HO3.out.2⟩
      case round =>
        obtain ⟨k, hkm, rfl, hO, hb⟩ := hrel
        have HO := Lib.hid hO
        have HB := Lib.hid hb
        obtain ⟨Al, cl, rfl, _⟩ := hO.form
        clear hO hb
        obtain ⟨k0, k1⟩ := HX.out wr HB.out
        obtain ⟨C, hC, hCi, hCm⟩ := HBw.out k (by omega)
        have hFl : (bwdN b.chs n k l).length ≤ 400 := Nat.le_trans (inc_sub_len hCi hCm) (vers_ok C (List.mem_of_getElem? hC)).2
        by_cases hlt : m < n - k
        · obtain ⟨j, hj⟩ : ∃ j, n - k = j + 1 := ⟨n - k - 1, by omega⟩
          have HJ := Lib.hid hj
          obtain ⟨x, ad, Af, At, cf, ct, hx, rfl, hcd⟩ := ch_all HCh.out (show j < len by omega)
          have HSx := Lib.hid (HS.out.2.2 x (List.mem_of_getElem? hx))
          obtain ⟨A', B', hA', hB', d⟩ := step_data HVal.out hx
          rw [hj] at hC hlt ⊢
          rw [hB'] at hC
          injection hC with hC
          subst hC
          have HNx := Lib.hid (show rbackF x A' (bwdN b.chs n k l) = bwdN b.chs n (k + 1) l from by rw [back_rep d hCi hCm, bwd_step (x := x) (by rw [show n - (k + 1) = j from by omega]; exact hx)])
          have HBa := Lib.hid (fun Y va lv (h : Below W0.heap.size W0 Y) (h1 : InSl Y Y.heap.size va A') (h2 : InSl Y Y.heap.size lv (bwdN b.chs n k l)) => rback_new _ _ va lv x A' (bwdN b.chs n k l) Y (hcd Y h).2.1 (hcd Y h).2.2 h1 h2 HSx.out.1 HSx.out.2 (vers_ok A' (List.mem_of_getElem? hA')).2 hFl)
          simp only [HNx.out] at HBa
          have HVe := Lib.hid (fun Y (h : Below W0.heap.size W0 Y) => rVersion_any _ _ b j Y (HBk.out.step h) HS.out (by have := HLn.out; omega) (by have := HLn.out; omega))
          rw [rver_getD HVal.out (by have := HLn.out; omega) hA'] at HVe
          have HCd := Lib.hid (fun Y h => (hcd Y h).1)
          obtain ⟨F, hF⟩ : ∃ F, bwdN b.chs n k l = F := ⟨_, rfl⟩
          rw [hF] at HO HBa ⊢
          have hjl : j < len := by omega
          have hjw : IntKind.i64.wrap (((j + 1 : Nat) : Int) - 1) = (j : Int) := by rw [IntKind.wrap_i64]; omega
          have hjm : (m : Int) < ((j + 1 : Nat) : Int) := by omega
          clear hx hcd hCi hCm hFl hB' hA' d hF HNx k0 k1 hj
          go_wp2_with fail
          obtain ⟨nF, hnF⟩ : ∃ nF, F.length = nF := ⟨_, rfl⟩
          rw [hnF] at HO ⊢
          have HXc := Lib.hid (show ∀ Y, Below wr.heap.size wr Y → Below W0.heap.size W0 Y from fun Y h => HB.out.trans (h.mono HB.out.size))
          refine wp_opaque ?_
          intro t0 ht0
          have hsz0 : t0.size = 43 := by rw [ht0]; rfl
          have t2 : t0.getD 2 undef = .slice Al nF cl := by rw [ht0]; rfl
          have t4 : t0.getD 4 undef = .pointer (some ⟨w.heap.size, 0, none⟩) := by rw [ht0]; rfl
          have t10 : t0.getD 10 undef = .int .i64 ((j : Int) + 1) := by rw [ht0]; rfl
          have HT0 := Lib.hid ht0
          clear ht0
          refine wp_region_vals [some 30, some 31, some 32, some 33, some 34, some 35, some 36, some 37, some 38, some 39, some 40, some 41, some 2] (MnI wr.drew A' (fun u X => InW B X X.heap.size u (bwdN b.chs n (k + 1) l) ∧ Below W0.heap.size W0 X) (.pointer (some ⟨w.heap.size, 1, none⟩)) (.slice (some ad) len c2) (.int .i64 ((j : Int) + 1)) (.int .i64 (j : Int)) (.pointer (some (ad.add (j * 3)))) (.agg #[.int .i64 x.yr, .slice Af x.fr.length cf, .slice At x.to.length ct]) (.agg #[.slice A1 b.first.length c1, .slice (some ad) len c2]) (.slice Al nF cl)) (by kernel_rfl) (by kernel_rfl) rfl rfl (by simp [hsz0]) (by kernel_rfl) ?_ ?_ ?_
          · intro val
            exact ⟨(fun h => nomatch h), (fun h => nomatch h), (fun h => nomatch h), (fun h => nomatch h), (fun h => nomatch h), (fun h => nomatch h), (fun h => nomatch h), (fun h => nomatch h), (fun h => nomatch h), (fun h => nomatch h), fun _ => Below.refl _ _, (fun h => nomatch h), (fun h => nomatch h), (fun h => nomatch h)⟩
          · intro dn q o hi hd hp hc val X a ha hn hI K hK
            have hq : q < 13 := by
              have := (Array.getElem?_eq_some_iff.1 hi).1
              simpa using this
            have c1' : dn 1 = true → dn 0 = true := fun h => hc 1 _ rfl h ⟨0, .data⟩ (by simp) rfl
            have c4 : dn 4 = true → dn 1 = true ∧ dn 3 = true := fun h => ⟨hc 4 _ rfl h ⟨1, .data⟩ (by simp) rfl, hc 4 _ rfl h ⟨3, .data⟩ (by simp) rfl⟩
            have c5 : dn 5 = true → dn 4 = true := fun h => hc 5 _ rfl h ⟨4, .data⟩ (by simp) rfl
            have c9 : dn 9 = true → dn 6 = true ∧ dn 8 = true := fun h => ⟨hc 9 _ rfl h ⟨6, .data⟩ (by simp) rfl, hc 9 _ rfl h ⟨8, .data⟩ (by simp) rfl⟩
            have c11 : dn 11 = true → dn 5 = true ∧ dn 9 = true ∧ dn 10 = true := fun h => ⟨hc 11 _ rfl h ⟨5, .data⟩ (by simp) rfl, hc 11 _ rfl h ⟨9, .data⟩ (by simp) rfl, hc 11 _ rfl h ⟨10, .data⟩ (by simp) rfl⟩
            have c12 : dn 12 = true → dn 11 = true := fun h => hc 12 _ rfl h ⟨11, .data⟩ (by simp) rfl
            have bf : ∀ {q : Bool}, (q = true → False) → q = false := fun {q} h => by cases q; rfl; exact (h rfl).elim
            have hb3 : dn 11 = false → Below W0.heap.size W0 X := fun n11 => HXc.out X ((Below.refl _ _).drew.trans (hI.bel n11))
            rcases (show q = 0 ∨ q = 1 ∨ q = 2 ∨ q = 3 ∨ q = 4 ∨ q = 5 ∨ q = 6 ∨ q = 7 ∨ q = 8 ∨ q = 9 ∨ q = 10 ∨ q = 11 ∨ q = 12 by omega) with rfl | rfl | rfl | rfl | rfl | rfl | rfl | rfl | rfl | rfl | rfl | rfl | rfl
            · obtain rfl := Option.some.inj hi
              exact opField1 4 _ rfl ((ha 4).trans t4) (hK _ _ hI.op0)
            · obtain rfl := Option.some.inj hi
              have y0 := hp ⟨0, .data⟩ (by simp) rfl
              have n11 : dn 11 = false := bf fun h => f_t hd (c4 (c5 (c11 h).1)).1
              exact opLdCs 30 _ _ rfl ((ha 30).trans (hI.s0 y0)) (HX.out X (hb3 n11)).2 (hK _ _ hI.op1)
            · obtain rfl := Option.some.inj hi
              exact opMove 10 _ rfl ((ha 10).trans t10) (hK _ _ hI.op2)
            · obtain rfl := Option.some.inj hi
              have y2 := hp ⟨2, .data⟩ (by simp) rfl
              exact opSub1 32 _ _ rfl ((ha 32).trans (hI.s2 y2)) hjw (hK _ _ hI.op3)
            · obtain rfl := Option.some.inj hi
              have y1 := hp ⟨1, .data⟩ (by simp) rfl
              have y3 := hp ⟨3, .data⟩ (by simp) rfl
              exact opIxC 31 33 len c2 j ad rfl ((ha 31).trans (hI.s1 y1)) ((ha 33).trans (hI.s3 y3)) hjl (hK _ _ hI.op4)
            · obtain rfl := Option.some.inj hi
              have y4 := hp ⟨4, .data⟩ (by simp) rfl
              have n11 : dn 11 = false := bf fun h => f_t hd (c11 h).1
              obtain ⟨e0, e1, e2⟩ := HCd.out X (hb3 n11)
              exact opLdC 34 _ _ _ _ rfl ((ha 34).trans (hI.s4 y4)) e0 e1 e2 (hK _ _ hI.op5)
            · obtain rfl := Option.some.inj hi
              have n11 : dn 11 = false := bf fun h => f_t hd (c9 (c11 h).2.1).1
              obtain ⟨e0, e1⟩ := HX.out X (hb3 n11)
              exact opLdB 4 _ _ _ rfl ((ha 4).trans t4) e0 e1 (hK _ _ hI.op6)
            · obtain rfl := Option.some.inj hi
              exact opMove 10 _ rfl ((ha 10).trans t10) (hK _ _ hI.op7)
            · obtain rfl := Option.some.inj hi
              have y7 := hp ⟨7, .data⟩ (by simp) rfl
              exact opSub1 37 _ _ rfl ((ha 37).trans (hI.s7 y7)) hjw (hK _ _ hI.op8)
            · obtain rfl := Option.some.inj hi
              have y6 := hp ⟨6, .data⟩ (by simp) rfl
              have y8 := hp ⟨8, .data⟩ (by simp) rfl
              have n11 : dn 11 = false := bf fun h => f_t hd (c11 h).2.1
              refine opCallV 36 38 _ _ _ rfl ((ha 36).trans (hI.s6 y6)) ((ha 38).trans (hI.s8 y8)) (HVe.out X (hb3 n11)) ?_
              rintro e Y ⟨⟨u, rfl, hu⟩, hb⟩
              exact ⟨_, rfl, hK _ _ (hI.op9 n11 (bf fun h => f_t n11 (c12 h)) hu hb)⟩
            · obtain rfl := Option.some.inj hi
              have n12 : dn 12 = false := bf fun h => f_t hd (c11 (c12 h)).2.2
              exact opMove 2 _ rfl (((ha 2).trans (hn 12 2 n12 rfl)).trans t2) (hK _ _ hI.op10)
            · obtain rfl := Option.some.inj hi
              have y5 := hp ⟨5, .data⟩ (by simp) rfl
              have y9 := hp ⟨9, .data⟩ (by simp) rfl
              have y10 := hp ⟨10, .data⟩ (by simp) rfl
              have hbX := hb3 hd
              refine opCallB 35 39 40 _ _ _ _ rfl ((ha 35).trans (hI.s5 y5)) (ha 39) ((ha 40).trans (hI.s10 y10)) (HBa.out X _ _ hbX (hI.e9 y9 hd) (HO.out.step ((Below.refl _ _).drew.trans (hI.bel hd))).sl) ?_
              rintro e Y ⟨⟨u, rfl, hu⟩, hb⟩
              exact ⟨_, rfl, hK _ _ (hI.op11 (bf fun h => f_t hd (c12 h)) ⟨hu.low (Nat.le_trans hBw (Nat.le_trans HB0.out.size hbX.size)), hbX.trans (hb.mono hbX.size)⟩)⟩
            · obtain rfl := Option.some.inj hi
              exact opAssign 41 _ rfl (ha 41) (hK _ _ hI.op12)
          · intro dn val X hdn hI
            have HS5 := Lib.hid (hI.e11 (hdn 11 (by simp)))
            have e12 := hI.e12 (hdn 12 (by simp))
            clear hdn hI
            simp only [wrS, HT0.out, e12]
            simp only [List.setIfInBounds_toArray, List.set_cons_succ, List.set_cons_zero]
            simp only [Exit.inBlock, Exit.then]
            clear e12 t2 t4 t10 hsz0 HT0 hnF
            go_wp2_with fail
            go_roundw
            case rel => exact ⟨k + 1, by have := HJ.out; omega, by rw [show n - (k + 1) = j from by have := HJ.out; omega], HS5.out.1, HS5.out.2⟩
            case measure => simp [intOf]
        · have HE := Lib.hid (show bwdN b.chs n k l = R from by rw [← HF.out, show n - m = k from by omega])
          rw [HE.out] at HO ⊢
          have hnk : ¬ (m : Int) < ((n - k : Nat) : Int) := by omega
          clear hC hCi hCm hFl
          go_wp2_with fail
          go_ret
          exact ⟨⟨_, rfl, HO.out⟩, HB0.out.trans (HB.out.mono HB0.out.size)⟩
end Go.Proofs.YtplpogonkfnafaaGreat
