
/- The reference of names: put, next, fits. -/
import Derived.Test.YtplpogonkfnafaaGreatNmQA
import Derived.Test.YtplpogonkfnafaaGreatNmBa
namespace Go.Proofs.YtplpogonkfnafaaGreat
open Go.RowKit Go.Nm

/-- an append to an own row of numbers -/
theorem wpList_appN {ops : Array Oper} {rest : List Oper} {o : Oper} {a : Act} {Q : Exit → Act → World → Prop} {W w : World} {B : Nat} {v u : Value} {pre M : List Int} (hgd : o.guard = none) (s x : Operand)
    (ho : o.op = .call { callee := .builtin .append, args := #[s, x], argTypes := #[22, 22] }) (hO : OwN W v pre w) (hs : a.eval s = v) (hx : a.eval x = u) (hM : InSl w B u M) (hl : pre.length + M.length ≤ 3000000)
    (h : ∀ v' w', OwN W v' (pre ++ M) w' → w.grownBy w' v.ownBlock → wpList Tryz.prog ops Q rest (a.put o.dst v') w') : wpList Tryz.prog ops Q (o :: rest) a w := by
  obtain ⟨A, c, rfl, hc, hcm, hA⟩ := hM
  obtain ⟨i0, hi0, hz0, hz1, hz2⟩ := infoI
  cases A with
  | none =>
    have h0 := hA.none_nil
    subst h0
    refine wpList_append_nil hgd s x 22 ho W.heap.size 3 i0 1 c Tryz.underlying22 hi0 v pre.length (intsV pre) hs hO.own hx ?_
    exact h v w (by rw [List.append_nil]; exact hO) (grown_of_below (Below.refl _ _) _)
  | some ad =>
    refine wpList_append_own w hgd s x 22 ho W.heap.size 3 i0 (.int .i64 0) 1 8 Tryz.underlying22 hi0 hz0 hz1 hz2 rfl (by decide) v pre.length (intsV pre) hs hO.own ad M.length c (intsV M) hx (by rw [intsV_len, Nat.mul_one]) hA.cells (intsV_one M) (by unfold maxLen; omega) (by omega) hO.bound ?_
    intro v' w' h1 h2 _
    exact h v' w' (hO.grown (M := M) (Below.refl _ _) h2 h1) h2
/-- an empty list of the call's own -/
theorem OwN.lit (W : World) : OwN W (.slice (some ⟨W.heap.size, 0, none⟩) 0 0) [] (W.alloc (.cells #[] 3)) :=
  ⟨below_new _, World.ownsRow_lit (size := 1) W #[] 0 (Nat.le_refl _) (by unfold maxLen; omega) rfl⟩
theorem InSl.take {w : World} {B n c i : Nat} {A : Option Addr} {L : List Int} (h : InSl w B (.slice A n c) L) (hi : i ≤ L.length) : InSl w B (.slice A i c) (L.take i) := by
  obtain ⟨A', c', e, h1, h2, h3⟩ := h
  injection e with e1 e2 e3
  subst e1; subst e3
  exact ⟨A, c, by rw [List.length_take, Nat.min_eq_left hi], by rw [List.length_take]; omega, h2, h3.take i⟩
theorem InSl.drop {w : World} {B n c i : Nat} {ad : Addr} {L : List Int} (h : InSl w B (.slice (some ad) n c) L) (hi : i ≤ L.length) : InSl w B (.slice (some (ad.add i)) (n - i) (c - i)) (L.drop i) := by
  obtain ⟨A', c', e, h1, h2, h3⟩ := h
  injection e with e1 e2 e3
  subst e1; subst e3; subst e2
  exact ⟨_, c - i, by rw [List.length_drop], by rw [List.length_drop]; omega, by omega, h3.drop i⟩
set_option maxRecDepth 100000 in
set_option maxHeartbeats 4000000 in
theorem rput_any (u : Value) (L : List Int) (x : Int) (w : World) (hu : InSl w w.heap.size u L) (hL : L.length ≤ 1000000) :
    Calls Tryz.prog 36 #[u, .int .i64 x] w fun e w' => (∃ r, e = .returned r ∧ InSl w' w'.heap.size r (rputF x L)) ∧ Below w.heap.size w w' := by
  have HU := Lib.hid hu
  obtain ⟨A, c, rfl, hc, hcm, hA⟩ := hu
  have HA := Lib.hid hA
  have HF := Lib.hid (fun (i : Nat) => @rputF_at x L i)
  obtain ⟨R, hR⟩ : ∃ R, rputF x L = R := ⟨_, rfl⟩
  simp only [hR] at HF ⊢
  clear hA hR
  obtain ⟨n, hn⟩ : ∃ n, L.length = n := ⟨_, rfl⟩
  have HL := Lib.hid hn
  rw [hn] at HU hL hc ⊢
  clear hn
  go_enter Tryz.func36, Tryz.ntmps36
  go_wp2_with fail
  go_loopw [5] (fun iv wr => ∃ i : Nat, iv = .int .i64 (i : Int) ∧ i ≤ n ∧ (∀ j z, j < i → L[j]? = some z → z < x) ∧ Below w.heap.size w wr) (fun iv _ => n - (intOf iv).toNat)
  case atStart => exact ⟨0, rfl, by omega, fun j z hj => absurd hj (by omega), Below.refl _ _⟩
  case round =>
    obtain ⟨i, rfl, hin, hq, hb⟩ := hrel
    have HQ := Lib.hid hq
    have HBl := Lib.hid hb
    clear hq hb
    by_cases hlt : i < n
    · obtain ⟨y, ad, hy, rfl, hbd, hcy⟩ := (HA.out.below HBl.out).at_ HL.out hlt
      have HY := Lib.hid hy
      clear hy hbd
      by_cases hyx : y < x
      · have HN := Lib.hid (show ∀ j z, j < i + 1 → L[j]? = some z → z < x from fun j z hj hz => by
          by_cases h1 : j < i
          · exact HQ.out j z h1 hz
          · obtain rfl : j = i := by omega
            rw [HY.out] at hz; injection hz with hz; rw [← hz]; exact hyx)
        go_wp2_with fail
        go_roundw
        case rel => exact ⟨i + 1, by go_num, by omega, HN.out, HBl.out⟩
        case measure => simp [intOf]; omega
      · have HE := Lib.hid (HF.out i HQ.out (by have := HL.out; omega) (fun z hz => by rw [HY.out] at hz; injection hz with hz; omega))
        by_cases he : y = x
        · have hR := HE.out
          rw [HY.out, if_pos (by rw [he])] at hR
          have HR := Lib.hid hR
          clear hR
          subst he
          go_wp2_with fail
          go_ret
          exact ⟨⟨_, rfl, by rw [HR.out]; exact HU.out.step HBl.out⟩, HBl.out⟩
        · have hR := HE.out
          rw [HY.out, if_neg (by intro h; injection h with h; exact he h)] at hR
          have HR := Lib.hid hR
          have hb2 : (y == x) = false := by simpa using he
          clear hR HE HF HQ
          have HDz := Lib.hid (fun X (hb : Below w.heap.size w X) => show InSl X w.heap.size (.slice (some (ad.add i)) (n - i) (c - i)) (L.drop i) from InSl.drop (i := i) (HU.out.below hb) (by have := HL.out; omega))
          have HI0 := Lib.hid (show OwN w (.slice (some ⟨wr.heap.size, 0, none⟩) 0 0) [] (wr.alloc (.cells #[] 3)) from ⟨HBl.out.trans ((below_new _).mono HBl.out.size), World.ownsRow_lit (size := 1) wr #[] 0 HBl.out.size (by unfold maxLen; omega) rfl⟩)
          have HTl := Lib.hid (show (L.take i).length = i from by rw [List.length_take]; have := HL.out; omega)
          have HDl := Lib.hid (show (L.drop i).length ≤ 1000000 from by rw [List.length_drop]; have := HL.out; omega)
          have HBw := Lib.hid (show Below w.heap.size w (wr.alloc (.cells #[] 3)) from HBl.out.trans ((below_new _).mono HBl.out.size))
          go_wp2_with (at_builtin; first | (refine wpList_appN rfl _ _ rfl HO5.out rfl rfl (HDz.out _ HO5.out.bel) (by have := HTl.out; have := HDl.out; simp only [List.length_append, List.length_singleton]; omega) ?_; intro v6 w6 hO6 hg6; have HO6 := Lib.hid hO6; clear hO6 hg6) | (refine wpList_appN rfl _ _ rfl (HO4.out.step (below_new _)) rfl rfl (one_sl _ x) (by have := HTl.out; simp only [List.length_singleton]; omega) ?_; intro v5 w5 hO5 hg5; have HO5 := Lib.hid hO5; clear hO5 hg5) | (refine wpList_appN rfl _ _ rfl HI0.out rfl rfl (InSl.take (i := i) (HU.out.below HBw.out) (by have := HL.out; omega)) (by have := HTl.out; simp only [List.length_nil]; omega) ?_; intro v4 w4 hO4 hg4; rw [List.nil_append] at hO4; have HO4 := Lib.hid hO4; clear hO4 hg4))
          all_goals (go_ret; exact ⟨⟨_, rfl, by rw [HR.out]; have h := HO6.out.sl; rw [List.append_assoc, List.singleton_append] at h; exact h⟩, HO6.out.bel⟩)
    · obtain rfl : i = n := by omega
      have hR := HF.out i HQ.out (by have := HL.out; omega) (fun z hz => by have := (List.getElem?_eq_some_iff.1 hz).1; have := HL.out; omega)
      rw [if_neg (by intro h; have := (List.getElem?_eq_some_iff.1 h).1; have := HL.out; omega)] at hR
      have HR := Lib.hid hR
      clear hR HF HQ
      cases A with
      | none =>
        have hi0 : i = 0 := by rw [← HL.out, HA.out.none_nil]; rfl
        subst hi0
        have HDz := Lib.hid (fun X (hb : Below w.heap.size w X) => show InSl X w.heap.size (.slice none 0 c) (L.drop 0) from (HU.out.below hb))
        have HI0 := Lib.hid (show OwN w (.slice (some ⟨wr.heap.size, 0, none⟩) 0 0) [] (wr.alloc (.cells #[] 3)) from ⟨HBl.out.trans ((below_new _).mono HBl.out.size), World.ownsRow_lit (size := 1) wr #[] 0 HBl.out.size (by unfold maxLen; omega) rfl⟩)
        have HTl := Lib.hid (show (L.take 0).length = 0 from by rw [List.length_take]; have := HL.out; omega)
        have HDl := Lib.hid (show (L.drop 0).length ≤ 1000000 from by rw [List.length_drop]; have := HL.out; omega)
        have HBw := Lib.hid (show Below w.heap.size w (wr.alloc (.cells #[] 3)) from HBl.out.trans ((below_new _).mono HBl.out.size))
        go_wp2_with (at_builtin; first | (refine wpList_appN rfl _ _ rfl HO5.out rfl rfl (HDz.out _ HO5.out.bel) (by have := HTl.out; have := HDl.out; simp only [List.length_append, List.length_singleton]; omega) ?_; intro v6 w6 hO6 hg6; have HO6 := Lib.hid hO6; clear hO6 hg6) | (refine wpList_appN rfl _ _ rfl (HO4.out.step (below_new _)) rfl rfl (one_sl _ x) (by have := HTl.out; simp only [List.length_singleton]; omega) ?_; intro v5 w5 hO5 hg5; have HO5 := Lib.hid hO5; clear hO5 hg5) | (refine wpList_appN rfl _ _ rfl HI0.out rfl rfl (InSl.take (i := 0) (HU.out.below HBw.out) (by have := HL.out; omega)) (by have := HTl.out; simp only [List.length_nil]; omega) ?_; intro v4 w4 hO4 hg4; rw [List.nil_append] at hO4; have HO4 := Lib.hid hO4; clear hO4 hg4))
        all_goals (go_ret; exact ⟨⟨_, rfl, by rw [HR.out]; have h := HO6.out.sl; rw [List.append_assoc, List.singleton_append] at h; exact h⟩, HO6.out.bel⟩)

      | some ad =>
        have HDz := Lib.hid (fun X (hb : Below w.heap.size w X) => show InSl X w.heap.size (.slice (if c = i then some ad else some (ad.add i)) 0 (c - i)) (L.drop i) from ⟨_, c - i, by rw [List.drop_eq_nil_of_le (by have := HL.out; omega)]; rfl, by rw [List.drop_eq_nil_of_le (by have := HL.out; omega)]; exact Nat.zero_le _, by omega, by rw [List.drop_eq_nil_of_le (by have := HL.out; omega)]; exact InA.nil _ _ _⟩)
        have HI0 := Lib.hid (show OwN w (.slice (some ⟨wr.heap.size, 0, none⟩) 0 0) [] (wr.alloc (.cells #[] 3)) from ⟨HBl.out.trans ((below_new _).mono HBl.out.size), World.ownsRow_lit (size := 1) wr #[] 0 HBl.out.size (by unfold maxLen; omega) rfl⟩)
        have HTl := Lib.hid (show (L.take i).length = i from by rw [List.length_take]; have := HL.out; omega)
        have HDl := Lib.hid (show (L.drop i).length ≤ 1000000 from by rw [List.length_drop]; have := HL.out; omega)
        have HBw := Lib.hid (show Below w.heap.size w (wr.alloc (.cells #[] 3)) from HBl.out.trans ((below_new _).mono HBl.out.size))
        go_wp2_with (at_builtin; first | (refine wpList_appN rfl _ _ rfl HO5.out rfl rfl (HDz.out _ HO5.out.bel) (by have := HTl.out; have := HDl.out; simp only [List.length_append, List.length_singleton]; omega) ?_; intro v6 w6 hO6 hg6; have HO6 := Lib.hid hO6; clear hO6 hg6) | (refine wpList_appN rfl _ _ rfl (HO4.out.step (below_new _)) rfl rfl (one_sl _ x) (by have := HTl.out; simp only [List.length_singleton]; omega) ?_; intro v5 w5 hO5 hg5; have HO5 := Lib.hid hO5; clear hO5 hg5) | (refine wpList_appN rfl _ _ rfl HI0.out rfl rfl (InSl.take (i := i) (HU.out.below HBw.out) (by have := HL.out; omega)) (by have := HTl.out; simp only [List.length_nil]; omega) ?_; intro v4 w4 hO4 hg4; rw [List.nil_append] at hO4; have HO4 := Lib.hid hO4; clear hO4 hg4))
        all_goals (go_ret; exact ⟨⟨_, rfl, by rw [HR.out]; have h := HO6.out.sl; rw [List.append_assoc, List.singleton_append] at h; exact h⟩, HO6.out.bel⟩)
end Go.Proofs.YtplpogonkfnafaaGreat
namespace Go.Proofs.YtplpogonkfnafaaGreat
open Go.RowKit Go.Nm

theorem filt_next {p : Int → Bool} {L : List Int} {i : Nat} {x : Int} (h : L[i]? = some x) : (L.take (i + 1)).filter p = (L.take i).filter p ++ (if p x then [x] else []) := by
  rw [take_next h, List.filter_append]
  by_cases hp : p x <;> simp [hp]
theorem puts_next {t o : List Int} {i : Nat} {x : Int} (h : t[i]? = some x) : (t.take (i + 1)).foldl (fun o n => rputF n o) o = rputF x ((t.take i).foldl (fun o n => rputF n o) o) := by
  rw [take_next h, List.foldl_append]; rfl
set_option maxRecDepth 100000 in
set_option maxHeartbeats 4000000 in
theorem rnext_any (u vf vt : Value) (L : List Int) (c : Ch) (w : World) (hu : InSl w w.heap.size u L) (hf : InSl w w.heap.size vf c.fr) (ht : InSl w w.heap.size vt c.to) (hL : L.length ≤ 100000) (hF : c.fr.length ≤ 100000) (hT : c.to.length ≤ 100000) :
    Calls Tryz.prog 50 #[u, .agg #[.int .i64 c.yr, vf, vt]] w fun e w' => (∃ r, e = .returned r ∧ InSl w' w'.heap.size r (rnextF L c)) ∧ Below w.heap.size w w' := by
  obtain ⟨A, cu, rfl, _⟩ := hu.form
  obtain ⟨Af, cf, rfl, _⟩ := hf.form
  obtain ⟨At, ct, rfl, _⟩ := ht.form
  have HU := Lib.hid hu
  have HFr := Lib.hid hf
  have HTo := Lib.hid ht
  have HFl := Lib.hid hF
  have HTl := Lib.hid hT
  obtain ⟨W0, hW0⟩ : ∃ W0, w.alloc (.cells #[.int .i64 c.yr, .slice Af c.fr.length cf, .slice At c.to.length ct] 52) = W0 := ⟨_, rfl⟩
  have HB0 := Lib.hid (show Below w.heap.size w W0 from by rw [← hW0]; exact below_new _)
  have HS0 := Lib.hid (show W0.heap.size = w.heap.size + 1 from by rw [← hW0]; simp)
  have HBx := Lib.hid (show ∀ Y, Below W0.heap.size W0 Y → Y.cell? ⟨w.heap.size, 0, none⟩ = some (.int .i64 c.yr) ∧ Y.cell? ⟨w.heap.size, 1, none⟩ = some (.slice Af c.fr.length cf) ∧ Y.cell? ⟨w.heap.size, 2, none⟩ = some (.slice At c.to.length ct) from fun Y hY => by
    have h := World.alloc_heap_new w (.cells #[.int .i64 c.yr, .slice Af c.fr.length cf, .slice At c.to.length ct] 52)
    rw [hW0] at h
    exact cells_three ((hY.block _ (Array.getElem?_eq_some_iff.1 h).1).trans h))
  obtain ⟨R, hR⟩ : ∃ R, rnextF L c = R := ⟨_, rfl⟩
  rw [hR]
  have HR := Lib.hid hR
  clear hu hf ht hR hF hT
  obtain ⟨n, hn⟩ : ∃ n, L.length = n := ⟨_, rfl⟩
  have HL := Lib.hid hn
  rw [hn] at HU hL ⊢
  obtain ⟨nt, hnt⟩ : ∃ nt, c.to.length = nt := ⟨_, rfl⟩
  have HNt := Lib.hid hnt
  rw [hnt] at HTo HBx hW0 HTl ⊢
  have hnt2 : nt ≤ 100000 := HTl.out
  obtain ⟨nf, hnf⟩ : ∃ nf, c.fr.length = nf := ⟨_, rfl⟩
  have HNf := Lib.hid hnf
  rw [hnf] at HFr HBx hW0 ⊢
  have HW0 := Lib.hid hW0
  clear hn hnt hW0 HTl hnf
  go_enter Tryz.func50, Tryz.ntmps50
  go_wp2_with fail
  rw [HW0.out]
  go_loopw [5, 6] (fun ov iv wr => ∃ i : Nat, iv = .int .i64 (i : Int) ∧ i ≤ n ∧ OwN W0 ov ((L.take i).filter fun z => !decide (z ∈ c.fr)) wr) (fun _ iv _ => n - (intOf iv).toNat)
  case atStart => exact ⟨0, rfl, by omega, OwN.start _⟩
  case round =>
    obtain ⟨i, rfl, hin, ho⟩ := hrel
    have HO := Lib.hid ho
    clear ho
    obtain ⟨d0, d1, d2⟩ := HBx.out wr HO.out.bel
    by_cases hlt : i < n
    · obtain ⟨x, ad, hx, rfl, hbd, hcx⟩ := ((show InA w w.heap.size A L from by obtain ⟨_, _, e, _, _, h⟩ := HU.out; cases e; exact h).below (HB0.out.trans (HO.out.bel.mono HB0.out.size))).at_ HL.out hlt
      have HN := Lib.hid (filt_next (p := fun z => !decide (z ∈ c.fr)) hx)
      have HX := Lib.hid hcx
      have HH := Lib.hid (fun Y (h : Below wr.heap.size wr Y) => rhas_any (.slice Af nf cf) c.fr x Y ((HFr.out.step HB0.out).step (HO.out.bel.trans (h.mono HO.out.bel.size))) (by have := HFl.out; omega))
      have hll : ((L.take i).filter fun z => !decide (z ∈ c.fr)).length ≤ 100000 := Nat.le_trans (List.length_filter_le _ _) (by rw [List.length_take]; have := HL.out; omega)
      have HLl := Lib.hid hll
      clear hx hbd hll d0 d2
      by_cases hm : x ∈ c.fr
      · simp only [decide_eq_true hm] at HH HN
        rw [show (!true) = false from rfl, if_neg (by simp), List.append_nil] at HN
        have ss := fun z => And.intro (Wb.cell hcx z) (Wb.cell d1 z)
        clear hcx d1
        go_wp2_with fail
        refine wp_region_wb (by kernel_rfl) (by kernel_rfl) ?_; (repeat ((with_reducible refine wpQuiet_step ?_); intro K hK; go_simp; (try (refine ite_neg_of (by simp [undef]) ?_)); first | (with_reducible refine hK _ ?_; clear hK K) | (apply Exists.intro; (with_reducible refine ⟨fun _ => ?_, hK _ ?_⟩); ((go_at_call 35; exact Calls.wb (HH.out _ (Wb.h _)))); clear hK K))); (with_reducible refine wpQuiet_nil ?_); rintro w1 ⟨⟨_, hb1⟩, rfl⟩; (try dsimp only)
        go_wp2_with fail
        go_roundw
        case rel => exact ⟨i + 1, by go_num, by omega, by rw [HN.out]; exact HO.out.step hb1⟩
        case measure => simp [intOf]; omega
      · simp only [decide_eq_false hm] at HH HN
        rw [show (!false) = true from rfl, if_pos rfl] at HN
        have ss := fun z => And.intro (Wb.cell hcx z) (Wb.cell d1 z)
        clear hcx d1
        go_wp2_with fail
        refine wp_region_wb (by kernel_rfl) (by kernel_rfl) ?_; (repeat ((with_reducible refine wpQuiet_step ?_); intro K hK; go_simp; (try (refine ite_neg_of (by simp [undef]) ?_)); first | (with_reducible refine hK _ ?_; clear hK K) | (apply Exists.intro; (with_reducible refine ⟨fun _ => ?_, hK _ ?_⟩); ((go_at_call 35; exact Calls.wb (HH.out _ (Wb.h _)))); clear hK K))); (with_reducible refine wpQuiet_nil ?_); rintro w1 ⟨⟨_, hb1⟩, rfl⟩; (try dsimp only)
        have HO2 := Lib.hid (HO.out.step hb1)
        have hcx := (hb1.cell (World.block_lt_of_cell? _ _ HX.out)).trans HX.out
        clear hb1 ss
        go_wp2_with (at_builtin; refine wpList_appN rfl _ _ rfl (HO2.out.step (below_new _)) rfl rfl (one_sl _ x) (by have := HLl.out; simp only [List.length_singleton]; omega) ?_; intro v5 w5 hO5 hg5; have HO5 := Lib.hid hO5; clear hO5 hg5)
        go_roundw
        case rel => exact ⟨i + 1, by go_num, by omega, by rw [HN.out]; exact HO5.out⟩
        case measure => simp [intOf]; omega
    · have hi : i = n := by omega
      have HO0 := Lib.hid (show InSl wr wr.heap.size u5 (L.filter fun z => !decide (z ∈ c.fr)) from by
        have h := HO.out.sl
        rwa [List.take_of_length_le (by have := HL.out; omega)] at h)
      have HBr := Lib.hid HO.out.bel
      obtain ⟨o0, ho0⟩ : ∃ o0, (L.filter fun z => !decide (z ∈ c.fr)) = o0 := ⟨_, rfl⟩
      have HRe := Lib.hid (show c.to.foldl (fun o n => rputF n o) o0 = R from by rw [← HR.out, ← ho0]; rfl)
      have HOl := Lib.hid (show o0.length ≤ 100000 from by rw [← ho0]; exact Nat.le_trans (List.length_filter_le _ _) (by have := HL.out; omega))
      rw [ho0] at HO0
      clear ho0 HO hi
      go_wp2_with fail
      go_loopw [5, 7] (fun ov iv wq => ∃ i : Nat, iv = .int .i64 (i : Int) ∧ i ≤ nt ∧ InSl wq wq.heap.size ov ((c.to.take i).foldl (fun o n => rputF n o) o0) ∧ Below W0.heap.size W0 wq) (fun _ iv _ => nt - (intOf iv).toNat)
      case atStart => exact ⟨0, rfl, by omega, HO0.out, HBr.out⟩
      case round =>
        obtain ⟨i, rfl, hit, ho, hb⟩ := hrel
        have HO := Lib.hid (And.intro ho hb)
        clear d0 d1 d2
        obtain ⟨d0, d1, d2⟩ := HBx.out wr hb
        clear ho hb
        by_cases hlt2 : i < nt
        · obtain ⟨x, ad, hx, rfl, hbd, hcx⟩ := ((show InA w w.heap.size At c.to from by obtain ⟨_, _, e, _, _, h⟩ := HTo.out; cases e; exact h).below (HB0.out.trans (HO.out.2.mono HB0.out.size))).at_ HNt.out hlt2
          have HN := Lib.hid (puts_next (o := o0) hx)
          obtain ⟨O, hO⟩ : ∃ O, (c.to.take i).foldl (fun o n => rputF n o) o0 = O := ⟨_, rfl⟩
          have HOO := Lib.hid (show O.length ≤ 200000 from by
            rw [← hO]
            have := puts_len (c.to.take i) o0
            have := HOl.out
            rw [List.length_take] at *
            omega)
          rw [hO] at HN HO
          have HP := Lib.hid (fun Y (h : Below wr.heap.size wr Y) => rput_any _ O x Y (HO.out.1.step h) (by have := HOO.out; omega))
          clear hx hbd hO d0 d1
          go_wp2_with fail
          (with_reducible refine (HP.out _ (Below.refl _ _)).mono ?_)
          rintro e w2 ⟨⟨r, rfl, hr⟩, hb⟩
          have HO2 := Lib.hid (And.intro hr (HO.out.2.trans (hb.mono HO.out.2.size)))
          clear hr hb d2 hcx
          go_wp2_with fail
          go_roundw
          case rel => exact ⟨i + 1, by go_num, by omega, by rw [HN.out]; exact HO2.out.1, HO2.out.2⟩
          case measure => simp [intOf]; omega
        · have hE := HRe.out
          rw [← List.take_of_length_le (l := c.to) (i := i) (by have := HNt.out; omega)] at hE
          have HE := Lib.hid hE
          clear hE d0 d1
          go_wp2_with fail
          go_ret
          exact ⟨⟨_, rfl, by rw [← HE.out]; exact HO.out.1⟩, HB0.out.trans (HO.out.2.mono HB0.out.size)⟩
end Go.Proofs.YtplpogonkfnafaaGreat
namespace Go.Proofs.YtplpogonkfnafaaGreat
open Go.RowKit Go.Nm

set_option maxRecDepth 100000 in
set_option maxHeartbeats 4000000 in
theorem rfits_any (u vf vt : Value) (L : List Int) (y : Int) (c : Ch) (w : World) (hu : InSl w w.heap.size u L) (hf : InSl w w.heap.size vf c.fr) (ht : InSl w w.heap.size vt c.to) (hL : L.length ≤ 100000) (hF : c.fr.length ≤ 100000) (hT : c.to.length ≤ 100000) :
    Calls Tryz.prog 85 #[u, .int .i64 y, .agg #[.int .i64 c.yr, vf, vt]] w fun e w' => e = .returned (.bool (decide (rfitsF L y c))) ∧ Below w.heap.size w w' := by
  obtain ⟨A, cu, rfl, _⟩ := hu.form
  obtain ⟨Af, cf, rfl, _⟩ := hf.form
  obtain ⟨At, ct, rfl, _⟩ := ht.form
  have HU := Lib.hid hu
  have HFr := Lib.hid hf
  have HTo := Lib.hid ht
  have HFl := Lib.hid hF
  have HTl := Lib.hid hT
  obtain ⟨W0, hW0⟩ : ∃ W0, w.alloc (.cells #[.int .i64 c.yr, .slice Af c.fr.length cf, .slice At c.to.length ct] 52) = W0 := ⟨_, rfl⟩
  have HB0 := Lib.hid (show Below w.heap.size w W0 from by rw [← hW0]; exact below_new _)
  have HBx := Lib.hid (show ∀ Y, Below W0.heap.size W0 Y → Y.cell? ⟨w.heap.size, 0, none⟩ = some (.int .i64 c.yr) ∧ Y.cell? ⟨w.heap.size, 1, none⟩ = some (.slice Af c.fr.length cf) ∧ Y.cell? ⟨w.heap.size, 2, none⟩ = some (.slice At c.to.length ct) from fun Y hY => by
    have h := World.alloc_heap_new w (.cells #[.int .i64 c.yr, .slice Af c.fr.length cf, .slice At c.to.length ct] 52)
    rw [hW0] at h
    exact cells_three ((hY.block _ (Array.getElem?_eq_some_iff.1 h).1).trans h))
  obtain ⟨r, hr⟩ : ∃ r, decide (rfitsF L y c) = r := ⟨_, rfl⟩
  rw [hr]
  have HR := Lib.hid (show decide ((0 ≤ c.yr ∧ c.yr ≤ 273) ∧ y ≤ c.yr ∧ Ver c.fr ∧ Ver c.to ∧ (∀ n ∈ c.fr, n ∈ L) ∧ (∀ n ∈ c.to, n ∈ L → n ∈ c.fr) ∧ (rnextF L c).length ≤ 400) = r from by rw [← hr]; rfl)
  clear hu hf ht hr hF hT
  obtain ⟨n, hn⟩ : ∃ n, L.length = n := ⟨_, rfl⟩
  have HL := Lib.hid hn
  rw [hn] at HU hL ⊢
  obtain ⟨nt, hnt⟩ : ∃ nt, c.to.length = nt := ⟨_, rfl⟩
  have HNt := Lib.hid hnt
  rw [hnt] at HTo HBx hW0 HTl ⊢
  have hnt2 : nt ≤ 100000 := HTl.out
  obtain ⟨nf, hnf⟩ : ∃ nf, c.fr.length = nf := ⟨_, rfl⟩
  have HNf := Lib.hid hnf
  rw [hnf] at HFr HBx hW0 HFl ⊢
  have hnf2 : nf ≤ 100000 := HFl.out
  have HW0 := Lib.hid hW0
  have HW := Lib.hid (rwithin_any c.yr 0 273)
  have HVf := Lib.hid (fun Y (h : Below W0.heap.size W0 Y) => rlist_any (.slice Af nf cf) c.fr Y ((HFr.out.step HB0.out).step h) (by have := HNf.out; omega))
  have HVt := Lib.hid (fun Y (h : Below W0.heap.size W0 Y) => rlist_any (.slice At nt ct) c.to Y ((HTo.out.step HB0.out).step h) (by have := HNt.out; omega))
  clear hn hnt hW0 HTl hnf HFl
  obtain ⟨d0, d1, d2⟩ := HBx.out W0 (Below.refl _ _)
  go_enter Tryz.func85, Tryz.ntmps85
  go_wp2_with fail
  rw [HW0.out]
  by_cases h1 : 0 ≤ c.yr ∧ c.yr ≤ 273
  · simp only [decide_eq_true h1] at HW
    go_wp2_with fail
    (with_reducible refine (HW.out _).mono ?_)
    rintro e w1 ⟨rfl, hb⟩
    have HB1 := Lib.hid (hb)
    clear hb
    clear d0 d1 d2
    obtain ⟨d0, d1, d2⟩ := HBx.out w1 HB1.out
    by_cases h2 : c.yr < y
    · have HF := Lib.hid (show r = false from by rw [← HR.out, decide_eq_false_iff_not]; intro h; omega)
      go_wp2_with fail
      go_ret
      exact ⟨ret_b HF.out.symm, HB0.out.trans (HB1.out.mono HB0.out.size)⟩
    · have h2' : ¬ c.yr < y := h2
      go_wp2_with fail
      by_cases h3 : Ver c.fr
      · simp only [decide_eq_true h3] at HVf
        (with_reducible refine (HVf.out w1 HB1.out).mono ?_)
        rintro e w2 ⟨rfl, hb⟩
        have HB2 := Lib.hid (HB1.out.trans (hb.mono HB1.out.size))
        clear hb
        clear d0 d1 d2
        obtain ⟨d0, d1, d2⟩ := HBx.out w2 HB2.out
        go_wp2_with fail
        by_cases h4 : Ver c.to
        · simp only [decide_eq_true h4] at HVt
          (with_reducible refine (HVt.out w2 HB2.out).mono ?_)
          rintro e w3 ⟨rfl, hb⟩
          have HB3 := Lib.hid (HB2.out.trans (hb.mono HB2.out.size))
          clear hb
          clear d0 d1 d2
          obtain ⟨d0, d1, d2⟩ := HBx.out w3 HB3.out
          go_wp2_with fail
          have HH := Lib.hid (fun x Y (h : Below W0.heap.size W0 Y) => rhas_any (.slice A n cu) L x Y ((HU.out.step HB0.out).step h) (by have := HL.out; omega))
          have HG := Lib.hid (fun x Y (h : Below W0.heap.size W0 Y) => rhas_any (.slice Af nf cf) c.fr x Y ((HFr.out.step HB0.out).step h) (by have := HNf.out; omega))
          have HAf := Lib.hid (show InA w w.heap.size Af c.fr from by obtain ⟨_, _, e, _, _, h⟩ := HFr.out; cases e; exact h)
          have HAt := Lib.hid (show InA w w.heap.size At c.to from by obtain ⟨_, _, e, _, _, h⟩ := HTo.out; cases e; exact h)
          have HNx := Lib.hid (fun Y (h : Below W0.heap.size W0 Y) => rnext_any (.slice A n cu) (.slice Af nf cf) (.slice At nt ct) L c Y ((HU.out.step HB0.out).step h) ((HFr.out.step HB0.out).step h) ((HTo.out.step HB0.out).step h) (by have := HL.out; omega) (by have := HNf.out; omega) (by have := HNt.out; omega))
          have HR := Lib.hid (show decide ((∀ n ∈ c.fr, n ∈ L) ∧ (∀ n ∈ c.to, n ∈ L → n ∈ c.fr) ∧ (rnextF L c).length ≤ 400) = r from by
            rw [← HR.out]
            exact decide_eq_decide.2 ⟨fun h => ⟨h1, by omega, h3, h4, h⟩, fun h => h.2.2.2.2⟩)
          simp only [show decide (c.yr < y) = false from decide_eq_false (by omega)]
          clear h1 h2 h2' h3 h4 HVf HVt HW
          go_loopw [7] (fun iv wr => ∃ i : Nat, iv = .int .i64 (i : Int) ∧ i ≤ nf ∧ (∀ j z, j < i → c.fr[j]? = some z → z ∈ L) ∧ Below W0.heap.size W0 wr) (fun iv _ => nf - (intOf iv).toNat)
          case atStart => exact ⟨0, rfl, by omega, fun j z hj => absurd hj (by omega), HB3.out⟩
          case round =>
            obtain ⟨i, rfl, hin, hq, hb⟩ := hrel
            have HQ := Lib.hid hq
            have HBr := Lib.hid hb
            clear hq hb d0 d1 d2
            obtain ⟨d0, d1, d2⟩ := HBx.out wr HBr.out
            by_cases hlt : i < nf
            · obtain ⟨x, ad, hx, rfl, hbd, hcx⟩ := (HAf.out.below (HB0.out.trans (HBr.out.mono HB0.out.size))).at_ HNf.out hlt
              have HH1 := HH.out x wr HBr.out
              have HX := Lib.hid hx
              clear hx hbd
              by_cases hm : x ∈ L
              · rw [decide_eq_true hm] at HH1
                have HN := Lib.hid (show ∀ j z, j < i + 1 → c.fr[j]? = some z → z ∈ L from fun j z hj hz => by
                  by_cases h1 : j < i
                  · exact HQ.out j z h1 hz
                  · obtain rfl : j = i := by omega
                    rw [HX.out] at hz; injection hz with hz; rw [← hz]; exact hm)
                have HH1 := Lib.hid HH1
                clear hm
                go_wp2_with fail
                (with_reducible refine HH1.out.mono ?_)
                rintro e w4 ⟨rfl, hb⟩
                have HB4 := Lib.hid (HBr.out.trans (hb.mono HBr.out.size))
                clear hb
                go_wp2_with fail
                go_roundw
                case rel => exact ⟨i + 1, by go_num, by omega, HN.out, HB4.out⟩
                case measure => simp [intOf]; omega
              · rw [decide_eq_false hm] at HH1
                have HF := Lib.hid (show r = false from by rw [← HR.out, decide_eq_false_iff_not]; exact fun h => hm (h.1 x (List.mem_of_getElem? HX.out)))
                have HH1 := Lib.hid HH1
                clear hm
                go_wp2_with fail
                (with_reducible refine HH1.out.mono ?_)
                rintro e w4 ⟨rfl, hb⟩
                have HB4 := Lib.hid (HBr.out.trans (hb.mono HBr.out.size))
                clear hb
                go_wp2_with fail
                go_ret
                exact ⟨ret_b HF.out.symm, HB0.out.trans (HB4.out.mono HB0.out.size)⟩
            · have HFa := Lib.hid (show ∀ z ∈ c.fr, z ∈ L from fun z hz => by
                obtain ⟨j, hj, e⟩ := List.getElem_of_mem hz
                exact HQ.out j z (by have := HNf.out; omega) (by rw [← e]; exact List.getElem?_eq_getElem hj))
              have HR := Lib.hid (show decide ((∀ n ∈ c.to, n ∈ L → n ∈ c.fr) ∧ (rnextF L c).length ≤ 400) = r from by
                rw [← HR.out]
                exact decide_eq_decide.2 ⟨fun h => ⟨HFa.out, h⟩, fun h => h.2⟩)
              clear HQ HFa
              go_wp2_with fail
              go_loopw [8] (fun iv wr => ∃ i : Nat, iv = .int .i64 (i : Int) ∧ i ≤ nt ∧ (∀ j z, j < i → c.to[j]? = some z → z ∈ L → z ∈ c.fr) ∧ Below W0.heap.size W0 wr) (fun iv _ => nt - (intOf iv).toNat)
              case atStart => exact ⟨0, rfl, by omega, fun j z hj => absurd hj (by omega), HBr.out⟩
              case round =>
                obtain ⟨i2, rfl, hin2, hq, hb⟩ := hrel
                have HQ := Lib.hid hq
                have HBq := Lib.hid hb
                clear hq hb d0 d1 d2
                obtain ⟨d0, d1, d2⟩ := HBx.out wr HBq.out
                by_cases hlt2 : i2 < nt
                · obtain ⟨x, ad, hx, rfl, hbd, hcx⟩ := (HAt.out.below (HB0.out.trans (HBq.out.mono HB0.out.size))).at_ HNt.out hlt2
                  have HX := Lib.hid hx
                  have HH1 := Lib.hid (fun Y (h : Below wr.heap.size wr Y) => HH.out x Y (HBq.out.trans (h.mono HBq.out.size)))
                  have HG1 := Lib.hid (fun Y (h : Below wr.heap.size wr Y) => HG.out x Y (HBq.out.trans (h.mono HBq.out.size)))
                  have ss := fun z => And.intro (Wb.cell hcx z) (And.intro (Wb.cell d1 z) (Wb.cell d2 z))
                  clear hx hbd d0
                  by_cases hm : x ∈ L
                  · by_cases hf : x ∈ c.fr
                    · have HN := Lib.hid (show ∀ j z, j < i2 + 1 → c.to[j]? = some z → z ∈ L → z ∈ c.fr from fun j z hj hz => by
                        by_cases h1 : j < i2
                        · exact HQ.out j z h1 hz
                        · obtain rfl : j = i2 := by omega
                          rw [HX.out] at hz; injection hz with hz; rw [← hz]; exact fun _ => hf)
                      simp only [decide_eq_true hm] at HH1
                      simp only [decide_eq_true hf] at HG1
                      clear hm hf
                      go_wp2_with fail
                      clear hcx d1 d2
                      refine wp_region_wb (by kernel_rfl) (by kernel_rfl) ?_; (repeat ((with_reducible refine wpQuiet_step ?_); intro K hK; go_simp; (try (refine ite_neg_of (by simp [undef]) ?_)); first | (with_reducible refine hK _ ?_; clear hK K) | (apply Exists.intro; (with_reducible refine ⟨fun _ => ?_, hK _ ?_⟩); ((go_at_call 35; first | (with_reducible exact Calls.wb (HH1.out _ (Wb.h _))) | (with_reducible exact Calls.wb (HG1.out _ (Wb.h _))))); clear hK K))); (with_reducible refine wpQuiet_nil ?_); rintro w1 ⟨⟨_, hb1⟩, rfl⟩; (try dsimp only)
                      have HB4 := Lib.hid (HBq.out.trans (hb1.mono HBq.out.size))
                      clear hb1 ss
                      go_wp2_with fail
                      go_roundw
                      case rel => exact ⟨i2 + 1, by go_num, by omega, HN.out, HB4.out⟩
                      case measure => simp [intOf]; omega
                    · have HF := Lib.hid (show r = false from by rw [← HR.out, decide_eq_false_iff_not]; exact fun h => hf (h.1 x (List.mem_of_getElem? HX.out) hm))
                      simp only [decide_eq_true hm] at HH1
                      simp only [decide_eq_false hf] at HG1
                      clear hm hf
                      go_wp2_with fail
                      clear hcx d1 d2
                      refine wp_region_wb (by kernel_rfl) (by kernel_rfl) ?_; (repeat ((with_reducible refine wpQuiet_step ?_); intro K hK; go_simp; (try (refine ite_neg_of (by simp [undef]) ?_)); first | (with_reducible refine hK _ ?_; clear hK K) | (apply Exists.intro; (with_reducible refine ⟨fun _ => ?_, hK _ ?_⟩); ((go_at_call 35; first | (with_reducible exact Calls.wb (HH1.out _ (Wb.h _))) | (with_reducible exact Calls.wb (HG1.out _ (Wb.h _))))); clear hK K))); (with_reducible refine wpQuiet_nil ?_); rintro w1 ⟨⟨_, hb1⟩, rfl⟩; (try dsimp only)
                      have HB4 := Lib.hid (HBq.out.trans (hb1.mono HBq.out.size))
                      clear hb1 ss
                      go_wp2_with fail
                      go_ret
                      exact ⟨ret_b HF.out.symm, HB0.out.trans (HB4.out.mono HB0.out.size)⟩
                  · have HN := Lib.hid (show ∀ j z, j < i2 + 1 → c.to[j]? = some z → z ∈ L → z ∈ c.fr from fun j z hj hz => by
                      by_cases h1 : j < i2
                      · exact HQ.out j z h1 hz
                      · obtain rfl : j = i2 := by omega
                        rw [HX.out] at hz; injection hz with hz; rw [← hz]; exact fun h => absurd h hm)
                    simp only [decide_eq_false hm] at HH1
                    clear hm
                    go_wp2_with fail
                    clear hcx d1 d2
                    refine wp_region_wb (by kernel_rfl) (by kernel_rfl) ?_; (repeat ((with_reducible refine wpQuiet_step ?_); intro K hK; go_simp; (try (refine ite_neg_of (by simp [undef]) ?_)); first | (with_reducible refine hK _ ?_; clear hK K) | (apply Exists.intro; (with_reducible refine ⟨fun _ => ?_, hK _ ?_⟩); ((go_at_call 35; (with_reducible exact Calls.wb (HH1.out _ (Wb.h _))))); clear hK K))); (with_reducible refine wpQuiet_nil ?_); rintro w1 ⟨⟨_, hb1⟩, rfl⟩; (try dsimp only)
                    have HB4 := Lib.hid (HBq.out.trans (hb1.mono HBq.out.size))
                    clear hb1 ss
                    go_wp2_with fail
                    go_roundw
                    case rel => exact ⟨i2 + 1, by go_num, by omega, HN.out, HB4.out⟩
                    case measure => simp [intOf]; omega
                · have HFa := Lib.hid (show ∀ z ∈ c.to, z ∈ L → z ∈ c.fr from fun z hz => by
                    obtain ⟨j, hj, e⟩ := List.getElem_of_mem hz
                    exact HQ.out j z (by have := HNt.out; omega) (by rw [← e]; exact List.getElem?_eq_getElem hj))
                  have HR := Lib.hid (show decide ((rnextF L c).length ≤ 400) = r from by
                    rw [← HR.out]
                    exact decide_eq_decide.2 ⟨fun h => ⟨HFa.out, h⟩, fun h => h.2⟩)
                  clear HQ HFa
                  have HNq := Lib.hid (HNx.out wr HBq.out)
                  obtain ⟨N, hN⟩ : ∃ N, rnextF L c = N := ⟨_, rfl⟩
                  rw [hN] at HNq HR
                  clear hN
                  go_wp2_with fail
                  (with_reducible refine HNq.out.mono ?_)
                  rintro e w5 ⟨⟨rr, rfl, hrr⟩, hb⟩
                  have HB5 := Lib.hid (HBq.out.trans (hb.mono HBq.out.size))
                  obtain ⟨A5, c5, rfl, _⟩ := hrr.form
                  clear hb hrr
                  by_cases hN4 : N.length ≤ 400
                  · have HF := Lib.hid (show r = true from by rw [← HR.out]; exact decide_eq_true hN4)
                    have hN5 : (N.length : Int) ≤ 400 := by omega
                    go_wp2_with fail
                    go_ret
                    exact ⟨ret_b HF.out.symm, HB0.out.trans (HB5.out.mono HB0.out.size)⟩
                  · have HF := Lib.hid (show r = false from by rw [← HR.out]; exact decide_eq_false hN4)
                    have hN5 : ¬ (N.length : Int) ≤ 400 := by omega
                    go_wp2_with fail
                    go_ret
                    exact ⟨ret_b (by rw [HF.out, decide_eq_false_iff_not]; omega), HB0.out.trans (HB5.out.mono HB0.out.size)⟩
        · simp only [decide_eq_false h4] at HVt
          (with_reducible refine (HVt.out w2 HB2.out).mono ?_)
          rintro e w3 ⟨rfl, hb⟩
          have HB3 := Lib.hid (HB2.out.trans (hb.mono HB2.out.size))
          clear hb
          have HF := Lib.hid (show r = false from by rw [← HR.out, decide_eq_false_iff_not]; exact fun h => h4 h.2.2.2.1)
          go_wp2_with fail
          go_ret
          exact ⟨ret_b HF.out.symm, HB0.out.trans (HB3.out.mono HB0.out.size)⟩
      · simp only [decide_eq_false h3] at HVf
        (with_reducible refine (HVf.out w1 HB1.out).mono ?_)
        rintro e w2 ⟨rfl, hb⟩
        have HB2 := Lib.hid (HB1.out.trans (hb.mono HB1.out.size))
        clear hb
        have HF := Lib.hid (show r = false from by rw [← HR.out, decide_eq_false_iff_not]; exact fun h => h3 h.2.2.1)
        go_wp2_with fail
        go_ret
        exact ⟨ret_b HF.out.symm, HB0.out.trans (HB2.out.mono HB0.out.size)⟩
  · simp only [decide_eq_false h1] at HW
    go_wp2_with fail
    (with_reducible refine (HW.out _).mono ?_)
    rintro e w1 ⟨rfl, hb⟩
    have HB1 := Lib.hid (hb)
    clear hb
    have HF := Lib.hid (show r = false from by rw [← HR.out, decide_eq_false_iff_not]; exact fun h => h1 h.1)
    go_wp2_with fail
    go_ret
    exact ⟨ret_b HF.out.symm, HB0.out.trans (HB1.out.mono HB0.out.size)⟩
end Go.Proofs.YtplpogonkfnafaaGreat
