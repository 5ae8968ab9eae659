
/- SameInts, SameLists, holds, further. -/
import Derived.Test.YtplpogonkfnafaaGreatNmBd
namespace Go.Proofs.YtplpogonkfnafaaGreat
open Go.RowKit Go.Nm

theorem same_next {α : Type} {L M : List α} {i : Nat} {x y : α} (h : ∀ j, j < i → L[j]? = M[j]?) (hx : L[i]? = some x) (hy : M[i]? = some y) (he : x = y) : ∀ j, j < i + 1 → L[j]? = M[j]? := by
  intro j hj
  by_cases h1 : j < i
  · exact h j h1
  · obtain rfl : j = i := by omega
    rw [hx, hy, he]
theorem same_end {α : Type} {L M : List α} {n : Nat} (hL : L.length = n) (hM : M.length = n) (h : ∀ j, j < n → L[j]? = M[j]?) : L = M := by
  apply List.ext_getElem?
  intro j
  by_cases hj : j < n
  · exact h j hj
  · rw [List.getElem?_eq_none (by omega), List.getElem?_eq_none (by omega)]
set_option maxHeartbeats 4000000 in
theorem SameInts_any (u v : Value) (L M : List Int) (w : World) (hu : InSl w w.heap.size u L) (hv : InSl w w.heap.size v M) (hL : L.length ≤ 1000000) (hM : M.length ≤ 1000000) :
    Calls Tryz.prog 21 #[u, v] w fun e w' => e = .returned (.bool (decide (L = M))) ∧ Below w.heap.size w w' := by
  obtain ⟨A, c, rfl, hc, hcm, hA⟩ := hu
  obtain ⟨B, d, rfl, hd, hdm, hB⟩ := hv
  have HA := Lib.hid hA
  have HB := Lib.hid hB
  obtain ⟨r, hr⟩ : ∃ r, decide (L = M) = r := ⟨_, rfl⟩
  rw [hr]
  have HR := Lib.hid hr
  clear hA hB hr
  generalize hnl : L.length = n at *
  generalize hnm : M.length = m at *
  have HL := Lib.hid hnl
  have HM := Lib.hid hnm
  clear hnl hnm
  by_cases hnm : n = m
  · subst hnm
    go_enter Tryz.func21, Tryz.ntmps21
    go_wp2_with fail
    go_loopw [5] (fun iv wr => ∃ i : Nat, iv = .int .i64 (i : Int) ∧ i ≤ n ∧ (∀ j, j < i → L[j]? = M[j]?) ∧ Below w.heap.size w wr) (fun iv _ => n - (intOf iv).toNat)
    case atStart => exact ⟨0, rfl, by omega, fun j hj => absurd hj (by omega), Below.refl _ _⟩
    case round =>
      obtain ⟨i, rfl, hin, hq, hb⟩ := hrel
      have HQ := Lib.hid hq
      have HBl := Lib.hid hb
      by_cases hlt : i < n
      · obtain ⟨x, ad, hx, rfl, hbd, hcx⟩ := (HA.out.below hb).at_ HL.out hlt
        obtain ⟨y, ad2, hy, rfl, hbd2, hcy⟩ := (HB.out.below hb).at_ HM.out hlt
        clear hq hb
        by_cases hxy : x = y
        · have HN := Lib.hid (same_next HQ.out hx hy hxy)
          subst hxy
          clear hx hy hbd hbd2
          go_wp2_with fail
          go_region
          have HB2 := Lib.hid HBl.out.drew
          simp only [Exit.then]
          generalize wr.drew = w3 at *
          go_wp2_with fail
          go_roundw
          case rel => exact ⟨i + 1, by go_num, by omega, HN.out, HB2.out⟩
          case measure => simp [intOf]; omega
        · have HF := Lib.hid (show r = false from by
            rw [← HR.out, decide_eq_false_iff_not]; intro e; subst e; rw [hx] at hy; injection hy with hy; exact hxy hy)
          have hb2 : (x != y) = true := by simpa using hxy
          clear hx hy hbd hbd2
          go_wp2_with fail
          go_region
          have HB2 := Lib.hid HBl.out.drew
          simp only [Exit.then]
          generalize wr.drew = w3 at *
          go_wp2_with fail
          go_ret
          exact ⟨by rw [HF.out]; rfl, HB2.out⟩
      · obtain rfl : i = n := by omega
        have HF := Lib.hid (show r = true from by rw [← HR.out, decide_eq_true_eq]; exact same_end HL.out HM.out HQ.out)
        clear hq hb
        go_wp2_with fail
        go_ret
        exact ⟨by rw [HF.out]; rfl, HBl.out⟩
  · have HF := Lib.hid (show r = false from by rw [← HR.out, decide_eq_false_iff_not]; intro e; apply hnm; rw [← HL.out, ← HM.out, e])
    have hb : ((n : Int) != (m : Int)) = true := by simpa using fun e => hnm (by omega)
    go_enter Tryz.func21, Tryz.ntmps21
    go_wp2_with fail
    go_ret
    exact ⟨by rw [HF.out]; rfl, Below.refl _ _⟩
end Go.Proofs.YtplpogonkfnafaaGreat
namespace Go.Proofs.YtplpogonkfnafaaGreat
open Go.RowKit Go.Nm

theorem VsSl.form2 {w : World} {B : Nat} {v : Value} {LL : List (List Int)} (h : VsSl w B v LL) : ∃ A c, v = .slice A LL.length c ∧ VsSl w B (.slice A LL.length c) LL := by
  obtain ⟨A, c, rfl⟩ := h.form
  exact ⟨A, c, rfl, h⟩
set_option maxRecDepth 100000 in
set_option maxHeartbeats 4000000 in
theorem SameLists_any (u v : Value) (L M : List (List Int)) (w : World) (hu : VsSl w w.heap.size u L) (hv : VsSl w w.heap.size v M) (hL : L.length ≤ 1000000) (hLs : ∀ l ∈ L, l.length ≤ 1000000) (hMs : ∀ l ∈ M, l.length ≤ 1000000) :
    Calls Tryz.prog 13 #[u, v] w fun e w' => e = .returned (.bool (decide (L = M))) ∧ Below w.heap.size w w' := by
  obtain ⟨A, c, rfl, hA⟩ := hu.form2
  obtain ⟨B, d, rfl, hB⟩ := hv.form2
  have HA := Lib.hid hA
  have HB := Lib.hid hB
  have HLs := Lib.hid (And.intro hLs hMs)
  obtain ⟨r, hr⟩ : ∃ r, decide (L = M) = r := ⟨_, rfl⟩
  rw [hr]
  have HR := Lib.hid hr
  clear hA hB hr hu hv hLs hMs
  generalize hnl : L.length = n at *
  generalize hnm : M.length = m at *
  have HL := Lib.hid hnl
  have HM := Lib.hid hnm
  clear hnl hnm
  by_cases hnm : n = m
  · subst hnm
    go_enter Tryz.func13, Tryz.ntmps13
    go_wp2_with fail
    go_loopw [5] (fun iv wr => ∃ i : Nat, iv = .int .i64 (i : Int) ∧ i ≤ n ∧ (∀ j, j < i → L[j]? = M[j]?) ∧ Below w.heap.size w wr) (fun iv _ => n - (intOf iv).toNat)
    case atStart => exact ⟨0, rfl, by omega, fun j hj => absurd hj (by omega), Below.refl _ _⟩
    case round =>
      obtain ⟨i, rfl, hin, hq, hb⟩ := hrel
      have HQ := Lib.hid hq
      have HBl := Lib.hid hb
      by_cases hlt : i < n
      · obtain ⟨ad, ux, x, rfl, hbd, hx, hcx, hix⟩ := ((HA.out.below hb).mono hb.size).at_ hlt
        obtain ⟨ad2, uy, y, rfl, hbd2, hy, hcy, hiy⟩ := ((HB.out.below hb).mono hb.size).at_ hlt
        have HC := Lib.hid (SameInts_any ux uy x y wr.drew (hix.step (Below.refl _ _).drew) (hiy.step (Below.refl _ _).drew) (HLs.out.1 x (List.mem_of_getElem? hx)) (HLs.out.2 y (List.mem_of_getElem? hy)))
        obtain ⟨Ax, cx, rfl, _⟩ := hix.form
        obtain ⟨Ay, cy, rfl, _⟩ := hiy.form
        have HX := Lib.hid (And.intro hx hy)
        clear hq hb hix hiy hx hy hbd hbd2
        generalize hlx : x.length = lx at *
        generalize hly : y.length = ly at *
        obtain ⟨q, hqq⟩ : ∃ q, decide (x = y) = q := ⟨_, rfl⟩
        rw [hqq] at HC
        have HQq := Lib.hid hqq
        clear hqq hlx hly
        go_wp2_with fail
        refine wp_region_tail 8 (by kernel_rfl) (by kernel_rfl) ?_
        simp only [List.take_succ_cons, List.take_zero, List.drop_succ_cons, List.drop_zero]
        repeat still_step
        refine wpStill_nil ?_
        go_wp2_with fail
        refine HC.out.mono ?_
        rintro e w3 ⟨rfl, hb3⟩
        have HB3 := Lib.hid (HBl.out.trans (((Below.refl _ _).drew.trans hb3).mono HBl.out.size))
        clear hb3
        cases q with
        | true =>
          have HN := Lib.hid (same_next HQ.out HX.out.1 HX.out.2 (of_decide_eq_true HQq.out))
          go_wp2_with fail
          go_roundw
          case rel => exact ⟨i + 1, by go_num, by omega, HN.out, HB3.out⟩
          case measure => simp [intOf]; omega
        | false =>
          have HF := Lib.hid (show r = false from by
            rw [← HR.out, decide_eq_false_iff_not]; intro e; subst e
            have hx := HX.out.1; have hy := HX.out.2
            rw [hx] at hy; injection hy with hy
            exact of_decide_eq_false HQq.out hy)
          go_wp2_with fail
          go_ret
          exact ⟨by rw [HF.out]; rfl, HB3.out⟩
      · obtain rfl : i = n := by omega
        have HF := Lib.hid (show r = true from by rw [← HR.out, decide_eq_true_eq]; exact same_end HL.out HM.out HQ.out)
        clear hq hb
        go_wp2_with fail
        go_ret
        exact ⟨by rw [HF.out]; rfl, HBl.out⟩
  · have HF := Lib.hid (show r = false from by rw [← HR.out, decide_eq_false_iff_not]; intro e; apply hnm; rw [← HL.out, ← HM.out, e])
    have hb : ((n : Int) != (m : Int)) = true := by simpa using fun e => hnm (by omega)
    go_enter Tryz.func13, Tryz.ntmps13
    go_wp2_with fail
    go_ret
    exact ⟨by rw [HF.out]; rfl, Below.refl _ _⟩
end Go.Proofs.YtplpogonkfnafaaGreat
namespace Go.Proofs.YtplpogonkfnafaaGreat
open Go.RowKit Go.Nm

end Go.Proofs.YtplpogonkfnafaaGreat
namespace Go.Proofs.YtplpogonkfnafaaGreat
open Go.RowKit Go.Nm

/-- the names that may follow in a fate -/
def furF (b : Bk) (g : List Int) : List Int := match g.getLast? with
  | none => b.first
  | some x => match b.chs[g.length - 1]? with
    | some c => if x ∈ c.fr then c.to else [x]
    | none => [x]
theorem last_at {g : List Int} {k : Nat} {x : Int} (hk : g.length = k + 1) (h : g[k]? = some x) : g.getLast? = some x := by
  rw [List.getLast?_eq_getElem?, hk]; exact h
theorem off_add (g : Nat) (k : Nat) : (⟨g, 0, none⟩ : Addr).add k = ⟨g, k, none⟩ := by cases k <;> simp [Addr.add]
set_option maxRecDepth 100000 in
set_option maxHeartbeats 8000000 in
theorem further_any (W0 w : World) (v vc : Value) (b : Bk) (g : List Int) (gB cap : Nat) (hv : HsV W0 v b vc) (hs : Sm b) (hval : Val b) (hW : Below W0.heap.size W0 w) (hg : InA w w.heap.size (some ⟨gB, 0, none⟩) g) (hgl : g.length ≤ b.chs.length) (hcap : g.length < cap) (hcm : cap ≤ 100000) :
    Calls Tryz.prog 79 #[v, .slice (some ⟨gB, 0, none⟩) g.length cap] w fun e w' => (∃ r, e = .returned r ∧ (InSl W0 W0.heap.size r (furF b g) ∨ (∃ k c x, g.length = k + 1 ∧ r = .slice (some ⟨gB, k, none⟩) 1 c ∧ 1 ≤ c ∧ furF b g = [x] ∧ g[k]? = some x))) ∧ Below w.heap.size w w' := by
  obtain ⟨vs, rfl, h1, h2⟩ := hv
  have h0 := val_first hval
  obtain ⟨Av, cv, rfl⟩ := h1.form
  obtain ⟨A2, c2, rfl⟩ := h2.form
  have hb0 := below_new (w := w) (.cells #[.slice Av (vers b).length cv, .slice A2 b.chs.length c2] 55)
  have HN0 := Lib.hid (World.alloc_heap_new w (.cells #[.slice Av (vers b).length cv, .slice A2 b.chs.length c2] 55))
  have HB0 := Lib.hid hb0
  have HBW := Lib.hid (hW.trans (hb0.mono hW.size))
  have HVal := Lib.hid hval
  have HS := Lib.hid hs
  have HCh := Lib.hid h2
  have HG := Lib.hid ((hg.below hb0).mono hb0.size)
  have hvl := hval.2
  rcases Nat.eq_zero_or_pos g.length with hz | hz
  · obtain rfl := List.length_eq_zero_iff.1 hz
    obtain ⟨ad, u0, L0, rfl, hbd, hL0, hc0, hin0⟩ := h1.at_ (i := 0) (by omega)
    obtain rfl : L0 = b.first := by rw [h0] at hL0; injection hL0 with e; exact e.symm
    obtain ⟨A1, c1, rfl, _⟩ := hin0.form
    have HF := Lib.hid hin0
    rw [add_zero'] at hc0
    have hc1 := (HBW.out.cell hbd).trans hc0
    obtain ⟨k0, k1⟩ := cells_two HN0.out
    clear h1 h2 hb0 hg hin0 hc0 hL0 h0 hW hs hval
    generalize (vers b).length = vl at *
    go_enter Tryz.func79, Tryz.ntmps79
    go_wp2_with fail
    go_ret
    exact ⟨⟨_, rfl, .inl (by simpa [furF] using HF.out)⟩, HB0.out⟩
  · obtain ⟨k, hk⟩ : ∃ k, g.length = k + 1 := ⟨g.length - 1, by omega⟩
    have hkc : k < b.chs.length := by omega
    obtain ⟨c, ad, vf, vt, hc, rfl, hbd, d0, d1, d2, hf0, ht0⟩ := h2.at_ hkc
    obtain ⟨_, _, _, _, g3⟩ := step_data hval hc
    have hlf := hs.2.2 c (List.mem_of_getElem? hc)
    obtain ⟨Af, cf, rfl, _⟩ := hf0.form
    obtain ⟨At, ct, rfl, _⟩ := ht0.form
    obtain ⟨x, ad2, hx, e2, hbd2, hcx⟩ := HG.out.at_ hk (Nat.lt_succ_self k)
    injection e2 with e2
    subst e2
    rw [off_add] at hcx
    have d0' := (HBW.out.cell (p := ad.add (k * 3)) (by rw [add_block]; exact hbd)).trans d0
    have d1' := (HBW.out.cell (by rw [add_block]; exact hbd)).trans d1
    have d2' := (HBW.out.cell (by rw [add_block]; exact hbd)).trans d2
    have HFu := Lib.hid (show furF b g = if x ∈ c.fr then c.to else [x] from by unfold furF; rw [last_at hk hx]; dsimp only; rw [show g.length - 1 = k from by omega, hc])
    have HTo := Lib.hid ht0
    have HX := Lib.hid hx
    have HK := Lib.hid hk
    have hb8 := below_new (w := w.alloc (.cells #[.slice Av (vers b).length cv, .slice (some ad) b.chs.length c2] 55)) (.cells #[.int .i64 c.yr, .slice Af c.fr.length cf, .slice At c.to.length ct] 52)
    have hn8 := World.alloc_heap_new (w.alloc (.cells #[.slice Av (vers b).length cv, .slice (some ad) b.chs.length c2] 55)) (.cells #[.int .i64 c.yr, .slice Af c.fr.length cf, .slice At c.to.length ct] 52)
    have hcx8 := (hb8.cell (p := ⟨gB, k, none⟩) hbd2).trans hcx
    have HHas := Lib.hid (has_any _ c.fr x _ (((hf0.below HBW.out).mono (Nat.le_trans hW.size HB0.out.size)).step (hb8.trans (Below.refl _ _).drew)) g3.ifr (by omega))
    have HB8 := Lib.hid (HB0.out.trans (hb8.mono HB0.out.size))
    obtain ⟨k0, k1⟩ := cells_two HN0.out
    clear h1 h2 hb0 hg h0 hW hs hval hf0 ht0 hc g3 hlf hx hb8 hcx d0 d1 d2 HN0 HBW HCh HG hbd hbd2 hz
    rw [hk] at hgl hcap ⊢
    generalize hW1 : w.alloc (.cells #[.slice Av (vers b).length cv, .slice (some ad) b.chs.length c2] 55) = W1 at *
    generalize hW8 : W1.alloc (.cells #[.int .i64 c.yr, .slice Af c.fr.length cf, .slice At c.to.length ct] 52) = W8 at *
    obtain ⟨x0, x1, x2⟩ := cells_three hn8
    generalize (vers b).length = vl at *
    generalize b.chs.length = len at *
    by_cases hxf : x ∈ c.fr
    · rw [decide_eq_true hxf] at HHas
      rw [if_pos hxf] at HFu
      go_enter Tryz.func79, Tryz.ntmps79
      go_wp2_with fail
      have hkl : (k : Int) < (k : Int) + 1 := by omega
      refine wp_region_tail 6 (by kernel_rfl) (by kernel_rfl) ?_
      simp only [List.take_succ_cons, List.take_zero, List.drop_succ_cons, List.drop_zero]
      repeat still_step
      refine wpStill_nil ?_
      go_wp2_with fail
      refine HHas.out.mono ?_
      rintro e w3 ⟨rfl, rfl⟩
      have HB9 := Lib.hid HB8.out.drew
      clear HB8
      have y0 : W8.drew.cell? ⟨W1.heap.size, 0, none⟩ = some (.int .i64 c.yr) := x0
      have y1 : W8.drew.cell? ⟨W1.heap.size, 1, none⟩ = some (.slice Af c.fr.length cf) := x1
      have y2 : W8.drew.cell? ⟨W1.heap.size, 2, none⟩ = some (.slice At c.to.length ct) := x2
      clear x0 x1 x2 HHas
      generalize W8.drew = W9 at *
      go_wp2_with fail
      go_ret
      exact ⟨⟨_, rfl, .inl (by rw [HFu.out]; exact HTo.out)⟩, HB9.out⟩
    · rw [decide_eq_false hxf] at HHas
      rw [if_neg hxf] at HFu
      go_enter Tryz.func79, Tryz.ntmps79
      go_wp2_with fail
      have hkl : (k : Int) < (k : Int) + 1 := by omega
      refine wp_region_tail 6 (by kernel_rfl) (by kernel_rfl) ?_
      simp only [List.take_succ_cons, List.take_zero, List.drop_succ_cons, List.drop_zero]
      repeat still_step
      refine wpStill_nil ?_
      go_wp2_with fail
      refine HHas.out.mono ?_
      rintro e w3 ⟨rfl, rfl⟩
      have HB9 := Lib.hid HB8.out.drew
      clear HB8
      have y0 : W8.drew.cell? ⟨W1.heap.size, 0, none⟩ = some (.int .i64 c.yr) := x0
      have y1 : W8.drew.cell? ⟨W1.heap.size, 1, none⟩ = some (.slice Af c.fr.length cf) := x1
      have y2 : W8.drew.cell? ⟨W1.heap.size, 2, none⟩ = some (.slice At c.to.length ct) := x2
      clear x0 x1 x2 HHas
      generalize W8.drew = W9 at *
      go_wp2_with fail
      go_ret
      exact ⟨⟨_, rfl, .inr ⟨k, _, x, rfl, rfl, by omega, HFu.out, HX.out⟩⟩, HB9.out⟩
end Go.Proofs.YtplpogonkfnafaaGreat
