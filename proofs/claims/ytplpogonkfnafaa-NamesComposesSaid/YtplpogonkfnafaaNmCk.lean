/- Check. -/
import Derived.Test.YtplpogonkfnafaaNmVo
namespace Go.Proofs.Ytplpogonkfnafaa
open Go.RowKit Go.Nm

def checkOut (b : Bk) : Int × Int := if b.chs.length ≤ 64 then (if b.chs.length < (vers b).length then (0, 0) else (20, ((vers b).length : Int))) else (2, 0)
set_option maxRecDepth 100000 in
set_option maxHeartbeats 8000000 in
theorem Check_any (v vc : Value) (b : Bk) (w : World) (hv : BkV w v b vc) (hs : Sm b) :
    Calls Try.prog 16 #[v] w (OutI (checkOut b).1 (checkOut b).2 w) := by
  have hv0 := hv
  obtain ⟨v1, rfl, h1, h2⟩ := hv
  obtain ⟨A1, c1, rfl, _⟩ := h1.form
  obtain ⟨A2, c2, rfl⟩ := h2.form
  have hb0 := below_new (w := w) (.cells #[.slice A1 b.first.length c1, .slice A2 b.chs.length c2] 25)
  have HH := Lib.hid (historyOf_any _ _ b _ (hv0.step hb0) hs)
  have HN0 := Lib.hid (World.alloc_heap_new w (.cells #[.slice A1 b.first.length c1, .slice A2 b.chs.length c2] 25))
  have HB0 := Lib.hid hb0
  have HM := Lib.hid (show checkOut b = if b.chs.length ≤ 64 then (if b.chs.length < (vers b).length then (0, 0) else (20, ((vers b).length : Int))) else (2, 0) from rfl)
  have HVl : (vers b).length ≤ 1001 := by have := vers_len b; have := hs.2.1; omega
  clear hv0 h1 h2 hb0 hs
  generalize checkOut b = o at *
  obtain ⟨oR, oE⟩ := o
  dsimp only
  obtain ⟨W1, hW1⟩ : ∃ W1, w.alloc (.cells #[.slice A1 b.first.length c1, .slice A2 b.chs.length c2] 25) = W1 := ⟨_, rfl⟩
  rw [hW1] at HH HN0 HB0
  obtain ⟨k0, k1⟩ := cells_two HN0.out
  by_cases hbig : b.chs.length ≤ 64
  · have hbig' : ¬ (64 : Int) < (b.chs.length : Int) := by omega
    have hM := HM.out
    rw [if_pos hbig] at hM
    clear HM
    go_enter Try.func16, Try.ntmps16
    go_wp2_with fail
    (with_reducible refine HH.out.mono ?_)
    rintro e w1 ⟨⟨u, rfl, hu⟩, hb⟩
    obtain ⟨Av, cv, rfl⟩ := hu.form
    have HB1 := Lib.hid (HB0.out.trans (hb.mono HB0.out.size))
    have HU2 := Lib.hid (hu.step (below_new (.cells #[.slice Av (vers b).length cv, .slice A2 b.chs.length c2] 67)))
    have HC := Lib.hid (complete_any _ _ b _ HU2.out)
    have HB2 := Lib.hid (HB1.out.trans ((below_new (.cells #[.slice Av (vers b).length cv, .slice A2 b.chs.length c2] 67)).mono HB1.out.size))
    have HN2 := Lib.hid (World.alloc_heap_new w1 (.cells #[.slice Av (vers b).length cv, .slice A2 b.chs.length c2] 67))
    clear hu hb HH k0 k1 HU2
    by_cases hc : b.chs.length < (vers b).length
    · rw [if_pos hc] at hM
      injection hM with hM1 hM2
      subst hM1; subst hM2
      rw [decide_eq_true hc] at HC
      go_wp2_with fail
      (with_reducible refine HC.out.mono ?_)
      rintro e w2 ⟨rfl, hb⟩
      have HB3 := Lib.hid (HB2.out.trans (hb.mono HB2.out.size))
      clear hb
      go_wp2_with fail
      go_ret2
      exact ⟨rfl, HB3.out⟩
    · rw [if_neg hc] at hM
      injection hM with hM1 hM2
      subst hM1; subst hM2
      rw [decide_eq_false hc] at HC
      go_wp2_with fail
      (with_reducible refine HC.out.mono ?_)
      rintro e w2 ⟨rfl, hb⟩
      have HB3 := Lib.hid (HB2.out.trans (hb.mono HB2.out.size))
      have HN3 := Lib.hid ((hb.block _ (Array.getElem?_eq_some_iff.1 HN2.out).1).trans HN2.out)
      clear hb
      generalize b.chs.length = len at *
      generalize (vers b).length = vl at *
      obtain ⟨k0, k1⟩ := cells_two HN3.out
      go_wp2_with fail
      refine wp_region_still_lit (by kernel_rfl) (by kernel_rfl) ?_
      iterate 5 ((with_reducible refine wpStill_step ?_); intro K hK; go_simp; (try (refine ite_neg_of (by simp [undef] <;> assumption) ?_)); (with_reducible refine hK _ ?_); clear hK K)
      (with_reducible refine wpStill_nil ?_)
      go_wp2_with fail
      go_ret2
      exact ⟨rfl, HB3.out.drew⟩
  · have hbig' : (64 : Int) < (b.chs.length : Int) := by omega
    have hM := HM.out
    rw [if_neg hbig] at hM
    injection hM with hM1 hM2
    subst hM1; subst hM2
    clear HM HH
    generalize b.chs.length = len at *
    go_enter Try.func16, Try.ntmps16
    go_wp2_with fail
    go_ret2
    exact ⟨rfl, HB0.out⟩

end Go.Proofs.Ytplpogonkfnafaa
