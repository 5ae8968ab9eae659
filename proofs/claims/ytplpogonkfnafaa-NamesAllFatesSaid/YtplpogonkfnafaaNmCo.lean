/- Count. -/
import Derived.Test.YtplpogonkfnafaaNmSm
namespace Go.Proofs.Ytplpogonkfnafaa
open Go.RowKit Go.Nm

def countOut (b : Bk) : Int × Int := if openE b [] = 0 then (if rich b then (0, 2) else (cnt b, 0)) else (0, openE b [])
set_option maxRecDepth 100000 in
set_option maxHeartbeats 8000000 in
theorem Count_any (v vc : Value) (b : Bk) (w : World) (hv : BkV w v b vc) (hs : Sm b) :
    Calls Try.prog 31 #[v] w (OutI (countOut b).1 (countOut b).2 w) := by
  have hv0 := hv
  obtain ⟨v1, rfl, h1, h2⟩ := hv
  obtain ⟨A1, c1, rfl, _⟩ := h1.form
  obtain ⟨A2, c2, rfl⟩ := h2.form
  have hb0 := below_new (w := w) (.cells #[.slice A1 b.first.length c1, .slice A2 b.chs.length c2] 25)
  have HO := Lib.hid (open_any _ _ _ b [] _ (hv0.step hb0) hs (InSl.nil _ _) (by simp))
  have HB0 := Lib.hid hb0
  have HM := Lib.hid (show countOut b = if openE b [] = 0 then (if rich b then (0, 2) else (cnt b, 0)) else (0, openE b []) from rfl)
  have HZ := Lib.hid (openE_val (b := b) (V := []))
  have HS := Lib.hid hs
  clear hv0 h1 h2 hb0 hs
  generalize countOut b = o at *
  obtain ⟨oR, oE⟩ := o
  dsimp only
  generalize openE b [] = er at *
  go_enter Try.func31, Try.ntmps31
  go_wp2_with fail
  (with_reducible refine HO.out.mono ?_)
  rintro e w1 ⟨u, rfl, hu0, hu1, hb⟩
  have HB := Lib.hid (HB0.out.trans (hb.mono HB0.out.size))
  clear hb
  by_cases he : er = 0
  · subst he
    obtain ⟨hval, _⟩ := HZ.out rfl
    rw [if_pos rfl] at HM
    have hH := hu0 rfl
    obtain ⟨Av, cv, rfl, hvs⟩ := vers_sl hH
    have hb2 := below_new (w := w1) (.cells #[.slice Av (vers b).length cv, .slice A2 b.chs.length c2] 67)
    have HH := Lib.hid (hH.step hb2)
    have HB2 := Lib.hid (HB.out.trans (hb2.mono HB.out.size))
    have HRi := Lib.hid (rich_val _ _ b _ HH.out HS.out hval)
    have HCo := Lib.hid (fun X (hb : Below (w1.alloc (.cells #[.slice Av (vers b).length cv, .slice A2 b.chs.length c2] 67)).heap.size (w1.alloc (.cells #[.slice Av (vers b).length cv, .slice A2 b.chs.length c2] 67)) X) =>
      count_any _ _ b X (HH.out.step hb) HS.out (val_first hval) (val_ver hval).2.2.1 (val_wf hval))
    have HN2 := Lib.hid (World.alloc_heap_new w1 (.cells #[.slice Av (vers b).length cv, .slice A2 b.chs.length c2] 67))
    clear hH hvs hb2 hu0 hu1 hval HZ
    obtain ⟨W8, hW8⟩ : ∃ W8, w1.alloc (.cells #[.slice Av (vers b).length cv, .slice A2 b.chs.length c2] 67) = W8 := ⟨_, rfl⟩
    rw [hW8] at HH HB2 HRi HCo HN2
    generalize hvq : (vers b).length = vl at *
    clear hvq
    obtain ⟨k0, k1⟩ := cells_two HN2.out
    obtain ⟨rr, hrr⟩ : ∃ rr, rich b = rr := ⟨_, rfl⟩
    rw [hrr] at HM HRi
    clear hrr
    obtain ⟨z, hz⟩ : ∃ z, cnt b = z := ⟨_, rfl⟩
    rw [hz] at HM HCo
    clear hz
    go_wp2_with fail
    (with_reducible refine HRi.out.mono ?_)
    rintro e w3 ⟨rfl, hb⟩
    have HB3 := Lib.hid (And.intro hb (HB2.out.trans (hb.mono HB2.out.size)))
    have j0 : w3.cell? ⟨w1.heap.size, 0, none⟩ = some (.slice Av vl cv) := (hb.cell (p := ⟨w1.heap.size, 0, none⟩) (Array.getElem?_eq_some_iff.1 HN2.out).1).trans k0
    have j1 : w3.cell? ⟨w1.heap.size, 1, none⟩ = some (.slice A2 b.chs.length c2) := (hb.cell (p := ⟨w1.heap.size, 1, none⟩) (Array.getElem?_eq_some_iff.1 HN2.out).1).trans k1
    clear hb k0 k1
    cases rr with
    | true =>
      have hM := HM.out
      rw [if_pos rfl] at hM
      injection hM with hM1 hM2
      subst hM1; subst hM2
      clear HM
      go_wp2_with fail
      go_ret2
      exact ⟨rfl, HB3.out.2⟩
    | false =>
      have hM := HM.out
      rw [if_neg (by decide)] at hM
      injection hM with hM1 hM2
      subst hM1; subst hM2
      clear HM
      have HC := Lib.hid (HCo.out w3 HB3.out.1)
      go_wp2_with fail
      (with_reducible refine HC.out.mono ?_)
      rintro e w4 ⟨rfl, hb⟩
      have HB4 := Lib.hid (HB3.out.2.trans (hb.mono HB3.out.2.size))
      clear hb
      go_wp2_with fail
      go_ret2
      exact ⟨rfl, HB4.out⟩
  · rw [if_neg he] at HM
    have hM := HM.out
    injection hM with hM1 hM2
    subst hM1; subst hM2
    clear HM
    obtain rfl := hu1 he
    have HB2 := Lib.hid (HB.out.trans ((below_new (w := w1) (.cells #[.slice none 0 0, .slice none 0 0] 67)).mono HB.out.size))
    unfold nilH at *
    clear hu0 hu1 HZ
    go_wp2_with fail
    go_ret2
    exact ⟨rfl, HB2.out⟩
end Go.Proofs.Ytplpogonkfnafaa
