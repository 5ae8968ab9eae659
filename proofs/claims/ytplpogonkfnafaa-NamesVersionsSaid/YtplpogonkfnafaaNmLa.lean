/- Last, Has. -/
import Derived.Test.YtplpogonkfnafaaNmCo
namespace Go.Proofs.Ytplpogonkfnafaa
open Go.RowKit Go.Nm

def lastOut (b : Bk) : Int × Int := if openE b [] = 0 then ((b.chs.length : Int), 0) else (0, openE b [])
set_option maxRecDepth 100000 in
set_option maxHeartbeats 8000000 in
theorem Last_any (v vc : Value) (b : Bk) (w : World) (hv : BkV w v b vc) (hs : Sm b) :
    Calls Try.prog 18 #[v] w (OutI (lastOut b).1 (lastOut b).2 w) := by
  have hv0 := hv
  obtain ⟨v1, rfl, h1, h2⟩ := hv
  obtain ⟨A1, c1, rfl, _⟩ := h1.form
  obtain ⟨A2, c2, rfl⟩ := h2.form
  have hb0 := below_new (w := w) (.cells #[.slice A1 b.first.length c1, .slice A2 b.chs.length c2] 25)
  have HO := Lib.hid (open_any _ _ _ b [] _ (hv0.step hb0) hs (InSl.nil _ _) (by simp))
  have HN0 := Lib.hid (World.alloc_heap_new w (.cells #[.slice A1 b.first.length c1, .slice A2 b.chs.length c2] 25))
  have HB0 := Lib.hid hb0
  have HM := Lib.hid (show lastOut b = if openE b [] = 0 then ((b.chs.length : Int), 0) else (0, openE b []) from rfl)
  clear hv0 h1 h2 hb0 hs
  generalize lastOut b = o at *
  obtain ⟨oR, oE⟩ := o
  dsimp only
  generalize openE b [] = er at *
  generalize b.chs.length = len at *
  obtain ⟨W1, hW1⟩ : ∃ W1, w.alloc (.cells #[.slice A1 b.first.length c1, .slice A2 len c2] 25) = W1 := ⟨_, rfl⟩
  rw [hW1] at HO HN0 HB0
  obtain ⟨k0, k1⟩ := cells_two HN0.out
  go_enter Try.func18, Try.ntmps18
  go_wp2_with fail
  (with_reducible refine HO.out.mono ?_)
  rintro e w1 ⟨u, rfl, hu0, hu1, hb⟩
  have HB := Lib.hid (HB0.out.trans (hb.mono HB0.out.size))
  have j0 : w1.cell? ⟨w.heap.size, 0, none⟩ = some (.slice A1 b.first.length c1) := (hb.cell (p := ⟨w.heap.size, 0, none⟩) (Array.getElem?_eq_some_iff.1 HN0.out).1).trans k0
  have j1 : w1.cell? ⟨w.heap.size, 1, none⟩ = some (.slice A2 len c2) := (hb.cell (p := ⟨w.heap.size, 1, none⟩) (Array.getElem?_eq_some_iff.1 HN0.out).1).trans k1
  have hlt1 : w.heap.size < w1.heap.size := Nat.lt_of_lt_of_le (Array.getElem?_eq_some_iff.1 HN0.out).1 hb.size
  have HU := Lib.hid (And.intro hu0 hu1)
  clear hb hu0 hu1 k0 k1
  by_cases he : er = 0
  · subst he
    have hM := HM.out
    rw [if_pos rfl] at hM
    injection hM with hM1 hM2
    subst hM1; subst hM2
    clear HM
    obtain ⟨Av, cv, rfl, _⟩ := vers_sl (HU.out.1 rfl)
    have HB2 := Lib.hid (HB.out.trans ((below_new (w := w1) (.cells #[.slice Av (vers b).length cv, .slice A2 len c2] 67)).mono HB.out.size))
    have i0 := ((below_new (w := w1) (.cells #[.slice Av (vers b).length cv, .slice A2 len c2] 67)).cell (p := ⟨w.heap.size, 0, none⟩) hlt1).trans j0
    have i1 := ((below_new (w := w1) (.cells #[.slice Av (vers b).length cv, .slice A2 len c2] 67)).cell (p := ⟨w.heap.size, 1, none⟩) hlt1).trans j1
    clear HU j0 j1
    obtain ⟨W8, hW8⟩ : ∃ W8, w1.alloc (.cells #[.slice Av (vers b).length cv, .slice A2 len c2] 67) = W8 := ⟨_, rfl⟩
    rw [hW8] at i0 i1 HB2
    go_wp2_with fail
    go_ret2
    exact ⟨rfl, HB2.out⟩
  · have hM := HM.out
    rw [if_neg he] at hM
    injection hM with hM1 hM2
    subst hM1; subst hM2
    clear HM
    obtain rfl := HU.out.2 he
    have HB2 := Lib.hid (HB.out.trans ((below_new (w := w1) (.cells #[.slice none 0 0, .slice none 0 0] 67)).mono HB.out.size))
    unfold nilH at *
    clear HU
    go_wp2_with fail
    go_ret2
    exact ⟨rfl, HB2.out⟩
def hasOut (b : Bk) (n x : Int) : Bool × Int := if openE b [n] = 0 then (decide (x ∈ (vers b).getD n.toNat []), 0) else (false, openE b [n])
def OutB (r : Bool) (er : Int) (w : World) (e : Ending) (w' : World) : Prop := e = .returned (.tuple #[.bool r, .int .i64 er]) ∧ Below w.heap.size w w'
set_option maxRecDepth 100000 in
set_option maxHeartbeats 8000000 in
theorem Has_any (v vc : Value) (b : Bk) (n x : Int) (w : World) (hv : BkV w v b vc) (hs : Sm b) :
    Calls Try.prog 24 #[v, .int .i64 n, .int .i64 x] w (OutB (hasOut b n x).1 (hasOut b n x).2 w) := by
  have hv0 := hv
  obtain ⟨v1, rfl, h1, h2⟩ := hv
  obtain ⟨A1, c1, rfl, _⟩ := h1.form
  obtain ⟨A2, c2, rfl⟩ := h2.form
  have hb0 := below_new (w := w) (.cells #[.slice A1 b.first.length c1, .slice A2 b.chs.length c2] 25)
  have hb1 := below_new (w := w.alloc (.cells #[.slice A1 b.first.length c1, .slice A2 b.chs.length c2] 25)) (.cells #[.int .i64 n] 3)
  have HO := Lib.hid (open_any _ _ _ b [n] _ ((hv0.step hb0).step hb1) hs (one_sl _ n) (by simp))
  have HB0 := Lib.hid (hb0.trans (hb1.mono hb0.size))
  have HM := Lib.hid (show hasOut b n x = if openE b [n] = 0 then (decide (x ∈ (vers b).getD n.toNat []), 0) else (false, openE b [n]) from rfl)
  have HZ := Lib.hid (openE_val (b := b) (V := [n]))
  clear hv0 h1 h2 hb0 hb1 hs
  generalize hasOut b n x = o at *
  obtain ⟨oR, oE⟩ := o
  dsimp only
  generalize openE b [n] = er at *
  rw [World.size_alloc] at HO
  go_enter Try.func24, Try.ntmps24
  go_wp2_with fail
  (with_reducible refine HO.out.mono ?_)
  rintro e w1 ⟨u, rfl, hu0, hu1, hb⟩
  have HB := Lib.hid (HB0.out.trans (hb.mono HB0.out.size))
  clear hb
  by_cases he : er = 0
  · subst he
    obtain ⟨hval, hV⟩ := HZ.out rfl
    obtain ⟨n0, n1⟩ := hV n (by simp)
    obtain ⟨k, rfl⟩ : ∃ k : Nat, n = (k : Int) := ⟨n.toNat, by omega⟩
    rw [if_pos rfl] at HM
    have hM := HM.out
    injection hM with hM1 hM2
    subst hM2
    have hH := hu0 rfl
    obtain ⟨vs, rfl, hvs, hvc⟩ := hH
    obtain ⟨Av, cv, rfl⟩ := hvs.form
    have hkl : k < (vers b).length := by omega
    have hb2 := below_new (w := w1) (.cells #[.slice Av (vers b).length cv, .slice A2 b.chs.length c2] 67)
    obtain ⟨ad, uk, L, rfl, hadb, hL, hck, hinL⟩ := ((hvs.below hb2).mono hb2.size).at_ hkl
    obtain ⟨hLi, hLl⟩ := vers_ok L (List.mem_of_getElem? hL)
    have HC := Lib.hid (has_any uk L x _ hinL hLi (by omega))
    obtain ⟨Ak, ck, rfl, _⟩ := hinL.form
    have HB2 := Lib.hid (HB.out.trans (hb2.mono HB.out.size))
    have hR : oR = decide (x ∈ L) := by rw [hM1, Int.toNat_natCast, List.getD_eq_getElem?_getD, hL]; rfl
    rw [← hR] at HC
    clear hR
    clear hvs hvc hb2 hu0 hu1 hV hval n0 n1 HZ hinL hLi hL hadb
    clear hM1 HM
    generalize hvl : (vers b).length = vl at *
    clear hvl
    go_wp2_with fail
    (with_reducible refine HC.out.mono ?_)
    rintro e w2 ⟨rfl, rfl⟩
    go_wp2_with fail
    go_ret2
    exact ⟨rfl, HB2.out⟩
  · rw [if_neg he] at HM
    have hM := HM.out
    injection hM with hM1 hM2
    subst hM1; subst hM2
    clear HM
    obtain rfl := hu1 he
    have HB2 := Lib.hid (HB.out.trans ((below_new (w := w1) (.cells #[.slice none 0 0, .slice none 0 0] 67)).mono HB.out.size))
    unfold nilH at *
    clear hu0 hu1 HZ
    go_wp2_with fail
    go_ret2
    exact ⟨rfl, HB2.out⟩

end Go.Proofs.Ytplpogonkfnafaa
