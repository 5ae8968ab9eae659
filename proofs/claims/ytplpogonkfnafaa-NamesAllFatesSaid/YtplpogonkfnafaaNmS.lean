/- Means. -/
import Derived.Test.YtplpogonkfnafaaNmR
namespace Go.Proofs.Ytplpogonkfnafaa
open Go.RowKit Go.Nm

set_option maxRecDepth 100000 in
set_option maxHeartbeats 4000000 in
theorem Means_any (v vc : Value) (b : Bk) (n x m : Int) (w : World) (hv : BkV w v b vc) (hs : Sm b) :
    Calls Try.prog 36 #[v, .int .i64 n, .int .i64 x, .int .i64 m] w (OutN (meansOut b n x m).1 (meansOut b n x m).2 w) := by
  have hv0 := hv
  obtain ⟨v1, rfl, h1, h2⟩ := hv
  obtain ⟨A1, c1, rfl, _⟩ := h1.form
  obtain ⟨A2, c2, rfl⟩ := h2.form
  have hb0 := below_new (w := w) (.cells #[.slice A1 b.first.length c1, .slice A2 b.chs.length c2] 25)
  have hb1 := below_new (w := w.alloc (.cells #[.slice A1 b.first.length c1, .slice A2 b.chs.length c2] 25)) (.cells #[.int .i64 m] 3)
  have HO := Lib.hid (openAt_any w _ _ _ (.slice (some ⟨(w.alloc (.cells #[.slice A1 b.first.length c1, .slice A2 b.chs.length c2] 25)).heap.size, 0, none⟩) 1 1) n x [m] b hv0 hs (hb0.trans (hb1.mono hb0.size)) (one_own w _ m hb0.size) (by simp))
  have HM := Lib.hid (show meansOut b n x m = if openAtE b [m] n x = 0 then (mns b.chs n.toNat [x] m.toNat, 0) else ([], openAtE b [m] n x) from rfl)
  have HZ := Lib.hid (openAtE_zero (b := b) (V := [m]) (n := n) (x := x))
  have HS := Lib.hid hs
  clear hv0 h1 h2 hb0 hb1 hs
  generalize meansOut b n x m = o at *
  generalize openAtE b [m] n x = er at *
  simp only [World.size_alloc] at HO
  go_enter Try.func36, Try.ntmps36
  go_wp2_with fail
  (with_reducible refine HO.out.mono ?_)
  rintro e w1 ⟨u, rfl, hu0, hu1, hb⟩
  have HB := Lib.hid hb
  clear hb
  by_cases he : er = 0
  · subst he
    obtain ⟨hval, hV, hx⟩ := HZ.out rfl
    obtain ⟨n0, n1⟩ := hV n (by simp)
    obtain ⟨m0, m1⟩ := hV m (by simp)
    obtain ⟨n', rfl⟩ : ∃ k : Nat, n = (k : Int) := ⟨n.toNat, by omega⟩
    obtain ⟨m', rfl⟩ : ∃ k : Nat, m = (k : Int) := ⟨m.toNat, by omega⟩
    rw [if_pos rfl] at HM
    obtain rfl := HM.out
    have hH := hu0 rfl
    obtain ⟨Av, cv, rfl⟩ := hH.form
    have HH := Lib.hid hH
    have hb2 := below_new (w := w1) (.cells #[.slice Av (vers b).length cv, .slice A2 b.chs.length c2] 67)
    have HC := Lib.hid (meaning_any _ _ b x n' m' _ (hH.step hb2) HS.out hval.1 (by omega) (by omega))
    have HB2 := Lib.hid (HB.out.trans (hb2.mono HB.out.size))
    clear hH hb2 hu0 hu1 hV hx hval n0 n1 m0 m1 HZ
    simp only [Int.toNat_natCast] at *
    generalize mns b.chs n' [x] m' = R at *
    go_wp2_with fail
    (with_reducible refine HC.out.mono ?_)
    rintro e w2 ⟨⟨r, rfl, hr⟩, hb⟩
    have HR := Lib.hid (And.intro hr (HB2.out.trans (hb.mono HB2.out.size)))
    obtain ⟨A3, c3, rfl, _⟩ := hr.form
    clear hr hb
    go_wp2_with fail
    go_ret2
    exact OutN.mk HR.out.1 HR.out.2
  · rw [if_neg he] at HM
    obtain rfl := HM.out
    obtain rfl := hu1 he
    have HB2 := Lib.hid (HB.out.trans ((below_new (w := w1) (.cells #[.slice none 0 0, .slice none 0 0] 67)).mono HB.out.size))
    unfold nilH at *
    clear hu0 hu1 HZ
    go_wp2_with fail
    go_ret2
    exact OutN.nil HB2.out
end Go.Proofs.Ytplpogonkfnafaa
