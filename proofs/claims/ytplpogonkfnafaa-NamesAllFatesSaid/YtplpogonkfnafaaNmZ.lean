/- Relate. -/
import Derived.Test.YtplpogonkfnafaaNmY
namespace Go.Proofs.Ytplpogonkfnafaa
open Go.RowKit Go.Nm

def relOut (b : Bk) (n x m y : Int) : Int × Int := if openAtE b [m] n x = 0 then (if y ∈ (vers b).getD m.toNat [] then (if rich b then (0, 2) else (relE b.chs n.toNat x m.toNat y, 0)) else (0, 22)) else (0, openAtE b [m] n x)
def OutI (r er : Int) (w : World) (e : Ending) (w' : World) : Prop := e = .returned (.tuple #[.int .i64 r, .int .i64 er]) ∧ Below w.heap.size w w'
theorem vers_sl {w : World} {v vc : Value} {b : Bk} (h : HsV w v b vc) : ∃ Av cv, v = .agg #[.slice Av (vers b).length cv, vc] ∧ VsSl w w.heap.size (.slice Av (vers b).length cv) (vers b) := by
  obtain ⟨vs, rfl, h1, _⟩ := h
  obtain ⟨Av, cv, rfl⟩ := h1.form
  exact ⟨Av, cv, rfl, h1⟩
set_option maxRecDepth 100000 in
set_option maxHeartbeats 8000000 in
theorem Relate_any (v vc : Value) (b : Bk) (n x m y : Int) (w : World) (hv : BkV w v b vc) (hs : Sm b) :
    Calls Try.prog 40 #[v, .int .i64 n, .int .i64 x, .int .i64 m, .int .i64 y] w (OutI (relOut b n x m y).1 (relOut b n x m y).2 w) := by
  have hv0 := hv
  obtain ⟨v1, rfl, h1, h2⟩ := hv
  obtain ⟨A1, c1, rfl, _⟩ := h1.form
  obtain ⟨A2, c2, rfl⟩ := h2.form
  have hb0 := below_new (w := w) (.cells #[.slice A1 b.first.length c1, .slice A2 b.chs.length c2] 25)
  have hb1 := below_new (w := w.alloc (.cells #[.slice A1 b.first.length c1, .slice A2 b.chs.length c2] 25)) (.cells #[.int .i64 m] 3)
  have HO := Lib.hid (openAt_any w _ _ _ (.slice (some ⟨(w.alloc (.cells #[.slice A1 b.first.length c1, .slice A2 b.chs.length c2] 25)).heap.size, 0, none⟩) 1 1) n x [m] b hv0 hs (hb0.trans (hb1.mono hb0.size)) (one_own w _ m hb0.size) (by simp))
  have HM := Lib.hid (show relOut b n x m y = if openAtE b [m] n x = 0 then (if y ∈ (vers b).getD m.toNat [] then (if rich b then (0, 2) else (relE b.chs n.toNat x m.toNat y, 0)) else (0, 22)) else (0, openAtE b [m] n x) from rfl)
  have HZ := Lib.hid (openAtE_zero (b := b) (V := [m]) (n := n) (x := x))
  have HS := Lib.hid hs
  clear hv0 h1 h2 hb0 hb1 hs
  generalize relOut b n x m y = o at *
  obtain ⟨oR, oE⟩ := o
  dsimp only
  generalize openAtE b [m] n x = er at *
  simp only [World.size_alloc] at HO
  go_enter Try.func40, Try.ntmps40
  go_wp2_with fail
  (with_reducible refine HO.out.mono ?_)
  rintro e w1 ⟨u, rfl, hu0, hu1, hb⟩
  have HB := Lib.hid hb
  clear hb
  by_cases he : er = 0
  · subst he
    obtain ⟨hval, hV, hx⟩ := HZ.out rfl
    obtain ⟨n0, n1⟩ := hV n (by simp)
    obtain ⟨m0, m1⟩ := hV m (by simp)
    obtain ⟨n', rfl⟩ : ∃ k : Nat, n = (k : Int) := ⟨n.toNat, by omega⟩
    obtain ⟨m', rfl⟩ : ∃ k : Nat, m = (k : Int) := ⟨m.toNat, by omega⟩
    rw [if_pos rfl] at HM
    have hH := hu0 rfl
    obtain ⟨Av, cv, rfl, hvs⟩ := vers_sl hH
    have hvl := hval.2
    have hml : m' < (vers b).length := by omega
    have hb2 := below_new (w := w1) (.cells #[.slice Av (vers b).length cv, .slice A2 b.chs.length c2] 67)
    have HH := Lib.hid (hH.step hb2)
    obtain ⟨ad, uk, L, rfl, hadb, hL, hck, hinL⟩ := ((hvs.below hb2).mono hb2.size).at_ hml
    obtain ⟨hLi, hLl⟩ := vers_ok L (List.mem_of_getElem? hL)
    obtain ⟨Lx, hLx⟩ : ∃ Lx, (vers b)[n']? = some Lx := ⟨_, List.getElem?_eq_getElem (by omega)⟩
    have hxL : x ∈ Lx := by rw [Int.toNat_natCast, List.getD_eq_getElem?_getD, hLx] at hx; exact hx
    have HB2 := Lib.hid (HB.out.trans (hb2.mono HB.out.size))
    have HHas := Lib.hid (has_any uk L y _ hinL hLi (by omega))
    have HRi := Lib.hid (rich_val _ _ b _ HH.out HS.out hval)
    have HRe := Lib.hid (fun X (hb : Below (w1.alloc (.cells #[.slice (some ad) (vers b).length cv, .slice A2 b.chs.length c2] 67)).heap.size (w1.alloc (.cells #[.slice (some ad) (vers b).length cv, .slice A2 b.chs.length c2] 67)) X) =>
      relation_any _ _ b n' m' x y Lx L X (HH.out.step hb) HS.out hval hLx hxL hL)
    have HM2 := Lib.hid (show (oR, oE) = if y ∈ L then (if rich b then (0, 2) else (relE b.chs n' x m' y, 0)) else (0, 22) from by
      have h := HM.out
      rw [Int.toNat_natCast, Int.toNat_natCast, List.getD_eq_getElem?_getD, hL] at h; exact h)
    obtain ⟨Ak, ck, rfl, _⟩ := hinL.form
    have HN2 := Lib.hid (World.alloc_heap_new w1 (.cells #[.slice (some ad) (vers b).length cv, .slice A2 b.chs.length c2] 67))
    clear hH hvs hb2 hu0 hu1 hV hx hval n0 n1 m0 m1 HZ HM hinL hLi hLl hLx hxL hL hadb hvl
    obtain ⟨W8, hW8⟩ : ∃ W8, w1.alloc (.cells #[.slice (some ad) (vers b).length cv, .slice A2 b.chs.length c2] 67) = W8 := ⟨_, rfl⟩
    rw [hW8] at HH HB2 HHas HRi HRe HN2 hck
    generalize hvq : (vers b).length = vl at *
    clear hvq
    obtain ⟨k0, k1⟩ := cells_two HN2.out
    have HHas2 := Lib.hid HHas.out
    by_cases hyL : y ∈ L
    · rw [decide_eq_true hyL] at HHas
      rw [if_pos hyL] at HM2
      clear hyL HHas2
      obtain ⟨rr, hrr⟩ : ∃ rr, rich b = rr := ⟨_, rfl⟩
      rw [hrr] at HM2 HRi
      clear hrr
      obtain ⟨z, hz⟩ : ∃ z, relE b.chs n' x m' y = z := ⟨_, rfl⟩
      rw [hz] at HM2
      have HZz := Lib.hid hz
      clear hz
      go_wp2_with fail
      refine HHas.out.mono ?_
      rintro e w3 ⟨rfl, rfl⟩
      go_wp2_with fail
      (with_reducible refine HRi.out.mono ?_)
      rintro e w3 ⟨rfl, hb⟩
      have HB3 := Lib.hid (And.intro hb (HB2.out.trans (hb.mono HB2.out.size)))
      have j0 : w3.cell? ⟨w1.heap.size, 0, none⟩ = some (.slice (some ad) vl cv) := (hb.cell (p := ⟨w1.heap.size, 0, none⟩) (Array.getElem?_eq_some_iff.1 HN2.out).1).trans k0
      have j1 : w3.cell? ⟨w1.heap.size, 1, none⟩ = some (.slice A2 b.chs.length c2) := (hb.cell (p := ⟨w1.heap.size, 1, none⟩) (Array.getElem?_eq_some_iff.1 HN2.out).1).trans k1
      clear hb k0 k1 hck
      cases rr with
      | true =>
        have hM := HM2.out
        rw [if_pos rfl] at hM
        injection hM with hM1 hM2
        subst hM1; subst hM2
        clear HM2
        go_wp2_with fail
        go_ret2
        exact ⟨rfl, HB3.out.2⟩
      | false =>
        have hM := HM2.out
        rw [if_neg (by decide)] at hM
        injection hM with hM1 hM2
        subst hM1; subst hM2
        clear HM2
        have HC := Lib.hid (HRe.out w3 HB3.out.1)
        go_wp2_with fail
        (with_reducible refine HC.out.mono ?_)
        rintro e w4 ⟨rfl, hb⟩
        have HB4 := Lib.hid (HB3.out.2.trans (hb.mono HB3.out.2.size))
        clear hb
        rw [HZz.out]
        go_wp2_with fail
        go_ret2
        exact ⟨rfl, HB4.out⟩
    · rw [decide_eq_false hyL] at HHas
      rw [if_neg hyL] at HM2
      clear hyL HHas2
      have hM := HM2.out
      injection hM with hM1 hM2
      subst hM1; subst hM2
      clear HM2
      go_wp2_with fail
      refine HHas.out.mono ?_
      rintro e w3 ⟨rfl, rfl⟩
      go_wp2_with fail
      go_ret2
      exact ⟨rfl, HB2.out⟩
  · rw [if_neg he] at HM
    have hM := HM.out
    injection hM with hM1 hM2
    subst hM1; subst hM2
    clear HM
    obtain rfl := hu1 he
    have HB2 := Lib.hid (HB.out.trans ((below_new (w := w1) (.cells #[.slice none 0 0, .slice none 0 0] 67)).mono HB.out.size))
    unfold nilH at *
    clear hu0 hu1 HZ
    go_wp2_with fail
    go_ret2
    exact ⟨rfl, HB2.out⟩
end Go.Proofs.Ytplpogonkfnafaa
