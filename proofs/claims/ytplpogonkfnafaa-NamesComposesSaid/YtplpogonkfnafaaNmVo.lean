/- VersionOf. -/
import Derived.Test.YtplpogonkfnafaaNmKi
namespace Go.Proofs.Ytplpogonkfnafaa
open Go.RowKit Go.Nm

/-- how many changes are not behind a year -/
def upY (y : Int) : List Ch → Nat
  | [] => 0
  | x :: l => if x.yr ≤ y then upY y l + 1 else 0
theorem upY_le (y : Int) : ∀ l : List Ch, upY y l ≤ l.length
  | [] => Nat.le_refl _
  | x :: l => by
    unfold upY
    split
    · have := upY_le y l; simp only [List.length_cons]; omega
    · simp
theorem upY_get (y : Int) : ∀ (l : List Ch) (i : Nat) (x : Ch), i < upY y l → l[i]? = some x → x.yr ≤ y
  | [], i, x, h, _ => by simp [upY] at h
  | z :: l, i, x, h, hx => by
    unfold upY at h
    split at h
    · rename_i hz
      cases i with
      | zero => simp at hx; rw [← hx]; exact hz
      | succ i => exact upY_get y l i x (by omega) (by simpa using hx)
    · omega
theorem upY_next (y : Int) : ∀ (l : List Ch) (i : Nat) (x : Ch), i ≤ upY y l → l[i]? = some x → x.yr ≤ y → i + 1 ≤ upY y l
  | [], i, x, _, hx, _ => by simp at hx
  | z :: l, i, x, h, hx, hy => by
    unfold upY at h ⊢
    cases i with
    | zero => simp at hx; rw [if_pos (by rw [hx]; exact hy)]; omega
    | succ i =>
      split at h
      · rename_i hz
        rw [if_pos hz]
        have := upY_next y l i x (by omega) (by simpa using hx) hy
        omega
      · omega
def verOfOut (b : Bk) (y : Int) : Int × Int :=
  if openE b [] = 0 then (if 0 ≤ y ∧ y ≤ 273 then ((upY y b.chs : Int), 0) else (0, 1)) else (0, openE b [])
set_option maxRecDepth 100000 in
set_option maxHeartbeats 8000000 in
theorem VersionOf_any (v vc : Value) (b : Bk) (y : Int) (w : World) (hv : BkV w v b vc) (hs : Sm b) :
    Calls Try.prog 20 #[v, .int .i64 y] w (OutI (verOfOut b y).1 (verOfOut b y).2 w) := by
  have hv0 := hv
  obtain ⟨v1, rfl, h1, h2⟩ := hv
  have H2 := Lib.hid h2
  have HS := Lib.hid hs
  obtain ⟨A1, c1, rfl, _⟩ := h1.form
  obtain ⟨A2, c2, rfl⟩ := h2.form
  have hb0 := below_new (w := w) (.cells #[.slice A1 b.first.length c1, .slice A2 b.chs.length c2] 25)
  have HO := Lib.hid (open_any _ _ _ b [] _ (hv0.step hb0) hs (InSl.nil _ _) (by simp))
  have HN0 := Lib.hid (World.alloc_heap_new w (.cells #[.slice A1 b.first.length c1, .slice A2 b.chs.length c2] 25))
  have HB0 := Lib.hid hb0
  have HM := Lib.hid (show verOfOut b y = if openE b [] = 0 then (if 0 ≤ y ∧ y ≤ 273 then ((upY y b.chs : Int), 0) else (0, 1)) else (0, openE b []) from rfl)
  clear hv0 h1 h2 hb0 hs
  generalize verOfOut b y = o at *
  obtain ⟨oR, oE⟩ := o
  dsimp only
  generalize openE b [] = er at *
  obtain ⟨W1, hW1⟩ : ∃ W1, w.alloc (.cells #[.slice A1 b.first.length c1, .slice A2 b.chs.length c2] 25) = W1 := ⟨_, rfl⟩
  rw [hW1] at HO HN0 HB0
  obtain ⟨k0, k1⟩ := cells_two HN0.out
  go_enter Try.func20, Try.ntmps20
  go_wp2_with fail
  (with_reducible refine HO.out.mono ?_)
  rintro e w1 ⟨u, rfl, hu0, hu1, hb⟩
  have HB := Lib.hid (HB0.out.trans (hb.mono HB0.out.size))
  have j0 : w1.cell? ⟨w.heap.size, 0, none⟩ = some (.slice A1 b.first.length c1) := (hb.cell (p := ⟨w.heap.size, 0, none⟩) (Array.getElem?_eq_some_iff.1 HN0.out).1).trans k0
  have j1 : w1.cell? ⟨w.heap.size, 1, none⟩ = some (.slice A2 b.chs.length c2) := (hb.cell (p := ⟨w.heap.size, 1, none⟩) (Array.getElem?_eq_some_iff.1 HN0.out).1).trans k1
  have hlt1 : w.heap.size < w1.heap.size := Nat.lt_of_lt_of_le (Array.getElem?_eq_some_iff.1 HN0.out).1 hb.size
  have HU := Lib.hid (And.intro hu0 hu1)
  clear hb hu0 hu1 k0 k1
  by_cases he : er = 0
  · subst he
    have hM := HM.out
    rw [if_pos rfl] at hM
    clear HM
    obtain ⟨Av, cv, rfl, _⟩ := vers_sl (HU.out.1 rfl)
    have HB2 := Lib.hid (HB.out.trans ((below_new (w := w1) (.cells #[.slice Av (vers b).length cv, .slice A2 b.chs.length c2] 67)).mono HB.out.size))
    have i0 := ((below_new (w := w1) (.cells #[.slice Av (vers b).length cv, .slice A2 b.chs.length c2] 67)).cell (p := ⟨w.heap.size, 0, none⟩) hlt1).trans j0
    have i1 := ((below_new (w := w1) (.cells #[.slice Av (vers b).length cv, .slice A2 b.chs.length c2] 67)).cell (p := ⟨w.heap.size, 1, none⟩) hlt1).trans j1
    obtain ⟨W8, hW8⟩ : ∃ W8, w1.alloc (.cells #[.slice Av (vers b).length cv, .slice A2 b.chs.length c2] 67) = W8 := ⟨_, rfl⟩
    have hs8 : w.heap.size < W8.heap.size := by rw [← hW8]; simp; omega
    rw [hW8] at i0 i1 HB2
    clear HU j0 j1
    by_cases hi : 0 ≤ y ∧ y ≤ 273
    · rw [if_pos hi] at hM
      injection hM with hM1 hM2
      subst hM2; subst hM1
      obtain ⟨hy0, hy1⟩ := hi
      have HUle := Lib.hid (upY_le y b.chs)
      have HUg := Lib.hid (upY_get y b.chs)
      have HUn := Lib.hid (upY_next y b.chs)
      have hlen := HS.out.2.1
      generalize upY y b.chs = U at *
      have HL := Lib.hid (show ∀ k : Nat, k < b.chs.length → ∃ (x : Ch) (ad : Addr), b.chs[k]? = some x ∧ A2 = some ad ∧ ad.block < w.heap.size ∧ w.cell? (ad.add (k * 3)) = some (.int .i64 x.yr) from fun k hk => by
        obtain ⟨x, ad, vf, vt, hx, ha, hab, d0, _⟩ := H2.out.at_ hk
        exact ⟨x, ad, hx, ha, hab, d0⟩)
      have HI := Lib.hid (And.intro i0 (And.intro i1 hs8))
      have HW8 := Lib.hid hW8
      clear H2 HS i0 i1 hs8 hW8 hlt1
      generalize b.chs.length = len at *
      generalize (vers b).length = vl at *
      have h1 := HI.out.2.1
      go_wp2_with fail
      go_loopw [8] (fun k wr => ∃ i : Nat, k = .int .i64 (i : Int) ∧ i ≤ U ∧ Below W8.heap.size W8 wr) (fun k _ => len - (intOf k).toNat)
      case atStart => exact ⟨0, rfl, by omega, by rw [HW8.out]; exact Below.refl _ _⟩
      case round =>
        obtain ⟨i, rfl, hin, hbl⟩ := hrel
        have HBl := Lib.hid hbl
        have HBw := Lib.hid (HB2.out.trans (hbl.mono HB2.out.size))
        have q1 := (hbl.cell (p := ⟨w.heap.size, 1, none⟩) HI.out.2.2).trans HI.out.2.1
        clear hbl h1
        have hUl := HUle.out
        by_cases hlt : i < len
        · obtain ⟨x, ad, hx, rfl, hab, d0⟩ := HL.out i hlt
          have hlt' : (i : Int) < (len : Int) := by omega
          have q2 : _ = some (Value.int .i64 x.yr) := (HBw.out.cell (p := ad.add (i * 3)) (by rw [add_block]; exact hab)).trans d0
          clear d0
          by_cases hyx : x.yr ≤ y
          · have hn := HUn.out i x hin hx hyx
            go_wp2_with fail
            all_goals go_roundw
            all_goals first
              | exact ⟨i + 1, by go_num, hn, HBl.out⟩
              | (simp [intOf]; omega)
          · have hUi : U = i := by
              rcases Nat.lt_or_ge i U with h | h
              · exact absurd (HUg.out i x h hx) hyx
              · omega
            subst hUi
            go_wp2_with fail
            go_ret2
            exact ⟨rfl, HBw.out⟩
        · have hge : ¬ (i : Int) < (len : Int) := by omega
          obtain rfl : U = i := by omega
          go_wp2_with fail
          go_ret2
          exact ⟨rfl, HBw.out⟩
    · rw [if_neg hi] at hM
      injection hM with hM1 hM2
      subst hM1; subst hM2
      clear H2 HS
      generalize b.chs.length = len at *
      generalize (vers b).length = vl at *
      by_cases hneg : y < 0
      · go_wp2_with fail
        go_ret2
        exact ⟨rfl, HB2.out⟩
      · have hge : (273 : Int) < y := by omega
        go_wp2_with fail
        go_ret2
        exact ⟨rfl, HB2.out⟩
  · have hM := HM.out
    rw [if_neg he] at hM
    injection hM with hM1 hM2
    subst hM1; subst hM2
    clear HM H2 HS
    obtain rfl := HU.out.2 he
    have HB2 := Lib.hid (HB.out.trans ((below_new (w := w1) (.cells #[.slice none 0 0, .slice none 0 0] 67)).mono HB.out.size))
    unfold nilH at *
    clear HU
    go_wp2_with fail
    go_ret2
    exact ⟨rfl, HB2.out⟩

end Go.Proofs.Ytplpogonkfnafaa
