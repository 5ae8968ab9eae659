/- Kind. -/
import Derived.Test.YtplpogonkfnafaaNmBg
namespace Go.Proofs.Ytplpogonkfnafaa
open Go.RowKit Go.Nm

/-- what kind of change a change is -/
def kd (x : Ch) : Int := if x.fr.length = 1 ∧ x.to.length = 1 then 1 else if x.fr.length = 1 then 2 else if x.to.length = 1 then 3 else 4
def kindOut (b : Bk) (i : Int) : Int × Int :=
  if openE b [] = 0 then (if 0 ≤ i ∧ i < b.chs.length then (kd (b.chs.getD i.toNat ⟨0, [], []⟩), 0) else (0, 1)) else (0, openE b [])
set_option maxRecDepth 100000 in
set_option maxHeartbeats 8000000 in
theorem Kind_any (v vc : Value) (b : Bk) (i : Int) (w : World) (hv : BkV w v b vc) (hs : Sm b) :
    Calls Try.prog 26 #[v, .int .i64 i] w (OutI (kindOut b i).1 (kindOut b i).2 w) := by
  have hv0 := hv
  obtain ⟨v1, rfl, h1, h2⟩ := hv
  have H2 := Lib.hid h2
  have HS := Lib.hid hs
  obtain ⟨A1, c1, rfl, _⟩ := h1.form
  obtain ⟨A2, c2, rfl⟩ := h2.form
  have hb0 := below_new (w := w) (.cells #[.slice A1 b.first.length c1, .slice A2 b.chs.length c2] 25)
  have HO := Lib.hid (open_any _ _ _ b [] _ (hv0.step hb0) hs (InSl.nil _ _) (by simp))
  have HN0 := Lib.hid (World.alloc_heap_new w (.cells #[.slice A1 b.first.length c1, .slice A2 b.chs.length c2] 25))
  have HB0 := Lib.hid hb0
  have HM := Lib.hid (show kindOut b i = if openE b [] = 0 then (if 0 ≤ i ∧ i < b.chs.length then (kd (b.chs.getD i.toNat ⟨0, [], []⟩), 0) else (0, 1)) else (0, openE b []) from rfl)
  clear hv0 h1 h2 hb0 hs
  generalize kindOut b i = o at *
  obtain ⟨oR, oE⟩ := o
  dsimp only
  generalize openE b [] = er at *
  obtain ⟨W1, hW1⟩ : ∃ W1, w.alloc (.cells #[.slice A1 b.first.length c1, .slice A2 b.chs.length c2] 25) = W1 := ⟨_, rfl⟩
  rw [hW1] at HO HN0 HB0
  obtain ⟨k0, k1⟩ := cells_two HN0.out
  go_enter Try.func26, Try.ntmps26
  go_wp2_with fail
  (with_reducible refine HO.out.mono ?_)
  rintro e w1 ⟨u, rfl, hu0, hu1, hb⟩
  have HB := Lib.hid (HB0.out.trans (hb.mono HB0.out.size))
  have j0 : w1.cell? ⟨w.heap.size, 0, none⟩ = some (.slice A1 b.first.length c1) := (hb.cell (p := ⟨w.heap.size, 0, none⟩) (Array.getElem?_eq_some_iff.1 HN0.out).1).trans k0
  have j1 : w1.cell? ⟨w.heap.size, 1, none⟩ = some (.slice A2 b.chs.length c2) := (hb.cell (p := ⟨w.heap.size, 1, none⟩) (Array.getElem?_eq_some_iff.1 HN0.out).1).trans k1
  have hlt1 : w.heap.size < w1.heap.size := Nat.lt_of_lt_of_le (Array.getElem?_eq_some_iff.1 HN0.out).1 hb.size
  have HU := Lib.hid (And.intro hu0 hu1)
  clear hb hu0 hu1 k0 k1
  by_cases he : er = 0
  · subst he
    have hM := HM.out
    rw [if_pos rfl] at hM
    clear HM
    obtain ⟨Av, cv, rfl, _⟩ := vers_sl (HU.out.1 rfl)
    have HB2 := Lib.hid (HB.out.trans ((below_new (w := w1) (.cells #[.slice Av (vers b).length cv, .slice A2 b.chs.length c2] 67)).mono HB.out.size))
    have i0 := ((below_new (w := w1) (.cells #[.slice Av (vers b).length cv, .slice A2 b.chs.length c2] 67)).cell (p := ⟨w.heap.size, 0, none⟩) hlt1).trans j0
    have i1 := ((below_new (w := w1) (.cells #[.slice Av (vers b).length cv, .slice A2 b.chs.length c2] 67)).cell (p := ⟨w.heap.size, 1, none⟩) hlt1).trans j1
    clear HU j0 j1
    obtain ⟨W8, hW8⟩ : ∃ W8, w1.alloc (.cells #[.slice Av (vers b).length cv, .slice A2 b.chs.length c2] 67) = W8 := ⟨_, rfl⟩
    rw [hW8] at i0 i1 HB2
    by_cases hi : 0 ≤ i ∧ i < b.chs.length
    · rw [if_pos hi] at hM
      injection hM with hM1 hM2
      subst hM2
      obtain ⟨n, rfl⟩ : ∃ n : Nat, i = (n : Int) := ⟨i.toNat, by omega⟩
      have hn : n < b.chs.length := by omega
      have hlen := HS.out.2.1
      obtain ⟨x, ad, vf, vt, hx, rfl, hab, d0, d1, d2, hf, ht⟩ := H2.out.at_ hn
      rw [Int.toNat_natCast, List.getD_eq_getElem?_getD, hx, Option.getD_some] at hM1
      obtain ⟨hxf, hxt⟩ := HS.out.2.2 x (List.mem_of_getElem? hx)
      obtain ⟨Af, cf, rfl, _⟩ := hf.form
      obtain ⟨At, ct, rfl, _⟩ := ht.form
      have e1 : W8.cell? ⟨(ad.add (n * 3)).block, (ad.add (n * 3)).off + 1, none⟩ = some (.slice Af x.fr.length cf) := (HB2.out.cell (p := ⟨(ad.add (n * 3)).block, _, none⟩) (by show (ad.add (n * 3)).block < w.heap.size; rw [add_block]; exact hab)).trans d1
      have e2 : W8.cell? ⟨(ad.add (n * 3)).block, (ad.add (n * 3)).off + 2, none⟩ = some (.slice At x.to.length ct) := (HB2.out.cell (p := ⟨(ad.add (n * 3)).block, _, none⟩) (by show (ad.add (n * 3)).block < w.heap.size; rw [add_block]; exact hab)).trans d2
      have HK := Lib.hid (show oR = if x.fr.length = 1 ∧ x.to.length = 1 then 1 else if x.fr.length = 1 then 2 else if x.to.length = 1 then 3 else 4 from hM1)
      clear hM1 hf ht d0 d1 d2 H2 HS hx hi
      generalize x.fr.length = lf at *
      generalize x.to.length = lt at *
      generalize b.chs.length = len at *
      generalize (vers b).length = vl at *
      by_cases g1 : lf = 1 <;> by_cases g2 : lt = 1
      · subst g1; subst g2
        obtain rfl : oR = 1 := by rw [HK.out]; simp
        clear HK
        go_wp2_with fail
        refine wp_region_still_lit (by kernel_rfl) (by kernel_rfl) ?_
        iterate 18 ((with_reducible refine wpStill_step ?_); intro K hK; go_simp; (try (refine ite_neg_of (by simp [undef] <;> assumption) ?_)); (with_reducible refine hK _ ?_); clear hK K)
        (with_reducible refine wpStill_nil ?_)
        go_wp2_with fail
        go_ret2
        exact ⟨rfl, HB2.out.drew⟩
      · subst g1
        obtain rfl : oR = 2 := by rw [HK.out]; simp [g2]
        clear HK
        have q2 : ((lt : Int) = 1) = False := by simp; omega
        go_wp2_with fail
        refine wp_region_still_lit (by kernel_rfl) (by kernel_rfl) ?_
        iterate 18 ((with_reducible refine wpStill_step ?_); intro K hK; go_simp; (try (refine ite_neg_of (by simp [undef] <;> assumption) ?_)); (with_reducible refine hK _ ?_); clear hK K)
        (with_reducible refine wpStill_nil ?_)
        go_wp2_with fail
        go_ret2
        exact ⟨rfl, HB2.out.drew⟩
      · subst g2
        obtain rfl : oR = 3 := by rw [HK.out]; simp [g1]
        clear HK
        have q1 : ((lf : Int) = 1) = False := by simp; omega
        go_wp2_with fail
        refine wp_region_still_lit (by kernel_rfl) (by kernel_rfl) ?_
        iterate 18 ((with_reducible refine wpStill_step ?_); intro K hK; go_simp; (try (refine ite_neg_of (by simp [undef] <;> assumption) ?_)); (with_reducible refine hK _ ?_); clear hK K)
        (with_reducible refine wpStill_nil ?_)
        go_wp2_with fail
        go_ret2
        exact ⟨rfl, HB2.out.drew⟩
      · obtain rfl : oR = 4 := by rw [HK.out]; simp [g1, g2]
        clear HK
        have q1 : ((lf : Int) = 1) = False := by simp; omega
        have q2 : ((lt : Int) = 1) = False := by simp; omega
        go_wp2_with fail
        refine wp_region_still_lit (by kernel_rfl) (by kernel_rfl) ?_
        iterate 18 ((with_reducible refine wpStill_step ?_); intro K hK; go_simp; (try (refine ite_neg_of (by simp [undef] <;> assumption) ?_)); (with_reducible refine hK _ ?_); clear hK K)
        (with_reducible refine wpStill_nil ?_)
        go_wp2_with fail
        go_ret2
        exact ⟨rfl, HB2.out.drew⟩
    · rw [if_neg hi] at hM
      injection hM with hM1 hM2
      subst hM1; subst hM2
      clear H2 HS
      generalize b.chs.length = len at *
      generalize (vers b).length = vl at *
      by_cases hneg : i < 0
      · go_wp2_with fail
        go_ret2
        exact ⟨rfl, HB2.out⟩
      · have hge : (len : Int) ≤ i := by omega
        go_wp2_with fail
        go_ret2
        exact ⟨rfl, HB2.out⟩
  · have hM := HM.out
    rw [if_neg he] at hM
    injection hM with hM1 hM2
    subst hM1; subst hM2
    clear HM H2 HS
    obtain rfl := HU.out.2 he
    have HB2 := Lib.hid (HB.out.trans ((below_new (w := w1) (.cells #[.slice none 0 0, .slice none 0 0] 67)).mono HB.out.size))
    unfold nilH at *
    clear HU
    go_wp2_with fail
    go_ret2
    exact ⟨rfl, HB2.out⟩

end Go.Proofs.Ytplpogonkfnafaa
