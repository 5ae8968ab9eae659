/- Exact. -/
import Derived.Test.YtplpogonkfnafaaNmZ
namespace Go.Proofs.Ytplpogonkfnafaa
open Go.RowKit Go.Nm

/-- the first of some names that is the same -/
def exF (chs : List Ch) (n : Nat) (x : Int) (m : Nat) : List Int → Int × Int
  | [] => (0, 3)
  | y :: l => if relE chs n x m y = 1 then (y, 0) else exF chs n x m l
def exS (chs : List Ch) (n : Nat) (x : Int) (m : Nat) : Int × Int := exF chs n x m (mns chs n [x] m)
def exOut (b : Bk) (n x m : Int) : Int × Int := if openAtE b [m] n x = 0 then (if rich b then (0, 2) else exS b.chs n.toNat x m.toNat) else (0, openAtE b [m] n x)
theorem exF_next {chs : List Ch} {n m k : Nat} {x y : Int} {l : List Int} (h : l[k]? = some y) : exF chs n x m (l.drop k) = if relE chs n x m y = 1 then (y, 0) else exF chs n x m (l.drop (k + 1)) := by
  obtain ⟨hk, rfl⟩ := List.getElem?_eq_some_iff.1 h
  rw [List.drop_eq_getElem_cons hk]; rfl
set_option maxRecDepth 100000 in
set_option maxHeartbeats 8000000 in
theorem Exact_any (v vc : Value) (b : Bk) (n x m : Int) (w : World) (hv : BkV w v b vc) (hs : Sm b) :
    Calls Try.prog 42 #[v, .int .i64 n, .int .i64 x, .int .i64 m] w (OutI (exOut b n x m).1 (exOut b n x m).2 w) := by
  have hv0 := hv
  obtain ⟨v1, rfl, h1, h2⟩ := hv
  obtain ⟨A1, c1, rfl, _⟩ := h1.form
  obtain ⟨A2, c2, rfl⟩ := h2.form
  have hb0 := below_new (w := w) (.cells #[.slice A1 b.first.length c1, .slice A2 b.chs.length c2] 25)
  have hb1 := below_new (w := w.alloc (.cells #[.slice A1 b.first.length c1, .slice A2 b.chs.length c2] 25)) (.cells #[.int .i64 m] 3)
  have HO := Lib.hid (openAt_any w _ _ _ (.slice (some ⟨(w.alloc (.cells #[.slice A1 b.first.length c1, .slice A2 b.chs.length c2] 25)).heap.size, 0, none⟩) 1 1) n x [m] b hv0 hs (hb0.trans (hb1.mono hb0.size)) (one_own w _ m hb0.size) (by simp))
  have HM := Lib.hid (show exOut b n x m = if openAtE b [m] n x = 0 then (if rich b then (0, 2) else exS b.chs n.toNat x m.toNat) else (0, openAtE b [m] n x) from rfl)
  have HZ := Lib.hid (openAtE_zero (b := b) (V := [m]) (n := n) (x := x))
  have HS := Lib.hid hs
  clear hv0 h1 h2 hb0 hb1 hs
  generalize exOut b n x m = o at *
  obtain ⟨oR, oE⟩ := o
  dsimp only
  generalize openAtE b [m] n x = er at *
  simp only [World.size_alloc] at HO
  go_enter Try.func42, Try.ntmps42
  go_wp2_with fail
  (with_reducible refine HO.out.mono ?_)
  rintro e w1 ⟨u, rfl, hu0, hu1, hb⟩
  have HB := Lib.hid hb
  clear hb
  by_cases he : er = 0
  · subst he
    obtain ⟨hval, hV, hx⟩ := HZ.out rfl
    obtain ⟨n0, n1⟩ := hV n (by simp)
    obtain ⟨m0, m1⟩ := hV m (by simp)
    obtain ⟨n', rfl⟩ : ∃ k : Nat, n = (k : Int) := ⟨n.toNat, by omega⟩
    obtain ⟨m', rfl⟩ : ∃ k : Nat, m = (k : Int) := ⟨m.toNat, by omega⟩
    rw [if_pos rfl] at HM
    have hH := hu0 rfl
    obtain ⟨Av, cv, rfl, hvs⟩ := vers_sl hH
    have hvl := hval.2
    obtain ⟨L, hL⟩ : ∃ L, (vers b)[m']? = some L := ⟨_, List.getElem?_eq_getElem (by omega)⟩
    have hb2 := below_new (w := w1) (.cells #[.slice Av (vers b).length cv, .slice A2 b.chs.length c2] 67)
    have HH := Lib.hid (hH.step hb2)
    obtain ⟨Lx, hLx⟩ : ∃ Lx, (vers b)[n']? = some Lx := ⟨_, List.getElem?_eq_getElem (by omega)⟩
    have hxL : x ∈ Lx := by rw [Int.toNat_natCast, List.getD_eq_getElem?_getD, hLx] at hx; exact hx
    have hnl : n' ≤ b.chs.length := by omega
    have hml : m' ≤ b.chs.length := by omega
    have hmnl : (mns b.chs n' [x] m').length ≤ 400 := by
      obtain ⟨B, hB, h3, h4⟩ := mns_ok hval hLx (l := [x]) (by simp [Inc]) (by simp; exact hxL) hnl hml
      exact Nat.le_trans (inc_sub_len h3 h4) (vers_ok B (List.mem_of_getElem? hB)).2
    have HB2 := Lib.hid (HB.out.trans (hb2.mono HB.out.size))
    have HRi := Lib.hid (rich_val _ _ b _ HH.out HS.out hval)
    have HMe := Lib.hid (fun X (hb : Below (w1.alloc (.cells #[.slice Av (vers b).length cv, .slice A2 b.chs.length c2] 67)).heap.size (w1.alloc (.cells #[.slice Av (vers b).length cv, .slice A2 b.chs.length c2] 67)) X) =>
      meaning_any _ _ b x n' m' X (HH.out.step hb) HS.out hval.1 hnl hml)
    have HRe := Lib.hid (fun y X (hb : Below (w1.alloc (.cells #[.slice Av (vers b).length cv, .slice A2 b.chs.length c2] 67)).heap.size (w1.alloc (.cells #[.slice Av (vers b).length cv, .slice A2 b.chs.length c2] 67)) X) =>
      relation_any _ _ b n' m' x y Lx L X (HH.out.step hb) HS.out hval hLx hxL hL)
    have HM2 := Lib.hid (show (oR, oE) = if rich b then (0, 2) else exF b.chs n' x m' (mns b.chs n' [x] m') from by
      have h := HM.out
      rw [Int.toNat_natCast, Int.toNat_natCast] at h; exact h)
    have HN2 := Lib.hid (World.alloc_heap_new w1 (.cells #[.slice Av (vers b).length cv, .slice A2 b.chs.length c2] 67))
    clear hH hvs hb2 hu0 hu1 hV hx hval n0 n1 m0 m1 HZ HM hLx hxL hL hvl hnl hml
    obtain ⟨W8, hW8⟩ : ∃ W8, w1.alloc (.cells #[.slice Av (vers b).length cv, .slice A2 b.chs.length c2] 67) = W8 := ⟨_, rfl⟩
    rw [hW8] at HH HB2 HMe HRi HRe HN2
    generalize hvq : (vers b).length = vl at *
    clear hvq
    obtain ⟨k0, k1⟩ := cells_two HN2.out
    obtain ⟨rr, hrr⟩ : ∃ rr, rich b = rr := ⟨_, rfl⟩
    rw [hrr] at HM2 HRi
    clear hrr
    generalize mns b.chs n' [x] m' = F at *
    go_wp2_with fail
    (with_reducible refine HRi.out.mono ?_)
    rintro e w3 ⟨rfl, hb⟩
    have HB3 := Lib.hid (And.intro hb (HB2.out.trans (hb.mono HB2.out.size)))
    have j0 : w3.cell? ⟨w1.heap.size, 0, none⟩ = some (.slice Av vl cv) := (hb.cell (p := ⟨w1.heap.size, 0, none⟩) (Array.getElem?_eq_some_iff.1 HN2.out).1).trans k0
    have j1 : w3.cell? ⟨w1.heap.size, 1, none⟩ = some (.slice A2 b.chs.length c2) := (hb.cell (p := ⟨w1.heap.size, 1, none⟩) (Array.getElem?_eq_some_iff.1 HN2.out).1).trans k1
    clear hb k0 k1
    cases rr with
    | true =>
      have hM := HM2.out
      rw [if_pos rfl] at hM
      injection hM with hM1 hM2
      subst hM1; subst hM2
      clear HM2
      go_wp2_with fail
      go_ret2
      exact ⟨rfl, HB3.out.2⟩
    | false =>
      have HM3 := Lib.hid (show (oR, oE) = exF b.chs n' x m' F from by have h := HM2.out; rw [if_neg (by decide)] at h; exact h)
      clear HM2
      have HC := Lib.hid (HMe.out w3 HB3.out.1)
      go_wp2_with fail
      (with_reducible refine HC.out.mono ?_)
      rintro e w4 ⟨⟨r, rfl, hr⟩, hb⟩
      have HR4 := Lib.hid hr
      have HB4 := Lib.hid (And.intro (HB3.out.1.trans (hb.mono HB3.out.1.size)) (HB3.out.2.trans (hb.mono HB3.out.2.size)))
      obtain ⟨A3, c3, rfl, _⟩ := hr.form
      have hF : F.length ≤ 400 := hmnl
      clear hb hr HC hmnl j0 j1 HRi HMe
      generalize hfl : F.length = fl at *
      have HFl := Lib.hid hfl
      clear hfl
      go_wp2_with fail
      have k0' := HN2.out
      clear k0'
      have hg1 : w1.heap.size < W8.heap.size := (Array.getElem?_eq_some_iff.1 HN2.out).1
      obtain ⟨k0, k1⟩ := cells_two HN2.out
      have HK := Lib.hid (And.intro k0 k1)
      clear k0 k1
      have HM4 := Lib.hid (show exF b.chs n' x m' (F.drop 0) = (oR, oE) from HM3.out.symm)
      clear HM3
      go_loopw [34] (fun iv wq => ∃ k : Nat, iv = .int .i64 (k : Int) ∧ k ≤ fl ∧ exF b.chs n' x m' (F.drop k) = (oR, oE) ∧ Below W8.heap.size W8 wq ∧ Below w.heap.size w wq ∧ InA wq wq.heap.size A3 F) (fun iv _ => fl - (intOf iv).toNat)
      case atStart => exact ⟨0, rfl, by omega, HM4.out, HB4.out.1, HB4.out.2, by obtain ⟨_, _, e, _, _, h⟩ := HR4.out; cases e; exact h⟩
      case round =>
        obtain ⟨k, rfl, hkl, hE, hb8, hbw, hA⟩ := hrel
        have HE := Lib.hid hE
        have HBB := Lib.hid (And.intro hb8 hbw)
        have HA := Lib.hid hA
        have j0 : wr.cell? ⟨w1.heap.size, 0, none⟩ = some (.slice Av vl cv) := (hb8.cell (p := ⟨w1.heap.size, 0, none⟩) hg1).trans HK.out.1
        have j1 : wr.cell? ⟨w1.heap.size, 1, none⟩ = some (.slice A2 b.chs.length c2) := (hb8.cell (p := ⟨w1.heap.size, 1, none⟩) hg1).trans HK.out.2
        clear hE hb8 hbw hA HB4 HM4 HR4 HB3
        by_cases hlt : k < fl
        · obtain ⟨y, ad, hy, rfl, hbd, hcy⟩ := HA.out.at_ HFl.out hlt
          have HX := Lib.hid (exF_next (chs := b.chs) (n := n') (m := m') (x := x) hy)
          have HC := Lib.hid (HRe.out y wr HBB.out.1)
          clear hy hbd
          generalize relE b.chs n' x m' y = z at *
          by_cases hz : z = 1
          · have hM : (oR, oE) = (y, 0) := by rw [← HE.out, HX.out, if_pos hz]
            injection hM with hM1 hM2
            subst hM1; subst hM2; subst hz
            go_wp2_with fail
            (with_reducible refine HC.out.mono ?_)
            rintro e w5 ⟨rfl, hb⟩
            have HB5 := Lib.hid (HBB.out.2.trans (hb.mono HBB.out.2.size))
            clear hb
            go_wp2_with fail
            go_ret2
            exact ⟨rfl, HB5.out⟩
          · have HE2 := Lib.hid (show exF b.chs n' x m' (F.drop (k + 1)) = (oR, oE) from by rw [← HE.out, HX.out, if_neg hz])
            have hzb : (z == 1) = false := by simpa using hz
            clear hz
            go_wp2_with fail
            (with_reducible refine HC.out.mono ?_)
            rintro e w5 ⟨rfl, hb⟩
            have HB5 := Lib.hid (And.intro (HBB.out.1.trans (hb.mono HBB.out.1.size)) (And.intro (HBB.out.2.trans (hb.mono HBB.out.2.size)) ((HA.out.below hb).mono hb.size)))
            clear hb
            go_wp2_with fail
            go_roundw
            case rel => exact ⟨k + 1, by go_num, by omega, HE2.out, HB5.out.1, HB5.out.2.1, HB5.out.2.2⟩
            case measure => simp [intOf]; omega
        · obtain rfl : k = fl := by omega
          have hM : (oR, oE) = (0, 3) := by
            have h := HE.out
            rw [List.drop_eq_nil_of_le (by have := HFl.out; omega)] at h
            exact h.symm
          injection hM with hM1 hM2
          subst hM1; subst hM2
          go_wp2_with fail
          go_ret2
          exact ⟨rfl, HBB.out.2⟩
  · rw [if_neg he] at HM
    have hM := HM.out
    injection hM with hM1 hM2
    subst hM1; subst hM2
    clear HM
    obtain rfl := hu1 he
    have HB2 := Lib.hid (HB.out.trans ((below_new (w := w1) (.cells #[.slice none 0 0, .slice none 0 0] 67)).mono HB.out.size))
    unfold nilH at *
    clear hu0 hu1 HZ
    go_wp2_with fail
    go_ret2
    exact ⟨rfl, HB2.out⟩
end Go.Proofs.Ytplpogonkfnafaa
