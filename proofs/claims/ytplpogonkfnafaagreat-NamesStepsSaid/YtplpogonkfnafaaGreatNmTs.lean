
/- Steps. -/
import Derived.Test.YtplpogonkfnafaaGreatNmMk
import Derived.Test.YtplpogonkfnafaaGreatNmSl
import Derived.Test.YtplpogonkfnafaaGreatNmBg
import Derived.Test.YtplpogonkfnafaaGreatNmPt
namespace Go.Proofs.YtplpogonkfnafaaGreat
open Go.RowKit Go.Nm

/-- what each name of a version means -/
def stF (b : Bk) (n m : Nat) : List (List Int) := ((vers b).getD n []).map fun x => mns b.chs n [x] m
def stepsOut (b : Bk) (n m : Int) : List (List Int) × Int := if openE b [n, m] = 0 then (stF b n.toNat m.toNat, 0) else ([], openE b [n, m])
theorem two_sl (w : World) (x y : Int) : InSl (w.alloc (.cells #[.int .i64 x, .int .i64 y] 3)) (w.alloc (.cells #[.int .i64 x, .int .i64 y] 3)).heap.size (.slice (some ⟨w.heap.size, 0, none⟩) 2 2) [x, y] :=
  ⟨some ⟨w.heap.size, 0, none⟩, 2, rfl, Nat.le_refl _, by unfold maxLen; omega, fun i z hz => by
    have h2 := World.alloc_heap_new w (.cells #[.int .i64 x, .int .i64 y] 3)
    rcases (show i = 0 ∨ i = 1 from by have := (List.getElem?_eq_some_iff.1 hz).1; simp at this; omega) with rfl | rfl
    · simp at hz; subst hz; exact ⟨_, rfl, by simp, by have h3 := (cells_two h2).1; rwa [show (⟨w.heap.size, 0, none⟩ : Addr).add 0 = ⟨w.heap.size, 0, none⟩ from rfl]⟩
    · simp at hz; subst hz; exact ⟨_, rfl, by simp, by have h3 := (cells_two h2).2; rwa [show (⟨w.heap.size, 0, none⟩ : Addr).add 1 = ⟨w.heap.size, 1, none⟩ from by simp [Addr.add]]⟩⟩
theorem mapM_next {f : Int → List Int} {l : List Int} {i : Nat} {x : Int} (h : l[i]? = some x) : (l.take (i + 1)).map f = (l.take i).map f ++ [f x] := by
  rw [show l.take (i + 1) = l.take i ++ [x] from by rw [List.take_add_one, h]; rfl, List.map_append]; rfl
set_option maxRecDepth 100000 in
set_option maxHeartbeats 8000000 in
theorem Steps_any (v vc : Value) (b : Bk) (n m : Int) (w : World) (hv : BkV w v b vc) (hs : Sm b) :
    Calls Tryz.prog 7 #[v, .int .i64 n, .int .i64 m] w (OutV (stepsOut b n m).1 (stepsOut b n m).2 w) := by
  have hv0 := hv
  obtain ⟨v1, rfl, h1, h2⟩ := hv
  obtain ⟨A1, c1, rfl, _⟩ := h1.form
  obtain ⟨A2, c2, rfl⟩ := h2.form
  have hb0 := below_new (w := w) (.cells #[.slice A1 b.first.length c1, .slice A2 b.chs.length c2] 25)
  have hb1 := below_new (w := w.alloc (.cells #[.slice A1 b.first.length c1, .slice A2 b.chs.length c2] 25)) (.cells #[.int .i64 n, .int .i64 m] 3)
  have HO := Lib.hid (open_any _ _ _ b [n, m] _ ((hv0.step hb0).step hb1) hs (two_sl _ n m) (by simp))
  have HB0 := Lib.hid (hb0.trans (hb1.mono hb0.size))
  have HM := Lib.hid (show stepsOut b n m = if openE b [n, m] = 0 then (stF b n.toNat m.toNat, 0) else ([], openE b [n, m]) from rfl)
  have HZ := Lib.hid (openE_val (b := b) (V := [n, m]))
  have HS := Lib.hid hs
  clear hv0 h1 h2 hb0 hb1 hs
  generalize stepsOut b n m = o at *
  obtain ⟨oR, oE⟩ := o
  dsimp only
  generalize openE b [n, m] = er at *
  rw [World.size_alloc] at HO
  go_enter Tryz.func7, Tryz.ntmps7
  go_wp2_with fail
  (with_reducible refine HO.out.mono ?_)
  rintro e w1 ⟨u, rfl, hu0, hu1, hb⟩
  have HB := Lib.hid (HB0.out.trans (hb.mono HB0.out.size))
  clear hb
  by_cases he : er = 0
  · subst he
    obtain ⟨hval, hV⟩ := HZ.out rfl
    have hn := hV n (by simp)
    have hm := hV m (by simp)
    rw [val_len hval] at hn hm
    obtain ⟨k, rfl⟩ : ∃ k : Nat, n = (k : Int) := ⟨n.toNat, by omega⟩
    obtain ⟨j, rfl⟩ : ∃ j : Nat, m = (j : Int) := ⟨m.toNat, by omega⟩
    have hk : k ≤ b.chs.length := by omega
    have hj : j ≤ b.chs.length := by omega
    rw [if_pos rfl, Int.toNat_natCast, Int.toNat_natCast] at HM
    have hM := HM.out
    injection hM with hM1 hM2
    subst hM2
    have hH := hu0 rfl
    have HHs := Lib.hid hH
    obtain ⟨vs, rfl, hvs, hvc⟩ := hH
    obtain ⟨Av, cv, rfl⟩ := hvs.form
    obtain ⟨L, hL, hLi, hLl⟩ := vers_at hval hk
    have hR : oR = L.map fun x => mns b.chs k [x] j := by rw [hM1]; unfold stF; rw [List.getD_eq_getElem?_getD, hL]; rfl
    subst hR
    have hb2 := below_new (w := w1) (.cells #[.slice Av (vers b).length cv, .slice A2 b.chs.length c2] 55)
    obtain ⟨W8, hW8⟩ : ∃ W8, w1.alloc (.cells #[.slice Av (vers b).length cv, .slice A2 b.chs.length c2] 55) = W8 := ⟨_, rfl⟩
    have hnew := World.alloc_heap_new w1 (.cells #[.slice Av (vers b).length cv, .slice A2 b.chs.length c2] 55)
    rw [hW8] at hb2 hnew
    have HW8 := Lib.hid hW8
    have HB2 := Lib.hid (HB.out.trans (hb2.mono HB.out.size))
    have HMe := Lib.hid (fun x Y (h : Below W8.heap.size W8 Y) => meaning_new _ _ b x k j Y ((HHs.out.step hb2).step h) HS.out hval.1 hk hj)
    have hkl : k < (vers b).length := by rw [val_len hval]; omega
    obtain ⟨adv, uk, L', rfl, hadb, hL', hck, hinL⟩ := ((hvs.below hb2).mono hb2.size).at_ hkl
    obtain rfl : L = L' := by rw [hL] at hL'; injection hL'
    obtain ⟨Ak, ck, rfl, _⟩ := hinL.form
    have HCk := Lib.hid (fun Y (h : Below W8.heap.size W8 Y) => (h.cell (p := adv.add k) (by rw [add_block]; exact hadb)).trans hck)
    have HIn := Lib.hid (show InA W8 W8.heap.size Ak L from by obtain ⟨_, _, e, _, _, h⟩ := hinL; cases e; exact h)
    have HNw := Lib.hid (show ∀ Y, Below W8.heap.size W8 Y → Y.cell? ⟨w1.heap.size, 0, none⟩ = some (.slice (some adv) (vers b).length cv) ∧ Y.cell? ⟨w1.heap.size, 1, none⟩ = some (.slice A2 b.chs.length c2) from fun Y hY => cells_two ((hY.block _ (Array.getElem?_eq_some_iff.1 hnew).1).trans hnew))
    obtain ⟨nL, hnL⟩ : ∃ nL, L.length = nL := ⟨_, rfl⟩
    have HNl := Lib.hid hnL
    have hnl4 : nL ≤ 400 := by omega
    rw [hnL] at HCk
    obtain ⟨vl, hvl⟩ : ∃ vl, (vers b).length = vl := ⟨_, rfl⟩
    obtain ⟨len, hlen⟩ : ∃ len, b.chs.length = len := ⟨_, rfl⟩
    rw [hvl] at HNw hkl
    have hki : (k : Int) < (vl : Int) := by omega
    rw [hlen] at HNw
    simp only [hvl, hlen] at HMe HW8
    rw [hvl, hlen]
    have HNe := Lib.hid (fun x (hx : x ∈ L) => show mns b.chs k [x] j ≠ [] from fun e => by obtain ⟨z, hz⟩ := mns_some hval hL hx hk hj; rw [e] at hz; cases hz)
    obtain ⟨k0, k1⟩ := HNw.out W8 (Below.refl _ _)
    have hck0 := HCk.out W8 (Below.refl _ _)
    clear HM hM1 hu0 hu1 HZ hV hn hm hvs hvc hnew hW8 hb2 hL hL' hLi hLl hck hinL hadb hnL hval hk hj hvl hlen HHs
    have hck1 := hck0
    rw [← HW8.out] at hck1
    go_wp2_with fail
    rw [HW8.out]
    clear hck1
    go_loopw [10, 30] (fun ov iv wr => ∃ (i : Nat) (vals : List Value), iv = .int .i64 (i : Int) ∧ i ≤ nL ∧ SlI W8 ((L.take i).map fun x => mns b.chs k [x] j) vals ov wr) (fun _ iv _ => nL - (intOf iv).toNat)
    case atStart => exact ⟨0, [], rfl, by omega, SlI.start _⟩
    case round =>
      obtain ⟨i, vals, rfl, hin, hS⟩ := hrel
      have HSl := Lib.hid hS
      clear k0 k1 hS hck0
      obtain ⟨k0, k1⟩ := HNw.out wr HSl.out.bel
      by_cases hlt : i < nL
      · obtain ⟨x, ad, hx, rfl, hbd, hcx⟩ := (HIn.out.below HSl.out.bel).at_ HNl.out hlt
        have HN := Lib.hid (mapM_next (f := fun x => mns b.chs k [x] j) hx)
        have HMx := Lib.hid (HMe.out x wr HSl.out.bel)
        have hln : ((L.take i).map fun x => mns b.chs k [x] j).length ≤ 100000 := by rw [List.length_map, List.length_take]; omega
        have HLl := Lib.hid hln
        have HMn := Lib.hid (HNe.out x (List.mem_of_getElem? hx))
        clear hx hbd hln
        go_wp2_with fail
        (with_reducible refine HMx.out.mono ?_)
        rintro e w2 ⟨⟨r, rfl, hr, hro⟩, hb⟩
        have HRo := Lib.hid (show ∀ g, r.ownBlock = some g → u10.ownBlock ≠ some g from fun g e e2 => by have h1 := hro g e; have h2 := (HSl.out.lt e2).2; omega)
        have HS2 := Lib.hid (HSl.out.step hb)
        have HR := Lib.hid hr
        obtain ⟨Ar, cr, rfl, _⟩ := hr.form
        obtain ⟨M, hM⟩ : ∃ M, mns b.chs k [x] j = M := ⟨_, rfl⟩
        rw [hM] at HN HR HMn ⊢
        have HRp := Lib.hid (fun (X : World) (hX : w2.heap.size ≤ X.heap.size) g (e : (Value.slice Ar M.length cr).ownBlock = some g) => show u10.ownBlock ≠ some g ∧ g < X.heap.size from ⟨HRo.out g (by rw [← hM] at e; exact e), Nat.lt_of_lt_of_le (HR.out.ownLt HMn.out e) hX⟩)
        clear hr hro hb hM hcx k0 k1
        go_wp2_with (at_builtin; refine wpList_app_sl rfl _ _ rfl rfl (HS2.out.step (below_new _)) w2.heap.size rfl (World.alloc_heap_new _ _) rfl (HR.out.step (below_new _)) (HRp.out _ (by simp)) HLl.out ?_; intro v6 w6 hS6 hg6 hob6; have HS6 := Lib.hid hS6; clear hS6 hg6 hob6)
        go_roundw
        case rel => exact ⟨i + 1, _, by go_num, by omega, by rw [HN.out]; exact HS6.out⟩
        case measure => simp [intOf]; omega
      · have hE : (L.take i).map (fun x => mns b.chs k [x] j) = L.map fun x => mns b.chs k [x] j := by rw [List.take_of_length_le (by have := HNl.out; omega)]
        have HF := Lib.hid (show VsSl wr wr.heap.size u10 (L.map fun x => mns b.chs k [x] j) from by rw [← hE]; exact HSl.out.sl)
        have HBe := Lib.hid (HB2.out.trans (HSl.out.bel.mono HB2.out.size))
        go_wp2_with fail
        go_ret2
        exact ⟨⟨_, rfl, HF.out⟩, HBe.out⟩
  · have hM := HM.out
    rw [if_neg he] at hM
    injection hM with hM1 hM2
    subst hM2
    subst hM1
    have hE2 := hu1 he
    subst hE2
    have hb2 : (oE != 0) = true := by simpa using he
    unfold nilH at *
    clear hu0 hu1 HZ HM
    have HB2 := Lib.hid (HB.out.trans ((below_new (w := w1) (.cells #[.slice none 0 0, .slice none 0 0] 55)).mono HB.out.size))
    go_wp2_with fail
    go_ret2
    exact OutV.nil HB2.out
end Go.Proofs.YtplpogonkfnafaaGreat
