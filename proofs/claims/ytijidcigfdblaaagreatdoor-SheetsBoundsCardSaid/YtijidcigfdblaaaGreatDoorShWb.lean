/- Sheets compared: the reference. -/
import Derived.Test.YtijidcigfdblaaaGreatDoorShWa
namespace Go.Proofs.YtijidcigfdblaaaGreatDoor
open Go.RowKit Go.Nm Go.Sh Go.Plc


set_option maxHeartbeats 4000000 in
theorem SameInts_any (u v : Value) (L M : List Int) (w : World) (hu : InSl w w.heap.size u L) (hv : InSl w w.heap.size v M) (hL : L.length ≤ 1000000) (hM : M.length ≤ 1000000) :
    Calls Tryz.prog 28 #[u, v] w fun e w' => e = .returned (.bool (decide (L = M))) ∧ Below w.heap.size w w' := by
  obtain ⟨A, c, rfl, hc, hcm, hA⟩ := hu
  obtain ⟨B, d, rfl, hd, hdm, hB⟩ := hv
  have HA := Lib.hid hA
  have HB := Lib.hid hB
  obtain ⟨r, hr⟩ : ∃ r, decide (L = M) = r := ⟨_, rfl⟩
  rw [hr]
  have HR := Lib.hid hr
  clear hA hB hr
  generalize hnl : L.length = n at *
  generalize hnm : M.length = m at *
  have HL := Lib.hid hnl
  have HM := Lib.hid hnm
  clear hnl hnm
  by_cases hnm : n = m
  · subst hnm
    go_enter Tryz.func28, Tryz.ntmps28
    go_wp2_with fail
    go_loopw [5] (fun iv wr => ∃ i : Nat, iv = .int .i64 (i : Int) ∧ i ≤ n ∧ (∀ j, j < i → L[j]? = M[j]?) ∧ Below w.heap.size w wr) (fun iv _ => n - (intOf iv).toNat)
    case atStart => exact ⟨0, rfl, by omega, fun j hj => absurd hj (by omega), Below.refl _ _⟩
    case round =>
      obtain ⟨i, rfl, hin, hq, hb⟩ := hrel
      have HQ := Lib.hid hq
      have HBl := Lib.hid hb
      by_cases hlt : i < n
      · obtain ⟨x, ad, hx, rfl, hbd, hcx⟩ := (HA.out.below hb).at_ HL.out hlt
        obtain ⟨y, ad2, hy, rfl, hbd2, hcy⟩ := (HB.out.below hb).at_ HM.out hlt
        clear hq hb
        by_cases hxy : x = y
        · have HN := Lib.hid (same_next HQ.out hx hy hxy)
          subst hxy
          clear hx hy hbd hbd2
          go_wp2_with fail
          go_region
          have HB2 := Lib.hid HBl.out.drew
          simp only [Exit.then]
          generalize wr.drew = w3 at *
          go_wp2_with fail
          go_roundw
          case rel => exact ⟨i + 1, by go_num, by omega, HN.out, HB2.out⟩
          case measure => simp [intOf]; omega
        · have HF := Lib.hid (show r = false from by
            rw [← HR.out, decide_eq_false_iff_not]; intro e; subst e; rw [hx] at hy; injection hy with hy; exact hxy hy)
          have hb2 : (x != y) = true := by simpa using hxy
          clear hx hy hbd hbd2
          go_wp2_with fail
          go_region
          have HB2 := Lib.hid HBl.out.drew
          simp only [Exit.then]
          generalize wr.drew = w3 at *
          go_wp2_with fail
          go_ret
          exact ⟨by rw [HF.out]; rfl, HB2.out⟩
      · obtain rfl : i = n := by omega
        have HF := Lib.hid (show r = true from by rw [← HR.out, decide_eq_true_eq]; exact same_end HL.out HM.out HQ.out)
        clear hq hb
        go_wp2_with fail
        go_ret
        exact ⟨by rw [HF.out]; rfl, HBl.out⟩
  · have HF := Lib.hid (show r = false from by rw [← HR.out, decide_eq_false_iff_not]; intro e; apply hnm; rw [← HL.out, ← HM.out, e])
    have hb : ((n : Int) != (m : Int)) = true := by simpa using fun e => hnm (by omega)
    go_enter Tryz.func28, Tryz.ntmps28
    go_wp2_with fail
    go_ret
    exact ⟨by rw [HF.out]; rfl, Below.refl _ _⟩
set_option maxRecDepth 100000 in
set_option maxHeartbeats 4000000 in
theorem rTwins_same (u v : Value) (p : Pg) (w : World) (hu : PgV w u p) (hv : PgV w v p) : Calls Tryz.prog 78 #[u, v] w fun e w' => e = .returned (.bool true) ∧ Below w.heap.size w w' := by
  obtain ⟨A0, c0, W0, rfl, hW0, hb0, hz0, hV0, hL0, hC0⟩ := pg_box hu
  obtain ⟨A1, c1, W1, rfl, hW1, hb1, hz1, hV1, hL1, hC1⟩ := pg_box (hv.step hb0)
  have HB := Lib.hid (hb0.trans (hb1.mono hb0.size))
  obtain ⟨g0, g1, g2, g3, g4, g5, g6, g7, g8, g9⟩ := hC0 W1 hb1
  obtain ⟨k0, k1, k2, k3, k4, k5, k6, k7, k8, k9⟩ := hC1 W1 (Below.refl _ _)
  generalize p.ls.length = n at *
  unfold pgV
  unfold pgC at hW0 hW1
  rw [hz0] at k0 k1 k2 k3 k4 k5 k6 k7 k8 k9
  clear hu hv hb0 hb1 hV0 hL0 hC0 hV1 hL1 hC1 hz1
  go_enter Tryz.func78, Tryz.ntmps78
  go_wp2_with fail
  go_ret
  exact ⟨rfl, HB.out⟩
set_option maxRecDepth 100000 in
set_option maxHeartbeats 8000000 in
theorem SameSheet_same (u v : Value) (p : Pg) (w : World) (hp : PgSm p) (hu : PgV w u p) (hv : PgV w v p) : Calls Tryz.prog 33 #[u, v] w fun e w' => e = .returned (.bool true) ∧ Below w.heap.size w w' := by
  obtain ⟨A0, c0, W0, rfl, hW0, hb0, hz0, hV0, hL0, hC0⟩ := pg_box hu
  obtain ⟨A1, c1, W1, rfl, hW1, hb1, hz1, hV1, hL1, hC1⟩ := pg_box (hv.step hb0)
  have HB := Lib.hid (hb0.trans (hb1.mono hb0.size))
  have HT := Lib.hid (rTwins_same _ _ p W1 (hV0 W1 hb1) (hV1 W1 (Below.refl _ _)))
  have HL0 := Lib.hid (hL0 W1 hb1)
  have HL1 := Lib.hid (hL1 W1 (Below.refl _ _))
  have HC0 := Lib.hid (fun Y (h : Below W1.heap.size W1 Y) => hC0 Y (hb1.trans (h.mono hb1.size)))
  rw [hz0] at hC1
  have HC1 := Lib.hid hC1
  have HSn := Lib.hid hp.2
  obtain ⟨n, hn⟩ : ∃ n, p.ls.length = n := ⟨_, rfl⟩
  have HN := Lib.hid hn
  have hn4 : n ≤ 1000 := by rw [← hn]; exact hp.1
  rw [hn] at hW0 hW1 HT HL0 HL1 HC0 HC1 ⊢
  obtain ⟨g0, g1, g2, g3, g4, g5, g6, g7, g8, g9⟩ := HC0.out W1 (Below.refl _ _)
  obtain ⟨k0, k1, k2, k3, k4, k5, k6, k7, k8, k9⟩ := HC1.out W1 (Below.refl _ _)
  unfold pgV at HT ⊢
  unfold pgC at hW0 hW1
  clear hu hv hb0 hb1 hV0 hL0 hC0 hV1 hL1 hC1 hn hp hz1
  go_enter Tryz.func33, Tryz.ntmps33
  go_wp2_with fail
  refine HT.out.mono ?_
  rintro e W2 ⟨rfl, hb2⟩
  have HB2 := Lib.hid hb2
  obtain ⟨g0, g1, g2, g3, g4, g5, g6, g7, g8, g9⟩ := HC0.out W2 hb2
  obtain ⟨k0, k1, k2, k3, k4, k5, k6, k7, k8, k9⟩ := HC1.out W2 hb2
  clear hb2 hW0 hW1
  go_wp2_with fail
  clear g0 g1 g2 g3 g4 g5 g6 g7 g8 g9 k0 k1 k2 k3 k4 k5 k6 k7 k8 k9
  go_loopw [5] (fun iv wr => ∃ i : Nat, iv = .int .i64 (i : Int) ∧ i ≤ n ∧ Below W1.heap.size W1 wr) (fun iv _ => n - (intOf iv).toNat)
  case atStart => exact ⟨0, rfl, by omega, HB2.out⟩
  case round =>
    obtain ⟨i, rfl, hin, hb⟩ := hrel
    have HBw := Lib.hid hb
    obtain ⟨_, _, _, _, _, _, _, _, _, g9⟩ := HC0.out wr hb
    by_cases hlt : i < n
    · obtain ⟨x, ad, As, cs, hx, rfl, hY⟩ := HL0.out.at_ hlt
      obtain ⟨y, ad', At, ct, hy, rfl, hZ⟩ := HL1.out.at_ hlt
      obtain rfl : x = y := by rw [hx] at hy; injection hy
      have his : (i : Int) < (n : Int) := by omega
      have hi0 : ¬ (i : Int) < 0 := by omega
      obtain ⟨⟨l0, l1, l2, l3⟩, hsn⟩ := hY wr hb
      have hbn := below_new (w := wr) (.cells #[.int .i64 x.nm, .int .i64 x.lo, .int .i64 x.hi, .slice As x.sn.length cs] 83)
      have hnn := World.alloc_heap_new wr (.cells #[.int .i64 x.nm, .int .i64 x.lo, .int .i64 x.hi, .slice As x.sn.length cs] 83)
      obtain ⟨V, hV⟩ : ∃ V, wr.alloc (.cells #[.int .i64 x.nm, .int .i64 x.lo, .int .i64 x.hi, .slice As x.sn.length cs] 83) = V := ⟨_, rfl⟩
      have hVz : V.heap.size = wr.heap.size + 1 := by rw [← hV]; simp
      rw [hV] at hbn hnn
      have hbV := bl_on hb hbn
      obtain ⟨_, _, _, _, _, _, _, _, _, k9⟩ := HC1.out V hbV
      obtain ⟨⟨m0, m1, m2, m3⟩, hsm⟩ := hZ V hbV
      have hbn2 := below_new (w := V) (.cells #[.int .i64 x.nm, .int .i64 x.lo, .int .i64 x.hi, .slice At x.sn.length ct] 83)
      have hnn2 := World.alloc_heap_new V (.cells #[.int .i64 x.nm, .int .i64 x.lo, .int .i64 x.hi, .slice At x.sn.length ct] 83)
      obtain ⟨V2, hV2⟩ : ∃ V2, V.alloc (.cells #[.int .i64 x.nm, .int .i64 x.lo, .int .i64 x.hi, .slice At x.sn.length ct] 83) = V2 := ⟨_, rfl⟩
      rw [hV2] at hbn2 hnn2
      have hnn := (hbn2.block _ (by omega)).trans hnn
      rw [hVz] at hnn2
      obtain ⟨n0, n1, n2, n3⟩ := cells_four hnn
      obtain ⟨q0, q1, q2, q3⟩ := cells_four hnn2
      have HB3 := Lib.hid (bl_on hbV hbn2)
      have hs := HSn.out x (List.mem_of_getElem? hx)
      have HS := Lib.hid (SameInts_any _ _ x.sn x.sn V2 ((hsn.step hbn).step hbn2) (hsm.step hbn2) (by omega) (by omega))
      rw [decide_eq_true rfl] at HS
      clear hx hy hY hZ hsn hsm hbn hnn hbn2 hnn2 hbV hs hb
      go_wp2_with fail
      refine HS.out.mono ?_
      rintro e w5 ⟨rfl, hb5⟩
      have HB5 := Lib.hid (bl_on HB3.out hb5)
      clear hb5 hV hV2 n0 n1 n2 n3 q0 q1 q2 q3 l0 l1 l2 l3 m0 m1 m2 m3 g9 k9 hVz
      go_wp2_with fail
      go_roundw
      case rel => exact ⟨i + 1, by go_num, by omega, HB5.out⟩
      case measure => simp [intOf]; omega
    · obtain rfl : n = i := by omega
      clear hb
      go_wp2_with fail
      go_ret
      exact ⟨rfl, bl_on HB.out HBw.out⟩
end Go.Proofs.YtijidcigfdblaaaGreatDoor
