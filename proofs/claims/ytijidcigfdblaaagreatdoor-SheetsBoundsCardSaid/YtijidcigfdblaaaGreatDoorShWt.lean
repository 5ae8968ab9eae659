/- Lists of doubts compared; small sheets. -/
import Derived.Test.YtijidcigfdblaaaGreatDoorShWs
namespace Go.Sh
open Go.Plc Go.Nm
def smB (p : Pg) : Bool := !((decide (30 < p.ls.length) && decide (p.ls.length ≤ 200)) || decide (400 < p.ls.length)) && p.ls.all fun x => decide (x.sn.length ≤ 100)
theorem sm_sm {p : Pg} (h : smB p = true) : PgSm p := by
  unfold smB at h
  simp only [Bool.and_eq_true, Bool.not_eq_true', Bool.or_eq_false_iff, decide_eq_false_iff_not, List.all_eq_true, decide_eq_true_eq] at h
  exact ⟨by omega, fun x hx => by have := h.2 x hx; omega⟩
end Go.Sh
namespace Go.Proofs.YtijidcigfdblaaaGreatDoor
open Go.RowKit Go.Nm Go.Sh Go.Plc

/-- a list of doubts in memory -/
def DsSl (w : World) (v : Value) (L : List (Int × Int × Int)) : Prop := ∃ A c, v = .slice A L.length c ∧ ∀ (i : Nat) (z : Int × Int × Int), L[i]? = some z → ∃ ad, A = some ad ∧ ad.block < w.heap.size ∧ w.cell? (ad.add (i * 3)) = some (.int .i64 z.1) ∧ w.cell? ⟨(ad.add (i * 3)).block, (ad.add (i * 3)).off + 1, none⟩ = some (.int .i64 z.2.1) ∧ w.cell? ⟨(ad.add (i * 3)).block, (ad.add (i * 3)).off + 2, none⟩ = some (.int .i64 z.2.2)
theorem DsSl.step {w w' : World} {v : Value} {L : List (Int × Int × Int)} (h : DsSl w v L) (hb : Below w.heap.size w w') : DsSl w' v L := by
  obtain ⟨A, c, e, h⟩ := h
  refine ⟨A, c, e, fun i z hz => ?_⟩
  obtain ⟨ad, e1, h1, h2, h3, h4⟩ := h i z hz
  have hB : (ad.add (i * 3)).block < w.heap.size := by rw [add_block]; exact h1
  exact ⟨ad, e1, Nat.lt_of_lt_of_le h1 hb.size, (hb.cell hB).trans h2, (hb.cell (p := ⟨(ad.add (i * 3)).block, _, none⟩) hB).trans h3, (hb.cell (p := ⟨(ad.add (i * 3)).block, _, none⟩) hB).trans h4⟩
theorem dbC_get : ∀ {L : List (Int × Int × Int)} {i : Nat} {z : Int × Int × Int}, L[i]? = some z → (dbC L)[i * 3]? = some (.int .i64 z.1) ∧ (dbC L)[i * 3 + 1]? = some (.int .i64 z.2.1) ∧ (dbC L)[i * 3 + 2]? = some (.int .i64 z.2.2)
  | [], i, z, h => by simp at h
  | y :: L, 0, z, h => by
    simp only [List.getElem?_cons_zero, Option.some.injEq] at h
    subst h
    exact ⟨rfl, rfl, rfl⟩
  | y :: L, i + 1, z, h => by
    rw [List.getElem?_cons_succ] at h
    obtain ⟨h1, h2, h3⟩ := dbC_get h
    have e : ∀ j, (dbC (y :: L))[j + 3]? = (dbC L)[j]? := fun j => rfl
    rw [show (i + 1) * 3 = i * 3 + 3 by omega, show i * 3 + 3 + 1 = i * 3 + 1 + 3 by omega, show i * 3 + 3 + 2 = i * 3 + 2 + 3 by omega, e, e, e]
    exact ⟨h1, h2, h3⟩
theorem DbI.ds {W X : World} {L : List (Int × Int × Int)} {v : Value} (h : DbI W L v X) : DsSl X v L := by
  rcases h.own.2 with ⟨e, h0⟩ | ⟨g, cap, cur, e, hb, hg, h1, h2, h3, h4⟩
  · exact ⟨none, 0, by rw [e, h0], fun i z hz => by rw [List.length_eq_zero_iff.1 h0] at hz; simp at hz⟩
  · refine ⟨_, _, e, fun i z hz => ?_⟩
    obtain ⟨d0, d1, d2⟩ := dbC_get hz
    have hc := h.own.cells (g := g) (by rw [e]; rfl)
    refine ⟨⟨g, 0, none⟩, rfl, (Array.getElem?_eq_some_iff.1 hg).1, hc _ _ d0, ?_, ?_⟩
    · have := hc _ _ d1
      rw [add_zeroB] at this ⊢
      exact this
    · have := hc _ _ d2
      rw [add_zeroB] at this ⊢
      exact this
theorem ds_one {w : World} {g : Nat} {a b c : Int} (h : w.heap[g]? = some (.cells #[.int .i64 a, .int .i64 b, .int .i64 c] 87)) : DsSl w (.slice (some ⟨g, 0, none⟩) 1 1) [(a, b, c)] := by
  refine ⟨_, _, rfl, fun i z hz => ?_⟩
  have hi : i = 0 := by have := (List.getElem?_eq_some_iff.1 hz).1; simp at this; omega
  subst hi
  simp only [List.getElem?_cons_zero, Option.some.injEq] at hz
  subst hz
  refine ⟨_, rfl, (Array.getElem?_eq_some_iff.1 h).1, ?_, ?_, ?_⟩ <;> rw [add_zeroB] <;> simp [World.cell?, h]
set_option maxRecDepth 100000 in
set_option maxHeartbeats 4000000 in
theorem SameDoubts_any (u v : Value) (L : List (Int × Int × Int)) (w : World) (hu : DsSl w u L) (hv : DsSl w v L) (hl : L.length ≤ 1000000) : Calls Tryz.prog 54 #[u, v] w fun e w' => e = .returned (.bool true) ∧ Below w.heap.size w w' := by
  have HU := Lib.hid hu
  have HV := Lib.hid hv
  obtain ⟨A, c, rfl, hA⟩ := hu
  obtain ⟨A', c', rfl, hA'⟩ := hv
  have HA := Lib.hid hA
  have HA' := Lib.hid hA'
  obtain ⟨n, hn⟩ : ∃ n, L.length = n := ⟨_, rfl⟩
  have HN := Lib.hid hn
  rw [hn] at hl ⊢
  clear hA hA' hn HU HV
  go_enter Tryz.func54, Tryz.ntmps54
  go_wp2_with fail
  go_loopw [5] (fun iv wr => ∃ i : Nat, iv = .int .i64 (i : Int) ∧ i ≤ n ∧ Below w.heap.size w wr) (fun iv _ => n - (intOf iv).toNat)
  case atStart => exact ⟨0, rfl, by omega, Below.refl _ _⟩
  case round =>
    obtain ⟨i, rfl, hin, hb⟩ := hrel
    have HB := Lib.hid hb
    by_cases hlt : i < n
    · obtain ⟨z, hz⟩ : ∃ z, L[i]? = some z := ⟨_, List.getElem?_eq_getElem (by rw [HN.out]; exact hlt)⟩
      obtain ⟨ad, rfl, h1, a0, a1, a2⟩ := HA.out i z hz
      obtain ⟨ad', rfl, h1', b0, b1, b2⟩ := HA'.out i z hz
      obtain ⟨z0, z1, z2⟩ := z
      have hB : (ad.add (i * 3)).block < w.heap.size := by rw [add_block]; exact h1
      have hB' : (ad'.add (i * 3)).block < w.heap.size := by rw [add_block]; exact h1'
      have a0 := (hb.cell hB).trans a0
      have a1 := (hb.cell (p := ⟨(ad.add (i * 3)).block, _, none⟩) hB).trans a1
      have a2 := (hb.cell (p := ⟨(ad.add (i * 3)).block, _, none⟩) hB).trans a2
      have b0 := (hb.cell hB').trans b0
      have b1 := (hb.cell (p := ⟨(ad'.add (i * 3)).block, _, none⟩) hB').trans b1
      have b2 := (hb.cell (p := ⟨(ad'.add (i * 3)).block, _, none⟩) hB').trans b2
      simp only at a0 a1 a2 b0 b1 b2
      have his : (i : Int) < (n : Int) := by omega
      have hi0 : ¬ (i : Int) < 0 := by omega
      clear hz h1 h1' hB hB' hb
      go_wp2_with fail
      have ss := fun p => (⟨⟨Wb.cell a0 p, Wb.cell a1 p, Wb.cell a2 p⟩, ⟨Wb.cell b0 p, Wb.cell b1 p, Wb.cell b2 p⟩⟩ : (_ ∧ _ ∧ _) ∧ (_ ∧ _ ∧ _))
      refine wp_region_wb (by kernel_rfl) (by kernel_rfl) ?_; (repeat ((with_reducible refine wpQuiet_step ?_); intro K hK; go_simp; (try (refine ite_neg_of (by simp [undef]) ?_)); first | (with_reducible refine hK _ ?_; clear hK K) | (apply Exists.intro; (with_reducible refine ⟨fun _ => ?_, hK _ ?_⟩); (fail); clear hK K))); (with_reducible refine wpQuiet_nil ?_); rintro w1 ⟨⟨_, hb1⟩, rfl⟩; (try dsimp only)
      have HB2 := Lib.hid (HB.out.trans (hb1.mono HB.out.size))
      clear hb1 ss a0 a1 a2 b0 b1 b2
      go_wp2_with fail
      go_roundw
      case rel => exact ⟨i + 1, by go_num, by omega, HB2.out⟩
      case measure => simp [intOf]; omega
    · obtain rfl : n = i := by omega
      clear hb
      go_wp2_with fail
      go_ret
      exact ⟨rfl, HB.out⟩
theorem sm_next {l : List Ln} {i : Nat} {x : Ln} (h : l[i]? = some x) : (l.take (i + 1)).all (fun x => decide (x.sn.length ≤ 100)) = ((l.take i).all (fun x => decide (x.sn.length ≤ 100)) && decide (x.sn.length ≤ 100)) := by
  rw [show l.take (i + 1) = l.take i ++ [x] from by rw [List.take_add_one, h]; rfl, List.all_append]
  simp
set_option maxRecDepth 100000 in
set_option maxHeartbeats 8000000 in
theorem small_any (v : Value) (p : Pg) (w : World) (hv : PgV w v p) : Calls Tryz.prog 17 #[v] w fun e w' => e = .returned (.bool (smB p)) ∧ Below w.heap.size w w' := by
  have hv0 := hv
  obtain ⟨A, c, W0, rfl, hW0, hb0, hz, hV, hL, hC⟩ := pg_box hv
  have HC := Lib.hid hC
  have HL := Lib.hid (hL W0 (Below.refl _ _))
  have HB0 := Lib.hid hb0
  have HW0 := Lib.hid hW0
  obtain ⟨n, hn⟩ : ∃ n, p.ls.length = n := ⟨_, rfl⟩
  have HN := Lib.hid hn
  obtain ⟨q, hq⟩ : ∃ q, smB p = q := ⟨_, rfl⟩
  have HQ := Lib.hid (show q = (!((decide (30 < n) && decide (n ≤ 200)) || decide (400 < n)) && p.ls.all fun x => decide (x.sn.length ≤ 100)) from by rw [← hq, ← hn]; rfl)
  rw [hq]
  rw [hn] at HC HL HW0 ⊢
  unfold pgV
  unfold pgC at HW0
  obtain ⟨g0, g1, g2, g3, g4, g5, g6, g7, g8, g9⟩ := HC.out W0 (Below.refl _ _)
  clear hv hv0 hW0 hb0 hz hV hL hC hn hq
  by_cases h30 : 30 < n ∧ n ≤ 200
  · have HF := Lib.hid (show q = false from by rw [HQ.out, show decide (30 < n) = true from decide_eq_true h30.1, show decide (n ≤ 200) = true from decide_eq_true h30.2]; rfl)
    have i1 : (30 : Int) < (n : Int) := by omega
    have i2 : (n : Int) ≤ 200 := by omega
    clear h30
    go_enter Tryz.func17, Tryz.ntmps17
    go_wp2_with fail
    rw [HW0.out]
    (try go_wp2_with fail)
    go_ret
    exact ⟨by rw [HF.out]; rfl, HB0.out⟩
  · by_cases h400 : 400 < n
    · have HF := Lib.hid (show q = false from by rw [HQ.out, show decide (400 < n) = true from decide_eq_true h400, Bool.or_true]; rfl)
      have i1 : (30 : Int) < (n : Int) := by omega
      have i2 : ¬ (n : Int) ≤ 200 := by omega
      have i3 : (400 : Int) < (n : Int) := by omega
      clear h30
      go_enter Tryz.func17, Tryz.ntmps17
      go_wp2_with fail
      rw [HW0.out]
      (try go_wp2_with fail)
      go_ret
      exact ⟨by rw [HF.out]; rfl, HB0.out⟩
    · have HQ2 := Lib.hid (show q = p.ls.all fun x => decide (x.sn.length ≤ 100) from by
        have e : ((decide (30 < n) && decide (n ≤ 200)) || decide (400 < n)) = false := by
          rw [show decide (400 < n) = false from decide_eq_false h400, Bool.or_false, Bool.and_eq_false_iff, decide_eq_false_iff_not, decide_eq_false_iff_not]
          omega
        rw [HQ.out, e]; rfl)
      have hn4 : n ≤ 400 := by omega
      have hcase : (¬ (30 : Int) < (n : Int)) ∨ ((30 : Int) < (n : Int) ∧ ¬ (n : Int) ≤ 200) := by omega
      have i3 : ¬ (400 : Int) < (n : Int) := by omega
      clear h30 h400 HQ
      rcases hcase with i1 | ⟨i1, i2⟩
      all_goals
        go_enter Tryz.func17, Tryz.ntmps17
        go_wp2_with fail
        rw [HW0.out]
        (try go_wp2_with fail)
        go_loopw [3] (fun iv wr => ∃ i : Nat, iv = .int .i64 (i : Int) ∧ i ≤ n ∧ (p.ls.take i).all (fun x => decide (x.sn.length ≤ 100)) = true ∧ wr = W0) (fun iv _ => n - (intOf iv).toNat)
        case atStart => exact ⟨0, rfl, by omega, by simp, by first | rfl | trivial⟩
        case round =>
          obtain ⟨i, rfl, hin, hal, rfl⟩ := hrel
          have HAl := Lib.hid hal
          by_cases hlt : i < n
          · obtain ⟨x, ad, As, cs, hx, rfl, hY⟩ := HL.out.at_ hlt
            obtain ⟨⟨l0, l1, l2, l3⟩, _⟩ := hY _ (Below.refl _ _)
            have HX := Lib.hid hx
            have his : (i : Int) < (n : Int) := by omega
            have hi0 : ¬ (i : Int) < 0 := by omega
            clear hx hY hal
            by_cases h1 : 100 < x.sn.length
            · have h1i : (100 : Int) < (x.sn.length : Int) := by omega
              have HF := Lib.hid (show q = false from by
                rw [HQ2.out, List.all_eq_false]
                exact ⟨x, List.mem_of_getElem? HX.out, by simp; omega⟩)
              clear h1
              go_wp2_with fail
              go_ret
              exact ⟨by rw [HF.out]; rfl, HB0.out⟩
            · have h1i : ¬ (100 : Int) < (x.sn.length : Int) := by omega
              have HT := Lib.hid (show (p.ls.take (i + 1)).all (fun x => decide (x.sn.length ≤ 100)) = true from by rw [sm_next HX.out, HAl.out, show decide (x.sn.length ≤ 100) = true from decide_eq_true (by omega)]; rfl)
              clear h1
              go_wp2_with fail
              go_roundw
              case rel => exact ⟨i + 1, by go_num, by omega, HT.out, by first | rfl | trivial⟩
              case measure => simp [intOf]; omega
          · obtain rfl : n = i := by omega
            have HF := Lib.hid (show q = true from by
              have h := HAl.out
              rw [List.take_of_length_le (by rw [HN.out]; exact Nat.le_refl _)] at h
              rw [HQ2.out, h])
            clear hal
            go_wp2_with fail
            go_ret
            exact ⟨by rw [HF.out]; rfl, HB0.out⟩
end Go.Proofs.YtijidcigfdblaaaGreatDoor
