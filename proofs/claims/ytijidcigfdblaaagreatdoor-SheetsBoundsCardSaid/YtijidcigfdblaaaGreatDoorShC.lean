/- Which sheets are valid: the program. -/
import Derived.Test.YtijidcigfdblaaaGreatDoorShB
namespace Go.Proofs.YtijidcigfdblaaaGreatDoor
open Go.RowKit Go.Nm Go.Sh Go.Plc

theorem ln_box {w : World} {x : Ln} {vs : Value} (hv : InSl w w.heap.size vs x.sn) : ∃ (As : Option Addr) (cs : Nat) (W0 : World), vs = .slice As x.sn.length cs ∧ w.alloc (.cells #[.int .i64 x.nm, .int .i64 x.lo, .int .i64 x.hi, .slice As x.sn.length cs] 83) = W0 ∧ Below w.heap.size w W0 ∧ W0.heap.size = w.heap.size + 1 ∧
    ∀ Y, Below W0.heap.size W0 Y → LnC Y ⟨w.heap.size, 0, none⟩ x As cs := by
  obtain ⟨As, cs, rfl, _⟩ := hv.form
  have hb := below_new (w := w) (.cells #[.int .i64 x.nm, .int .i64 x.lo, .int .i64 x.hi, .slice As x.sn.length cs] 83)
  have hn := World.alloc_heap_new w (.cells #[.int .i64 x.nm, .int .i64 x.lo, .int .i64 x.hi, .slice As x.sn.length cs] 83)
  refine ⟨As, cs, _, rfl, rfl, hb, by simp, fun Y h => ⟨?_, (hv.step hb).step h⟩⟩
  have h2 := (h.block _ (Array.getElem?_eq_some_iff.1 hn).1).trans hn
  simp [World.cell?, h2]
set_option maxRecDepth 100000 in
set_option maxHeartbeats 4000000 in
theorem between_any (n a b : Int) (w : World) : Calls Tryz.prog 84 #[.int .i64 n, .int .i64 a, .int .i64 b] w fun e w' => e = .returned (.bool (betB n a b)) ∧ w = w' := by
  obtain ⟨r, hr⟩ : ∃ r, betB n a b = r := ⟨_, rfl⟩
  rw [hr]
  have HR := Lib.hid (show r = (decide (a ≤ n) && decide (n ≤ b)) from hr.symm)
  clear hr
  by_cases h1 : a ≤ n
  · by_cases h2 : n ≤ b
    · have HF := Lib.hid (show r = true from by rw [HR.out]; simp [h1, h2])
      go_enter Tryz.func84, Tryz.ntmps84
      go_wp2_with fail
      go_ret
      exact ⟨ret_b HF.out.symm, rfl⟩
    · have HF := Lib.hid (show r = false from by rw [HR.out]; simp [h2])
      go_enter Tryz.func84, Tryz.ntmps84
      go_wp2_with fail
      go_ret
      exact ⟨ret_b HF.out.symm, rfl⟩
  · have HF := Lib.hid (show r = false from by rw [HR.out]; simp [h1])
    go_enter Tryz.func84, Tryz.ntmps84
    go_wp2_with fail
    go_ret
    exact ⟨ret_b HF.out.symm, rfl⟩
set_option maxRecDepth 100000 in
set_option maxHeartbeats 4000000 in
theorem rwithin4_any (n a b : Int) (w : World) : Calls Tryz.prog 71 #[.int .i64 n, .int .i64 a, .int .i64 b] w fun e w' => e = .returned (.bool (betB n a b)) ∧ w = w' := by
  obtain ⟨r, hr⟩ : ∃ r, betB n a b = r := ⟨_, rfl⟩
  rw [hr]
  have HR := Lib.hid (show r = (decide (a ≤ n) && decide (n ≤ b)) from hr.symm)
  clear hr
  by_cases h1 : a ≤ n
  · by_cases h2 : n ≤ b
    · have HF := Lib.hid (show r = true from by rw [HR.out]; simp [h1, h2])
      go_enter Tryz.func71, Tryz.ntmps71
      go_wp2_with fail
      go_ret
      exact ⟨ret_b HF.out.symm, rfl⟩
    · have HF := Lib.hid (show r = false from by rw [HR.out]; simp [h2])
      go_enter Tryz.func71, Tryz.ntmps71
      go_wp2_with fail
      go_ret
      exact ⟨ret_b HF.out.symm, rfl⟩
  · have HF := Lib.hid (show r = false from by rw [HR.out]; simp [h1])
    go_enter Tryz.func71, Tryz.ntmps71
    go_wp2_with fail
    go_ret
    exact ⟨ret_b HF.out.symm, rfl⟩
set_option maxRecDepth 100000 in
set_option maxHeartbeats 4000000 in
theorem isID_any (n : Int) (w : World) : Calls Tryz.prog 79 #[.int .i64 n] w fun e w' => e = .returned (.bool (idB n)) ∧ w = w' := by
  have HC := Lib.hid (between_any n 1 65535 w)
  rw [show idB n = betB n 1 65535 from rfl]
  generalize betB n 1 65535 = b at *
  go_enter Tryz.func79, Tryz.ntmps79
  go_wp2_with fail
  (with_reducible refine HC.out.mono ?_)
  rintro e w1 ⟨rfl, rfl⟩
  go_wp2_with fail
  go_ret
  exact ⟨rfl, rfl⟩
set_option maxRecDepth 100000 in
set_option maxHeartbeats 4000000 in
theorem isCount_any (lo hi : Int) (w : World) : Calls Tryz.prog 139 #[.agg #[.int .i64 lo, .int .i64 hi]] w fun e w' => e = .returned (.bool (cntB lo hi)) ∧ Below w.heap.size w w' := by
  obtain ⟨r, hr⟩ : ∃ r, cntB lo hi = r := ⟨_, rfl⟩
  rw [hr]
  have HR := Lib.hid (show r = ((decide (0 ≤ lo) && decide (lo ≤ hi)) && decide (hi ≤ 100000)) from hr.symm)
  have HB := Lib.hid (below_new (w := w) (.cells #[.int .i64 lo, .int .i64 hi] 141))
  have hn := World.alloc_heap_new w (.cells #[.int .i64 lo, .int .i64 hi] 141)
  obtain ⟨c0, c1⟩ := cells_two hn
  clear hr hn
  by_cases h1 : 0 ≤ lo
  · by_cases h2 : lo ≤ hi
    · by_cases h3 : hi ≤ 100000
      · have HF := Lib.hid (show r = true from by rw [HR.out]; simp [h1, h2, h3])
        go_enter Tryz.func139, Tryz.ntmps139
        go_wp2_with fail
        go_ret
        exact ⟨ret_b HF.out.symm, HB.out⟩
      · have HF := Lib.hid (show r = false from by rw [HR.out]; simp [h3])
        go_enter Tryz.func139, Tryz.ntmps139
        go_wp2_with fail
        go_ret
        exact ⟨ret_b HF.out.symm, HB.out⟩
    · have HF := Lib.hid (show r = false from by rw [HR.out]; simp [h2])
      go_enter Tryz.func139, Tryz.ntmps139
      go_wp2_with fail
      go_ret
      exact ⟨ret_b HF.out.symm, HB.out⟩
  · have HF := Lib.hid (show r = false from by rw [HR.out]; simp [h1])
    go_enter Tryz.func139, Tryz.ntmps139
    go_wp2_with fail
    go_ret
    exact ⟨ret_b HF.out.symm, HB.out⟩
set_option maxRecDepth 100000 in
set_option maxHeartbeats 4000000 in
theorem rIsCount_any (lo hi : Int) (w : World) : Calls Tryz.prog 73 #[.agg #[.int .i64 lo, .int .i64 hi]] w fun e w' => e = .returned (.bool (cntB lo hi)) ∧ Below w.heap.size w w' := by
  obtain ⟨r, hr⟩ : ∃ r, cntB lo hi = r := ⟨_, rfl⟩
  rw [hr]
  have HR := Lib.hid (show r = ((decide (0 ≤ lo) && decide (lo ≤ hi)) && decide (hi ≤ 100000)) from hr.symm)
  have HB := Lib.hid (below_new (w := w) (.cells #[.int .i64 lo, .int .i64 hi] 25))
  have hn := World.alloc_heap_new w (.cells #[.int .i64 lo, .int .i64 hi] 25)
  obtain ⟨c0, c1⟩ := cells_two hn
  clear hr hn
  by_cases h1 : 0 ≤ lo
  · by_cases h2 : lo ≤ hi
    · by_cases h3 : hi ≤ 100000
      · have HF := Lib.hid (show r = true from by rw [HR.out]; simp [h1, h2, h3])
        go_enter Tryz.func73, Tryz.ntmps73
        go_wp2_with fail
        go_ret
        exact ⟨ret_b HF.out.symm, HB.out⟩
      · have HF := Lib.hid (show r = false from by rw [HR.out]; simp [h3])
        go_enter Tryz.func73, Tryz.ntmps73
        go_wp2_with fail
        go_ret
        exact ⟨ret_b HF.out.symm, HB.out⟩
    · have HF := Lib.hid (show r = false from by rw [HR.out]; simp [h2])
      go_enter Tryz.func73, Tryz.ntmps73
      go_wp2_with fail
      go_ret
      exact ⟨ret_b HF.out.symm, HB.out⟩
  · have HF := Lib.hid (show r = false from by rw [HR.out]; simp [h1])
    go_enter Tryz.func73, Tryz.ntmps73
    go_wp2_with fail
    go_ret
    exact ⟨ret_b HF.out.symm, HB.out⟩
theorem all_nextB {g : Int → Bool} {l : List Int} {i : Nat} {x : Int} (h : l[i]? = some x) : (l.take (i + 1)).all g = ((l.take i).all g && g x) := by
  rw [show l.take (i + 1) = l.take i ++ [x] from by rw [List.take_add_one, h]; rfl, List.all_append]
  simp
theorem all_falseB {g : Int → Bool} {l : List Int} {i : Nat} {x : Int} (hx : l[i]? = some x) (h : g x = false) : l.all g = false := by
  rw [List.all_eq_false]
  exact ⟨x, List.mem_of_getElem? hx, by simp [h]⟩
set_option maxRecDepth 100000 in
set_option maxHeartbeats 4000000 in
theorem areSets_any (u : Value) (l : List Int) (w : World) (hu : InSl w w.heap.size u l) (hl : l.length ≤ 1000000) : Calls Tryz.prog 195 #[u] w fun e w' => e = .returned (.bool (setB l)) ∧ w = w' := by
  obtain ⟨A, c, rfl, _⟩ := hu.form
  have HA := Lib.hid (show InA w w.heap.size A l from by obtain ⟨_, _, e, _, _, h⟩ := hu; cases e; exact h)
  obtain ⟨n, hn⟩ : ∃ n, l.length = n := ⟨_, rfl⟩
  have HN := Lib.hid hn
  have HC := Lib.hid (fun x Y => between_any x 1 65535 Y)
  obtain ⟨r, hr⟩ : ∃ r, setB l = r := ⟨_, rfl⟩
  have HR := Lib.hid (show r = (l.all (fun x => betB x 1 65535) && decide (n ≤ 64)) from by rw [← hr, ← hn]; rfl)
  rw [hn] at hl ⊢
  rw [hr]
  clear hu hn hr
  go_enter Tryz.func195, Tryz.ntmps195
  go_wp2_with fail
  go_loopw [7] (fun iv wr => ∃ i : Nat, iv = .int .i64 (i : Int) ∧ i ≤ n ∧ (l.take i).all (fun x => betB x 1 65535) = true ∧ w = wr) (fun iv _ => n - (intOf iv).toNat)
  case atStart => exact ⟨0, rfl, by omega, by simp, rfl⟩
  case round =>
    obtain ⟨i, rfl, hin, hal, rfl⟩ := hrel
    have HAl := Lib.hid hal
    clear hal
    by_cases hlt : i < n
    · obtain ⟨x, ad, hx, rfl, _, hcx⟩ := HA.out.at_ HN.out hlt
      have HX := Lib.hid hx
      have HCx := Lib.hid (HC.out x w)
      obtain ⟨b, hb⟩ : ∃ b, betB x 1 65535 = b := ⟨_, rfl⟩
      rw [hb] at HCx
      have HBb := Lib.hid hb
      clear hx hb
      go_wp2_with fail
      (with_reducible refine HCx.out.mono ?_)
      rintro e w1 ⟨rfl, rfl⟩
      clear HCx
      cases b with
      | false =>
        have HF := Lib.hid (show r = false from by rw [HR.out, all_falseB (g := fun x => betB x 1 65535) HX.out HBb.out]; rfl)
        go_wp2_with fail
        go_ret
        exact ⟨ret_b HF.out.symm, rfl⟩
      | true =>
        have HT := Lib.hid (show (l.take (i + 1)).all (fun x => betB x 1 65535) = true from by rw [all_nextB HX.out, HAl.out, HBb.out]; rfl)
        go_wp2_with fail
        go_roundw
        case rel => exact ⟨i + 1, by go_num, by omega, HT.out, by first | trivial | rfl⟩
        case measure => simp [intOf]; omega
    · obtain rfl : n = i := by omega
      have HT := Lib.hid (show r = decide (n ≤ 64) from by
        have h := HAl.out
        rw [List.take_of_length_le (by rw [HN.out]; exact Nat.le_refl _)] at h
        rw [HR.out, h]; rfl)
      by_cases h64 : n ≤ 64
      · have h64i : (n : Int) ≤ 64 := by omega
        have HF := Lib.hid (show r = true from by rw [HT.out]; simp [h64])
        go_wp2_with fail
        go_ret
        exact ⟨ret_b HF.out.symm, rfl⟩
      · have h64i : ¬ (n : Int) ≤ 64 := by omega
        have HF := Lib.hid (show r = false from by rw [HT.out]; simp [h64])
        go_wp2_with fail
        go_ret
        exact ⟨ret_b HF.out.symm, rfl⟩
set_option maxRecDepth 100000 in
set_option maxHeartbeats 4000000 in
theorem isLine_any (x : Ln) (vs : Value) (w : World) (hv : InSl w w.heap.size vs x.sn) (hl : x.sn.length ≤ 1000000) : Calls Tryz.prog 140 #[lnV x vs] w fun e w' => e = .returned (.bool (lnB x)) ∧ Below w.heap.size w w' := by
  obtain ⟨As, cs, W0, rfl, hW0, hb0, hz, hY⟩ := ln_box hv
  have HW0 := Lib.hid hW0
  have HB0 := Lib.hid hb0
  have HY := Lib.hid hY
  have HC1 := Lib.hid (isID_any x.nm W0)
  have HC2 := Lib.hid (isCount_any x.lo x.hi W0)
  have HC3 := Lib.hid (fun Y (h : Below W0.heap.size W0 Y) => areSets_any _ x.sn Y (hY Y h).2 hl)
  obtain ⟨r, hr⟩ : ∃ r, lnB x = r := ⟨_, rfl⟩
  have HR := Lib.hid (show r = ((idB x.nm && cntB x.lo x.hi) && setB x.sn) from hr.symm)
  obtain ⟨b1, hb1⟩ : ∃ b, idB x.nm = b := ⟨_, rfl⟩
  obtain ⟨b2, hb2⟩ : ∃ b, cntB x.lo x.hi = b := ⟨_, rfl⟩
  obtain ⟨b3, hb3⟩ : ∃ b, setB x.sn = b := ⟨_, rfl⟩
  rw [hb1] at HC1 HR; rw [hb2] at HC2 HR; rw [hb3] at HC3 HR
  rw [hr]
  obtain ⟨⟨c0, c1, c2, c3⟩, _⟩ := hY W0 (Below.refl _ _)
  unfold lnV
  clear hv hl hW0 hb0 hY hr hb1 hb2 hb3 hz
  go_enter Tryz.func140, Tryz.ntmps140
  cases b1 with
  | false =>
    have HF := Lib.hid (show r = false from by rw [HR.out]; rfl)
    go_wp2_with fail
    rw [HW0.out]
    (try go_wp2_with fail)
    (with_reducible refine HC1.out.mono ?_)
    rintro e w1 ⟨rfl, rfl⟩
    go_wp2_with fail
    go_ret
    exact ⟨ret_b HF.out.symm, HB0.out⟩
  | true =>
    go_wp2_with fail
    rw [HW0.out]
    (try go_wp2_with fail)
    (with_reducible refine HC1.out.mono ?_)
    rintro e w1 ⟨rfl, rfl⟩
    go_wp2_with fail
    (with_reducible refine HC2.out.mono ?_)
    rintro e w2 ⟨rfl, hb⟩
    have HB2 := Lib.hid hb
    clear hb c0 c1 c2 c3
    cases b2 with
    | false =>
      have HF := Lib.hid (show r = false from by rw [HR.out]; rfl)
      go_wp2_with fail
      go_ret
      exact ⟨ret_b HF.out.symm, HB0.out.trans (HB2.out.mono HB0.out.size)⟩
    | true =>
      have HF := Lib.hid (show r = b3 from by rw [HR.out]; rfl)
      have HC4 := Lib.hid (HC3.out w2 HB2.out)
      obtain ⟨⟨c0, c1, c2, c3⟩, _⟩ := HY.out w2 HB2.out
      go_wp2_with fail
      (with_reducible refine HC4.out.mono ?_)
      rintro e w3 ⟨rfl, rfl⟩
      go_wp2_with fail
      go_ret
      exact ⟨ret_b HF.out.symm, HB0.out.trans (HB2.out.mono HB0.out.size)⟩
end Go.Proofs.YtijidcigfdblaaaGreatDoor
