/- has, hasAll, hasSome: searching a version. -/
import Derived.Test.YtplpogonkfnafaaNmG
namespace Go.Proofs.Ytplpogonkfnafaa
open Go.RowKit Go.Nm

set_option maxHeartbeats 1000000 in
theorem isNaN1_any (x : Int) (w : World) : Calls Try.prog 123 #[.int .i64 x] w fun e w' => e = .returned (.bool false) ∧ w = w' := by
  go_enter Try.func123, Try.ntmps123
  go_wp2_with fail
  go_ret
  exact ⟨ret_b (by simp), rfl⟩
set_option maxHeartbeats 1000000 in
theorem isNaN2_any (x : Int) (w : World) : Calls Try.prog 117 #[.int .i64 x] w fun e w' => e = .returned (.bool false) ∧ w = w' := by
  go_enter Try.func117, Try.ntmps117
  go_wp2_with fail
  go_ret
  exact ⟨ret_b (by simp), rfl⟩
set_option maxHeartbeats 1000000 in
theorem less_any (x y : Int) (w : World) : Calls Try.prog 116 #[.int .i64 x, .int .i64 y] w fun e w' => e = .returned (.bool (decide (x < y))) ∧ w = w' := by
  have HN := Lib.hid (fun w => isNaN1_any x w)
  go_enter Try.func116, Try.ntmps116
  go_wp2_with fail
  refine (HN.out _).mono ?_
  rintro e w1 ⟨rfl, rfl⟩
  go_wp2_with fail
  go_ret
  exact ⟨ret_b (by simp), rfl⟩
set_option maxRecDepth 100000 in
set_option maxHeartbeats 4000000 in
theorem search_any (u : Value) (L : List Int) (x : Int) (w : World) (hu : InSl w w.heap.size u L) (hs : Inc L) (hn : L.length ≤ 1000000) :
    Calls Try.prog 98 #[u, .int .i64 x] w fun e w' => (∃ p : Int, e = .returned (.tuple #[.int .i64 p, .bool (decide (x ∈ L))])) ∧ w = w' := by
  obtain ⟨A, c, rfl, hc, hcm, hA⟩ := hu
  have HA := Lib.hid hA
  have HS := Lib.hid hs
  clear hA hs hc hcm
  generalize hnl : L.length = n at *
  have HL := Lib.hid hnl
  clear hnl
  obtain ⟨r, hr⟩ : ∃ r, decide (x ∈ L) = r := ⟨_, rfl⟩
  rw [hr]
  have HR := Lib.hid hr
  clear hr
  go_enter Try.func98, Try.ntmps98
  go_wp2_with fail
  go_loop [7, 8] (fun a b => ∃ i j : Nat, a = .int .i64 (i : Int) ∧ b = .int .i64 (j : Int) ∧ i ≤ j ∧ j ≤ n ∧ (∀ k y, k < i → L[k]? = some y → y < x) ∧ (∀ k y, j ≤ k → L[k]? = some y → x ≤ y)) (fun a b => (intOf b - intOf a).toNat)
  case atStart => exact ⟨0, n, rfl, rfl, by omega, by omega, fun k y h => absurd h (by omega), fun k y h e => by have := (List.getElem?_eq_some_iff.1 e).1; have := HL.out; omega⟩
  case round =>
    obtain ⟨i, j, rfl, rfl, hij, hjn, hlo, hhi⟩ := hrel
    have HQ := Lib.hid (And.intro hlo hhi)
    clear hlo hhi
    by_cases hlt : i < j
    · obtain ⟨h, hh⟩ : ∃ h, (i + j) / 2 = h := ⟨_, rfl⟩
      have hh1 : i ≤ h := by omega
      have hh2 : h < j := by omega
      have hw : IntKind.i64.wrap ((i : Int) + (j : Int)) = ((i + j : Nat) : Int) := by rw [IntWalk.i64_in _ (by omega)]; omega
      obtain ⟨y, ad, hy, rfl, hb, hcy⟩ := HA.out.at_ (i := h) HL.out (by omega)
      have HY := Lib.hid hy
      have HLs := Lib.hid (fun w => less_any y x w)
      clear hy
      by_cases hyx : y < x
      · rw [decide_eq_true hyx] at HLs
        go_wp2_with fail
        refine (HLs.out _).mono ?_
        rintro e w1 ⟨rfl, rfl⟩
        go_wp2_with fail
        have HN := Lib.hid (show ∀ k z, k < h + 1 → L[k]? = some z → z < x from fun k z hk hz => by
          have := inc_le HS.out hz HY.out (by omega); omega)
        go_round
        case rel => exact ⟨h + 1, j, by go_num, rfl, by omega, hjn, HN.out, HQ.out.2⟩
        case measure => simp [intOf]; omega
      · rw [decide_eq_false hyx] at HLs
        go_wp2_with fail
        refine (HLs.out _).mono ?_
        rintro e w1 ⟨rfl, rfl⟩
        go_wp2_with fail
        have HN := Lib.hid (show ∀ k z, h ≤ k → L[k]? = some z → x ≤ z from fun k z hk hz => by
          have := inc_le HS.out HY.out hz hk; omega)
        go_round
        case rel => exact ⟨i, h, rfl, by go_num, by omega, by omega, HQ.out.1, HN.out⟩
        case measure => simp [intOf]; omega
    · obtain rfl : i = j := by omega
      by_cases hin : i < n
      · obtain ⟨y, ad, hy, rfl, hb, hcy⟩ := HA.out.at_ (i := i) HL.out hin
        by_cases hyx : y = x
        · have HF := Lib.hid (show r = true from by rw [← HR.out, decide_eq_true_eq, ← hyx]; exact List.mem_of_getElem? hy)
          clear hy
          subst hyx
          go_wp2_with fail
          go_ret2
          exact ⟨⟨_, by rw [HF.out]; rfl⟩, rfl⟩
        · have HF := Lib.hid (show r = false from by
            rw [← HR.out, decide_eq_false_iff_not]
            intro hm
            obtain ⟨k, hk, e⟩ := List.getElem_of_mem hm
            have hkx : L[k]? = some x := by rw [← e]; exact List.getElem?_eq_getElem hk
            rcases Nat.lt_or_ge k i with h | h
            · have := HQ.out.1 k x h hkx; omega
            · have h1 := HQ.out.2 i y (Nat.le_refl _) hy
              have h2 := inc_le HS.out hy hkx h
              omega)
          have HN := Lib.hid (fun (z : Int) (w : World) => isNaN2_any z w)
          have hb2 : (y == x) = false := by simpa using hyx
          clear hy
          go_wp2_with fail
          refine (HN.out _ _).mono ?_
          rintro e w1 ⟨rfl, rfl⟩
          go_wp2_with fail
          go_ret2
          exact ⟨⟨_, by rw [HF.out]; rfl⟩, rfl⟩
      · have HF := Lib.hid (show r = false from by
          rw [← HR.out, decide_eq_false_iff_not]
          intro hm
          obtain ⟨k, hk, e⟩ := List.getElem_of_mem hm
          have hkx : L[k]? = some x := by rw [← e]; exact List.getElem?_eq_getElem hk
          have := HQ.out.1 k x (by have := HL.out; omega) hkx; omega)
        go_wp2_with fail
        go_ret2
        exact ⟨⟨_, by rw [HF.out]; rfl⟩, rfl⟩
set_option maxHeartbeats 2000000 in
theorem has_any (u : Value) (L : List Int) (x : Int) (w : World) (hu : InSl w w.heap.size u L) (hs : Inc L) (hn : L.length ≤ 1000000) :
    Calls Try.prog 66 #[u, .int .i64 x] w fun e w' => e = .returned (.bool (decide (x ∈ L))) ∧ w = w' := by
  have HC := Lib.hid (search_any u L x w hu hs hn)
  obtain ⟨A, c, rfl, _⟩ := hu.form
  clear hu hs hn
  generalize decide (x ∈ L) = r at *
  go_enter Try.func66, Try.ntmps66
  go_wp2_with fail
  refine HC.out.mono ?_
  rintro e w1 ⟨⟨p, rfl⟩, rfl⟩
  go_wp2_with fail
  go_ret
  exact ⟨rfl, rfl⟩
set_option maxHeartbeats 2000000 in
theorem hasAll_any (u v : Value) (L M : List Int) (w : World) (hu : InSl w w.heap.size u L) (hv : InSl w w.heap.size v M) (hn : L.length ≤ 1000000) (hm : M.length ≤ 1000000) :
    Calls Try.prog 79 #[u, v] w fun e w' => e = .returned (.bool (decide (wo M L = []))) ∧ Below w.heap.size w w' := by
  have HC := Lib.hid (without_any v u M L w hv hu hm hn)
  obtain ⟨A, c, rfl, _⟩ := hu.form
  obtain ⟨B, d, rfl, _⟩ := hv.form
  clear hu hv hn
  obtain ⟨b, hb⟩ : ∃ b, decide (wo M L = []) = b := ⟨_, rfl⟩
  rw [hb]
  have HBb := Lib.hid hb
  clear hb
  generalize wo M L = W at *
  go_enter Try.func79, Try.ntmps79
  go_wp2_with fail
  refine HC.out.mono ?_
  rintro e w1 ⟨r, rfl, hO⟩
  have HB := Lib.hid hO.bel
  obtain ⟨A1, c1, rfl, _⟩ := hO.sl.form
  have HF := Lib.hid (show ((W.length : Int) == 0) = b from by rw [← HBb.out, Bool.eq_iff_iff, decide_eq_true_iff, beq_iff_eq, ← List.length_eq_zero_iff]; omega)
  clear hO
  generalize W.length = m at *
  go_wp2_with fail
  go_ret
  exact ⟨ret_b HF.out, HB.out⟩
end Go.Proofs.Ytplpogonkfnafaa
