/- SameInts, SameLists. -/
import Derived.Test.YtplpogonkfnafaaNmE
namespace Go.Proofs.Ytplpogonkfnafaa
open Go.RowKit Go.Nm

theorem same_next {α : Type} {L M : List α} {i : Nat} {x y : α} (h : ∀ j, j < i → L[j]? = M[j]?) (hx : L[i]? = some x) (hy : M[i]? = some y) (he : x = y) : ∀ j, j < i + 1 → L[j]? = M[j]? := by
  intro j hj
  by_cases h1 : j < i
  · exact h j h1
  · obtain rfl : j = i := by omega
    rw [hx, hy, he]
theorem same_end {α : Type} {L M : List α} {n : Nat} (hL : L.length = n) (hM : M.length = n) (h : ∀ j, j < n → L[j]? = M[j]?) : L = M := by
  apply List.ext_getElem?
  intro j
  by_cases hj : j < n
  · exact h j hj
  · rw [List.getElem?_eq_none (by omega), List.getElem?_eq_none (by omega)]
set_option maxHeartbeats 4000000 in
theorem SameInts_any (u v : Value) (L M : List Int) (w : World) (hu : InSl w w.heap.size u L) (hv : InSl w w.heap.size v M) (hL : L.length ≤ 1000000) (hM : M.length ≤ 1000000) :
    Calls Try.prog 28 #[u, v] w fun e w' => e = .returned (.bool (decide (L = M))) ∧ Below w.heap.size w w' := by
  obtain ⟨A, c, rfl, hc, hcm, hA⟩ := hu
  obtain ⟨B, d, rfl, hd, hdm, hB⟩ := hv
  have HA := Lib.hid hA
  have HB := Lib.hid hB
  obtain ⟨r, hr⟩ : ∃ r, decide (L = M) = r := ⟨_, rfl⟩
  rw [hr]
  have HR := Lib.hid hr
  clear hA hB hr
  generalize hnl : L.length = n at *
  generalize hnm : M.length = m at *
  have HL := Lib.hid hnl
  have HM := Lib.hid hnm
  clear hnl hnm
  by_cases hnm : n = m
  · subst hnm
    go_enter Try.func28, Try.ntmps28
    go_wp2_with fail
    go_loopw [5] (fun iv wr => ∃ i : Nat, iv = .int .i64 (i : Int) ∧ i ≤ n ∧ (∀ j, j < i → L[j]? = M[j]?) ∧ Below w.heap.size w wr) (fun iv _ => n - (intOf iv).toNat)
    case atStart => exact ⟨0, rfl, by omega, fun j hj => absurd hj (by omega), Below.refl _ _⟩
    case round =>
      obtain ⟨i, rfl, hin, hq, hb⟩ := hrel
      have HQ := Lib.hid hq
      have HBl := Lib.hid hb
      by_cases hlt : i < n
      · obtain ⟨x, ad, hx, rfl, hbd, hcx⟩ := (HA.out.below hb).at_ HL.out hlt
        obtain ⟨y, ad2, hy, rfl, hbd2, hcy⟩ := (HB.out.below hb).at_ HM.out hlt
        clear hq hb
        by_cases hxy : x = y
        · have HN := Lib.hid (same_next HQ.out hx hy hxy)
          subst hxy
          clear hx hy hbd hbd2
          go_wp2_with fail
          go_region
          have HB2 := Lib.hid HBl.out.drew
          simp only [Exit.then]
          generalize wr.drew = w3 at *
          go_wp2_with fail
          go_roundw
          case rel => exact ⟨i + 1, by go_num, by omega, HN.out, HB2.out⟩
          case measure => simp [intOf]; omega
        · have HF := Lib.hid (show r = false from by
            rw [← HR.out, decide_eq_false_iff_not]; intro e; subst e; rw [hx] at hy; injection hy with hy; exact hxy hy)
          have hb2 : (x != y) = true := by simpa using hxy
          clear hx hy hbd hbd2
          go_wp2_with fail
          go_region
          have HB2 := Lib.hid HBl.out.drew
          simp only [Exit.then]
          generalize wr.drew = w3 at *
          go_wp2_with fail
          go_ret
          exact ⟨by rw [HF.out]; rfl, HB2.out⟩
      · obtain rfl : i = n := by omega
        have HF := Lib.hid (show r = true from by rw [← HR.out, decide_eq_true_eq]; exact same_end HL.out HM.out HQ.out)
        clear hq hb
        go_wp2_with fail
        go_ret
        exact ⟨by rw [HF.out]; rfl, HBl.out⟩
  · have HF := Lib.hid (show r = false from by rw [← HR.out, decide_eq_false_iff_not]; intro e; apply hnm; rw [← HL.out, ← HM.out, e])
    have hb : ((n : Int) != (m : Int)) = true := by simpa using fun e => hnm (by omega)
    go_enter Try.func28, Try.ntmps28
    go_wp2_with fail
    go_ret
    exact ⟨by rw [HF.out]; rfl, Below.refl _ _⟩
end Go.Proofs.Ytplpogonkfnafaa
