/- holds. -/
import Derived.Test.YtplpogonkfnafaaNmJ
namespace Go.Proofs.Ytplpogonkfnafaa
open Go.RowKit Go.Nm

set_option maxRecDepth 100000 in
set_option maxHeartbeats 4000000 in
theorem holds_any (u : Value) (L : List Int) (x : Int) (w : World) (hu : InSl w w.heap.size u L) (hL : L.length ≤ 1000000) :
    Calls Try.prog 50 #[u, .int .i64 x] w fun e w' => e = .returned (.bool (decide (x ∈ L))) ∧ Below w.heap.size w w' := by
  obtain ⟨A, c, rfl, hc, hcm, hA⟩ := hu
  have HA := Lib.hid hA
  obtain ⟨r, hr⟩ : ∃ r, decide (x ∈ L) = r := ⟨_, rfl⟩
  rw [hr]
  have HR := Lib.hid hr
  clear hA hr
  generalize hnl : L.length = n at *
  have HL := Lib.hid hnl
  clear hnl
  go_enter Try.func50, Try.ntmps50
  go_wp2_with fail
  go_loopw [5] (fun iv wr => ∃ i : Nat, iv = .int .i64 (i : Int) ∧ i ≤ n ∧ (∀ j z, j < i → L[j]? = some z → z ≠ x) ∧ Below w.heap.size w wr) (fun iv _ => n - (intOf iv).toNat)
  case atStart => exact ⟨0, rfl, by omega, fun j z hj => absurd hj (by omega), Below.refl _ _⟩
  case round =>
    obtain ⟨i, rfl, hin, hq, hb⟩ := hrel
    have HQ := Lib.hid hq
    have HBl := Lib.hid hb
    by_cases hlt : i < n
    · obtain ⟨y, ad, hy, rfl, hbd, hcy⟩ := (HA.out.below hb).at_ HL.out hlt
      clear hq hb
      by_cases hxy : y = x
      · have HF := Lib.hid (show r = true from by rw [← HR.out, decide_eq_true_eq, ← hxy]; exact List.mem_of_getElem? hy)
        subst hxy
        clear hy hbd
        go_wp2_with fail
        go_ret
        exact ⟨by rw [HF.out]; rfl, HBl.out⟩
      · have HN := Lib.hid (show ∀ j z, j < i + 1 → L[j]? = some z → z ≠ x from fun j z hj hz => by
          by_cases h1 : j < i
          · exact HQ.out j z h1 hz
          · obtain rfl : j = i := by omega
            rw [hy] at hz; injection hz with hz; rw [← hz]; exact hxy)
        have hb2 : (y == x) = false := by simpa using hxy
        clear hy hbd
        go_wp2_with fail
        go_roundw
        case rel => exact ⟨i + 1, by go_num, by omega, HN.out, HBl.out⟩
        case measure => simp [intOf]; omega
    · obtain rfl : i = n := by omega
      have HF := Lib.hid (show r = false from by
        rw [← HR.out, decide_eq_false_iff_not]; intro hm
        obtain ⟨j, hj, e⟩ := List.getElem_of_mem hm
        exact HQ.out j x (by have := HL.out; omega) (by rw [← e]; exact List.getElem?_eq_getElem hj) rfl)
      clear hq hb
      go_wp2_with fail
      go_ret
      exact ⟨by rw [HF.out]; rfl, HBl.out⟩
end Go.Proofs.Ytplpogonkfnafaa
