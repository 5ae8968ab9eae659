
/- The reference: Means, part, relation. -/
import Derived.Test.YtplpogonkfnafaaGreatNmMn
import Derived.Test.YtplpogonkfnafaaGreatNmFu
import Derived.Test.YtplpogonkfnafaaGreatNmXm
namespace Go.Proofs.YtplpogonkfnafaaGreat
open Go.RowKit Go.Nm

set_option maxRecDepth 100000 in
set_option maxHeartbeats 8000000 in
theorem rpart_any (u v : Value) (L M : List Int) (w : World) (hu : InSl w w.heap.size u L) (hv : InSl w w.heap.size v M) (hL : L.length ≤ 1000000) (hM : M.length ≤ 1000000) :
    Calls Tryz.prog 64 #[u, v] w fun e w' => e = .returned (.bool (decide (∀ z ∈ L, z ∈ M))) ∧ Below w.heap.size w w' := by
  have HH := Lib.hid (fun z Y (h : Below w.heap.size w Y) => rhas_any v M z Y (hv.step h) hM)
  obtain ⟨Au, cu, rfl, _⟩ := hu.form
  obtain ⟨Av, cv, rfl, _⟩ := hv.form
  have HU := Lib.hid (show InA w w.heap.size Au L from by obtain ⟨_, _, e, _, _, h⟩ := hu; cases e; exact h)
  obtain ⟨r, hr⟩ : ∃ r, decide (∀ z ∈ L, z ∈ M) = r := ⟨_, rfl⟩
  rw [hr]
  have HR := Lib.hid hr
  obtain ⟨n, hn⟩ : ∃ n, L.length = n := ⟨_, rfl⟩
  have HN := Lib.hid hn
  rw [hn] at hL ⊢
  clear hu hv hr hn
  go_enter Tryz.func64, Tryz.ntmps64
  go_wp2_with fail
  go_loopw [5] (fun iv wr => ∃ i : Nat, iv = .int .i64 (i : Int) ∧ i ≤ n ∧ (∀ j z, j < i → L[j]? = some z → z ∈ M) ∧ Below w.heap.size w wr) (fun iv _ => n - (intOf iv).toNat)
  case atStart => exact ⟨0, rfl, by omega, fun j z hj => absurd hj (by omega), Below.refl _ _⟩
  case round =>
    obtain ⟨i, rfl, hin, hq, hb⟩ := hrel
    have HQ := Lib.hid hq
    have HB := Lib.hid hb
    clear hq hb
    by_cases hlt : i < n
    · obtain ⟨z, ad, hz, rfl, _, hcz⟩ := (HU.out.below HB.out).at_ HN.out hlt
      have HZ := Lib.hid hz
      have HH1 := HH.out z wr HB.out
      clear hz
      by_cases hm : z ∈ M
      · rw [decide_eq_true hm] at HH1
        have HNx := Lib.hid (show ∀ j z, j < i + 1 → L[j]? = some z → z ∈ M from fun j y hj hy => by
          by_cases h1 : j < i
          · exact HQ.out j y h1 hy
          · obtain rfl : j = i := by omega
            rw [HZ.out] at hy; injection hy with hy; rw [← hy]; exact hm)
        have HH1 := Lib.hid HH1
        clear hm
        go_wp2_with fail
        (with_reducible refine HH1.out.mono ?_)
        rintro e w2 ⟨rfl, hb⟩
        have HB2 := Lib.hid (HB.out.trans (hb.mono HB.out.size))
        clear hb
        go_wp2_with fail
        go_roundw
        case rel => exact ⟨i + 1, by go_num, by omega, HNx.out, HB2.out⟩
        case measure => simp [intOf]; omega
      · rw [decide_eq_false hm] at HH1
        have HF := Lib.hid (show r = false from by rw [← HR.out, decide_eq_false_iff_not]; exact fun h => hm (h z (List.mem_of_getElem? HZ.out)))
        have HH1 := Lib.hid HH1
        clear hm
        go_wp2_with fail
        (with_reducible refine HH1.out.mono ?_)
        rintro e w2 ⟨rfl, hb⟩
        have HB2 := Lib.hid (HB.out.trans (hb.mono HB.out.size))
        clear hb
        go_wp2_with fail
        go_ret
        exact ⟨ret_b HF.out.symm, HB2.out⟩
    · have HF := Lib.hid (show r = true from by
        rw [← HR.out, decide_eq_true_eq]
        intro z hz
        obtain ⟨j, hj, e⟩ := List.getElem_of_mem hz
        exact HQ.out j z (by have := HN.out; omega) (by rw [← e]; exact List.getElem?_eq_getElem hj))
      go_wp2_with fail
      go_ret
      exact ⟨ret_b HF.out.symm, HB.out⟩
/-- the relation of two sets -/
def rrelF (L M : List Int) : Int := if (∀ z ∈ L, z ∈ M) ∧ (∀ z ∈ M, z ∈ L) then 1 else if ∀ z ∈ L, z ∈ M then 2 else if ∀ z ∈ M, z ∈ L then 3 else if ∃ z ∈ L, z ∈ M then 4 else 0
end Go.Proofs.YtplpogonkfnafaaGreat
