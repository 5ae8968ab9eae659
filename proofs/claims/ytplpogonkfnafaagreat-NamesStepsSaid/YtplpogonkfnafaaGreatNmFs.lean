
/- The reference: goes; the loops of its fates. -/
import Derived.Test.YtplpogonkfnafaaGreatNmQC
import Derived.Test.YtplpogonkfnafaaGreatNmFr
import Derived.Test.YtplpogonkfnafaaGreatNmSl
import Derived.Test.YtplpogonkfnafaaGreatNmRg
namespace Go.Proofs.YtplpogonkfnafaaGreat
open Go.RowKit Go.Nm

/-- the names that a name may become -/
def goesF (c : Ch) (z : Int) : List Int := if z ∈ c.fr then c.to else [z]
set_option maxRecDepth 100000 in
set_option maxHeartbeats 4000000 in
theorem rgoes_any (vf vt : Value) (c : Ch) (z : Int) (w : World) (hf : InSl w w.heap.size vf c.fr) (ht : InSl w w.heap.size vt c.to) (hF : c.fr.length ≤ 100000) :
    Calls Tryz.prog 75 #[.agg #[.int .i64 c.yr, vf, vt], .int .i64 z] w fun e w' => (∃ r, e = .returned r ∧ InSl w' w'.heap.size r (goesF c z) ∧ (r = vt ∨ ∃ g, r = .slice (some ⟨g, 0, none⟩) 1 1 ∧ w.heap.size ≤ g ∧ g < w'.heap.size)) ∧ Below w.heap.size w w' := by
  obtain ⟨Af, cf, rfl, _⟩ := hf.form
  obtain ⟨At, ct, rfl, _⟩ := ht.form
  obtain ⟨W0, hW0⟩ : ∃ W0, w.alloc (.cells #[.int .i64 c.yr, .slice Af c.fr.length cf, .slice At c.to.length ct] 52) = W0 := ⟨_, rfl⟩
  have hb0 : Below w.heap.size w W0 := by rw [← hW0]; exact below_new _
  have HB0 := Lib.hid hb0
  have HTo := Lib.hid (ht.step hb0)
  have HBx := Lib.hid (show ∀ Y, Below W0.heap.size W0 Y → Y.cell? ⟨w.heap.size, 0, none⟩ = some (.int .i64 c.yr) ∧ Y.cell? ⟨w.heap.size, 1, none⟩ = some (.slice Af c.fr.length cf) ∧ Y.cell? ⟨w.heap.size, 2, none⟩ = some (.slice At c.to.length ct) from fun Y hY => by
    have h := World.alloc_heap_new w (.cells #[.int .i64 c.yr, .slice Af c.fr.length cf, .slice At c.to.length ct] 52)
    rw [hW0] at h
    exact cells_three ((hY.block _ (Array.getElem?_eq_some_iff.1 h).1).trans h))
  have HH := Lib.hid (rhas_any _ c.fr z W0 (hf.step hb0) (by omega))
  have HW0 := Lib.hid hW0
  clear hf ht hb0 hW0
  obtain ⟨d0, d1, d2⟩ := HBx.out W0 (Below.refl _ _)
  by_cases hz : z ∈ c.fr
  · rw [decide_eq_true hz] at HH
    have HG := Lib.hid (show goesF c z = c.to from if_pos hz)
    clear hz
    go_enter Tryz.func75, Tryz.ntmps75
    go_wp2_with fail
    rw [HW0.out]
    (with_reducible refine HH.out.mono ?_)
    rintro e w1 ⟨rfl, hb⟩
    have HB1 := Lib.hid hb
    clear hb d0 d1 d2
    obtain ⟨d0, d1, d2⟩ := HBx.out w1 HB1.out
    go_wp2_with fail
    go_ret
    exact ⟨⟨_, rfl, by rw [HG.out]; exact HTo.out.step HB1.out, .inl rfl⟩, HB0.out.trans (HB1.out.mono HB0.out.size)⟩
  · rw [decide_eq_false hz] at HH
    have HG := Lib.hid (show goesF c z = [z] from if_neg hz)
    clear hz
    go_enter Tryz.func75, Tryz.ntmps75
    go_wp2_with fail
    rw [HW0.out]
    (with_reducible refine HH.out.mono ?_)
    rintro e w1 ⟨rfl, hb⟩
    have HB1 := Lib.hid hb
    clear hb d0 d1 d2
    go_wp2_with fail
    go_ret
    exact ⟨⟨_, rfl, by rw [HG.out]; exact one_sl w1 z, .inr ⟨_, rfl, (HB0.out.trans (HB1.out.mono HB0.out.size)).size, by simp⟩⟩, HB0.out.trans ((HB1.out.trans ((below_new _).mono HB1.out.size)).mono HB0.out.size)⟩
end Go.Proofs.YtplpogonkfnafaaGreat
