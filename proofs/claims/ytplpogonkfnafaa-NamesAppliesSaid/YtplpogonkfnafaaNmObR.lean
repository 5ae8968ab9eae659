/- For every book of names, question and change NamesApplies answers true, and the arguments read as before. No condition. -/
import Derived.Test.YtplpogonkfnafaaNmBa
import Derived.Test.YtplpogonkfnafaaNmOb
namespace Go.Proofs.Ytplpogonkfnafaa
open Go.ChangeShapes Go.WideShapes Go.RowKit Go.Nm Go.Joins

set_option maxRecDepth 100000 in
theorem namesApplies_lifted (os : Os) (started : os.Started) (H : Type) (enc : TypeId × Value → H) :
    ReturnsInHanded {} Try.checked os 12 .any (Rows.namesAppliesSpec.pre6 enc Try.prog Try.f12 Rows.namesAppliesRow.domain false) (Rows.namesAppliesSpec.post enc Try.prog Try.f12 false true false false) := by
  refine returnsInHanded_of_change (C := Try.checked) ownKnobNone started (by kernel_rfl) Try.func12
    (ChangeSpec.witness6 (enc := enc) (C := Try.checked) false ⟨#[], #[.agg #[.slice none 0 0, .slice none 0 0], .agg #[.int .i64 0, .int .i64 0, .int .i64 0, .int .i64 0, .int .i64 0, .slice none 0 0], .agg #[.int .i64 0, .slice none 0 0, .slice none 0 0]], []⟩ 8 (by kernel_rfl) (by kernel_rfl) (by kernel_rfl) (by kernel_rfl)) ?_
  intro W base args ds gs before hval0 hW _ _
  have hval : ∀ (j : Nat) t v, Try.f12.params[j]? = some t → args[j]? = some v → Value.okWide Try.prog W .any base t v := hval0
  have hW' := hW
  have hlt0 : ∀ x ∈ before, x.block < W.heap.size := fun x hx => hW'.lt x hx
  obtain ⟨p, q, hA0, hV, rfl, hfz, hnd⟩ := hW
  have hA : DataW.TrodAll enc Try.prog W 0 (fun _ => true) true Try.f12.params.toList args.toList ds p := hA0
  rw [Try.params12] at hA hval
  obtain ⟨v0, v1, v2, d0, d1, d2, p0, p1, p2, rfl, rfl, rfl, h0, h1, h2⟩ := trodAll_three hA
  obtain ⟨rfl, rfl⟩ := trodVars_none hV
  have g0 := h0
  have g1 := h1
  have g2 := h2
  obtain ⟨b0, vc0, B0⟩ := open_book (hval 0 _ _ rfl rfl) h0
  obtain ⟨aV, aW, aX, aY, aR, u1, L1, rfl, S1⟩ := open_ask (hval 1 _ _ rfl rfl) h1
  obtain ⟨c2, vf2, vt2, rfl, S2f, S2t⟩ := open_change (hval 2 _ _ rfl rfl) h2
  refine (NamesApplies_any _ _ _ _ _ b0 aV aW aX aY aR L1 c2 W B0 S1 S2f S2t).mono fun e W' ⟨he, hb⟩ => ?_
  subst he
  have hlt := hlt0
  refine ⟨_, rfl, law_post hW' (trodAll_mk1 (shut_bool Try.underlying4 _)) ?_ rfl hb⟩
  have k0 := Below.trod laidOut (by kernel_rfl) (by decide +kernel) g0 hb (fun x hx => hlt x (by simp [hx]))
  have k1 := Below.trod laidOut (by kernel_rfl) (by decide +kernel) g1 hb (fun x hx => hlt x (by simp [hx]))
  have k2 := Below.trod laidOut (by kernel_rfl) (by decide +kernel) g2 hb (fun x hx => hlt x (by simp [hx]))
  have hh := trodAll_mk3 k0 k1 k2
  first | (rw [List.append_nil (p0 ++ (p1 ++ p2))]; exact hh) | (rw [show p0 ++ p1 ++ p2 ++ [] = p0 ++ (p1 ++ p2) from by simp]; exact hh)

theorem namesApplies_said : Rows.NamesAppliesSaid :=
  OpenClaim.holds_of_wide 12 Try.f12 rfl rfl rfl rfl rfl rfl rfl ⟨rfl, rfl, rfl, rfl, rfl⟩ rfl rfl rfl rfl rfl (by kernel_rfl) Try.func12 (by kernel_rfl)
    (of_decide_eq_true (by kernel_rfl)) (by unfold Func.isWrapper; first | (rw [if_pos (by decide +kernel)]; kernel_rfl) | (rw [if_neg (by decide +kernel)]; exact ⟨rfl, rfl⟩))
    (fun os started H enc _ => namesApplies_lifted os started H enc)
#print axioms namesApplies_said
end Go.Proofs.Ytplpogonkfnafaa
