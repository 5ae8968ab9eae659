/- For every book of names and every two versions NamesTurns answers true, and the arguments read as before. No condition. -/
import Derived.Test.YtplpogonkfnafaaNmBa
import Derived.Test.YtplpogonkfnafaaNmTw
namespace Go.Proofs.Ytplpogonkfnafaa
open Go.ChangeShapes Go.WideShapes Go.RowKit Go.Nm Go.Joins

set_option maxRecDepth 100000 in
theorem namesTurns_lifted (os : Os) (started : os.Started) (H : Type) (enc : TypeId × Value → H) :
    ReturnsInHanded {} Try.checked os 9 .any (Rows.namesTurnsSpec.pre6 enc Try.prog Try.f9 Rows.namesTurnsRow.domain false) (Rows.namesTurnsSpec.post enc Try.prog Try.f9 false true false false) := by
  refine returnsInHanded_of_change (C := Try.checked) ownKnobNone started (by kernel_rfl) Try.func9
    (ChangeSpec.witness6 (enc := enc) (C := Try.checked) false ⟨#[], #[.agg #[.slice none 0 0, .slice none 0 0], .int .i64 0, .int .i64 0], []⟩ 8 (by kernel_rfl) (by kernel_rfl) (by kernel_rfl) (by kernel_rfl)) ?_
  intro W base args ds gs before hval0 hW _ _
  have hval : ∀ (j : Nat) t v, Try.f9.params[j]? = some t → args[j]? = some v → Value.okWide Try.prog W .any base t v := hval0
  have hW' := hW
  have hlt0 : ∀ x ∈ before, x.block < W.heap.size := fun x hx => hW'.lt x hx
  obtain ⟨p, q, hA0, hV, rfl, hfz, hnd⟩ := hW
  have hA : DataW.TrodAll enc Try.prog W 0 (fun _ => true) true Try.f9.params.toList args.toList ds p := hA0
  rw [Try.params9] at hA hval
  obtain ⟨v0, v1, v2, d0, d1, d2, p0, p1, p2, rfl, rfl, rfl, h0, h1, h2⟩ := trodAll_three hA
  obtain ⟨rfl, rfl⟩ := trodVars_none hV
  have g0 := h0
  have g1 := h1
  have g2 := h2
  obtain ⟨b0, vc0, B0⟩ := open_book (hval 0 _ _ rfl rfl) h0
  obtain ⟨z1, rfl, rfl, rfl, w1⟩ := open_int Try.underlying3 (hval 1 _ _ rfl rfl) h1
  obtain ⟨z2, rfl, rfl, rfl, w2⟩ := open_int Try.underlying3 (hval 2 _ _ rfl rfl) h2
  refine (NamesTurns_any _ _ b0 z1 z2 W B0).mono fun e W' ⟨he, hb⟩ => ?_
  subst he
  have hlt := hlt0
  refine ⟨_, rfl, law_post hW' (trodAll_mk1 (shut_bool Try.underlying4 _)) ?_ rfl hb⟩
  have k0 := Below.trod laidOut (by kernel_rfl) (by decide +kernel) g0 hb (fun x hx => hlt x (by simp [hx]))
  have k1 := Below.trod laidOut (by kernel_rfl) (by decide +kernel) g1 hb (fun x hx => nomatch hx)
  have k2 := Below.trod laidOut (by kernel_rfl) (by decide +kernel) g2 hb (fun x hx => nomatch hx)
  have hh := trodAll_mk3 k0 k1 k2
  rw [show p0 ++ [] ++ [] ++ [] = p0 ++ ([] ++ []) from by simp]
  exact hh

theorem namesTurns_said : Rows.NamesTurnsSaid :=
  OpenClaim.holds_of_wide 9 Try.f9 rfl rfl rfl rfl rfl rfl rfl ⟨rfl, rfl, rfl, rfl, rfl⟩ rfl rfl rfl rfl rfl (by kernel_rfl) Try.func9 (by kernel_rfl)
    (of_decide_eq_true (by kernel_rfl)) (by unfold Func.isWrapper; first | (rw [if_pos (by decide +kernel)]; kernel_rfl) | (rw [if_neg (by decide +kernel)]; exact ⟨rfl, rfl⟩))
    (fun os started H enc _ => namesTurns_lifted os started H enc)
#print axioms namesTurns_said
end Go.Proofs.Ytplpogonkfnafaa
