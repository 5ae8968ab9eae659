/- THE ROW: KeysConfusion. -/
import Derived.Test.YthfegbcbpeedbaaDoorKyRj
import Derived.Test.YthfegbcbpeedbaaDoorKyRj
import Derived.Test.YthfegbcbpeedbaaDoorKyCm
namespace Go.Proofs.YthfegbcbpeedbaaDoor
open Go.ChangeShapes Go.WideShapes Go.ChangeAt Go.RowKit Go.Nm Go.Ky Go.Deep Go.Joins

set_option maxRecDepth 100000 in
theorem confusion_lifted (os : Os) (started : os.Started) (H : Type) (enc : TypeId × Value → H) :
    ReturnsInHanded {} Tryd.checked os 13 .any (fun w args => (Rows.keysConfusionSpec.pre enc Tryd.prog Tryd.f13 [] false w args ∧ laidMetH Tryd.prog laid2 w) ∧ sizedMet enc Tryd.prog Tryd.f13 (OpenSpec.ofChange Rows.keysConfusionSpec) false w args)
      (Rows.keysConfusionSpec.post enc Tryd.prog Tryd.f13 false true false false) := by
  refine returnsInHanded_of_change_and (C := Tryd.checked) (X := fun w _ => laidMetH Tryd.prog laid2 w) (fun _ _ _ hh h => h.of_heap hh) ownKnobNone started (by kernel_rfl) Tryd.func13
    (ChangeSpec.witness_shaped (enc := enc) (C := Tryd.checked) (os := os) (X := fun w _ => laidMetH Tryd.prog laid2 w) false (World.doorLaid Tryd.prog 400 os) #[.agg #[.slice none 0 0, .slice none 0 0], .agg #[.slice none 0 0, .slice none 0 0]] 8 rfl (World.shaped_of_RefB (by kernel_rfl) (by kernel_rfl)) (by kernel_rfl) (by kernel_rfl) (by kernel_rfl) (door_met os _)) ?_
  intro W base args ds gs before hval0 hW _ _ hL _
  have hval : ∀ (j : Nat) t v, Tryd.f13.params[j]? = some t → args[j]? = some v → Value.okWide Tryd.prog W .any base t v := hval0
  have hW' := hW
  have hlt : ∀ x ∈ before, x.block < W.heap.size := fun x hx => hW'.lt x hx
  obtain ⟨p, q, hA0, hV, rfl, hfz, hnd⟩ := hW
  have hA : DataW.TrodAll enc Tryd.prog W 0 (fun _ => true) true Tryd.f13.params.toList args.toList ds p := hA0
  rw [Tryd.params13] at hA hval
  obtain ⟨v0, v1, d0, d1, p0, p1, rfl, rfl, rfl, h0, h1⟩ := trodAll_two hA
  obtain ⟨rfl, rfl⟩ := trodVars_none hV
  have g0 := h0
  have g1 := h1
  obtain ⟨m, M0⟩ := open_matrix (hval 0 _ _ rfl rfl) h0
  obtain ⟨k, K0⟩ := open_key (hval 1 _ _ rfl rfl) h1
  refine (KeysConfusion_any v0 v1 m k W M0 K0 (of_laid hL)).mono fun e W' ⟨he, hb⟩ => ?_
  subst he
  refine ⟨_, rfl, law_post hW' (trodAll_mk1 (shut_bool Tryd.underlying4 _)) ?_ rfl hb⟩
  have k0 := Below.trod laidOut (by kernel_rfl) (by decide +kernel) g0 hb (fun x hx => hlt x (by simp [hx]))
  have k1 := Below.trod laidOut (by kernel_rfl) (by decide +kernel) g1 hb (fun x hx => hlt x (by simp [hx]))
  have hh := trodAll_mk2 k0 k1
  first | (rw [List.append_nil (p0 ++ p1)]; exact hh) | (rw [show p0 ++ p1 ++ [] = p0 ++ p1 from by simp]; exact hh)

theorem confusion_said : Rows.KeysConfusionSaid :=
  OpenClaim.holds_of_wide 13 Tryd.f13 rfl rfl rfl rfl rfl rfl rfl ⟨rfl, rfl, rfl, rfl, rfl⟩ rfl rfl rfl rfl rfl (by kernel_rfl) Tryd.func13 (by kernel_rfl)
    (of_decide_eq_true (by kernel_rfl)) (by unfold Func.isWrapper; first | (rw [if_pos (by decide +kernel)]; kernel_rfl) | (rw [if_neg (by decide +kernel)]; exact ⟨rfl, rfl⟩))
    (fun os started H enc _ => confusion_lifted os started H enc)

theorem confusion_holds : Rows.KeysConfusionCardSaid :=
  Claim7.holds_tied_plain_at .later [] [.data, .data] true (true, "34135ab7e2f928a54a97d77730561f349d28a3cfcc3f221443215a78dd19334e") false
    confusion_said (fun _ h => by cases h) (by kernel_rfl) (fun _ h => by cases h) keysConfusion_row_tie rfl ⟨rfl, rfl⟩ (by kernel_rfl) rfl
    (fun f fn hf hfn => by
      obtain rfl : f = 13 := Option.some.inj ((show Tryd.prog.funcNamed "noctuary/noctuarylaw03.KeysConfusion" = some 13 by kernel_rfl).symm.trans hf) |>.symm
      obtain rfl : fn = Tryd.f13 := (Option.some.inj (Tryd.func13.symm.trans hfn)).symm
      exact ⟨by kernel_rfl, fun j t ht => by
        rw [Tryd.params13] at ht
        have hm : t ∈ [25, 53] := by simpa using Array.mem_of_getElem? ht
        have hall : ([25, 53].all fun u => !Tryd.prog.wantsStandIn u) = true := by kernel_rfl
        exact (show Tryd.prog.wantsStandIn t = false by simpa using List.all_eq_true.1 hall t hm)⟩)
    (by kernel_rfl)
#print axioms confusion_holds
end Go.Proofs.YthfegbcbpeedbaaDoor
