/- PlacesFamily answers true for any two squares and any two integers: a square is among the children of its parent, and the parent of its children; of two squares one lies in the other one, or they cover nothing in common; to blur by one level and then by another one is to blur by the greater one. Condition: the listed package variables read as the program's own text lays them when the call begins; the card ties that to the text. -/
import Derived.Test.YtabolonlkocopaaDoorRowB
import Derived.Test.YtabolonlkocopaaDoorFamW
namespace Go.Proofs.YtabolonlkocopaaDoor
open Go.ChangeShapes Go.ChangeMaps Go.WideShapes Go.ChangeAt Go.RowKit Go.Plc Go.Joins

set_option maxRecDepth 100000 in
theorem family_lifted (os : Os) (started : os.Started) (H : Type) (enc : TypeId × Value → H) :
    ReturnsInHanded {} Tryd.checked os 5 .any (fun w args => (Rows.placesFamilySpec.pre enc Tryd.prog Tryd.f5 [] false w args ∧ laidMetH Tryd.prog laid4 w) ∧ sizedMet enc Tryd.prog Tryd.f5 (OpenSpec.ofChange Rows.placesFamilySpec) false w args)
      (Rows.placesFamilySpec.post enc Tryd.prog Tryd.f5 false true false false) := by
  refine returnsInHanded_of_change_and (C := Tryd.checked) (X := fun w _ => laidMetH Tryd.prog laid4 w) (fun _ _ _ hh h => h.of_heap hh) ownKnobNone started (by kernel_rfl) Tryd.func5
    (ChangeSpec.witness_shaped (enc := enc) (C := Tryd.checked) (os := os) (X := fun w _ => laidMetH Tryd.prog laid4 w) false (World.doorLaid Tryd.prog 400 os) #[.agg #[.int .i64 0, .int .i64 0, .int .i64 0], .agg #[.int .i64 0, .int .i64 0, .int .i64 0], .int .i64 0, .int .i64 0] 8 rfl (World.shaped_of_RefB (by kernel_rfl) (by kernel_rfl)) (by kernel_rfl) (by kernel_rfl) (by kernel_rfl) (door_met os _)) ?_
  intro W base args ds gs before hval0 hW _ _ hL _
  have hval : ∀ (j : Nat) t v, Tryd.f5.params[j]? = some t → args[j]? = some v → Value.okWide Tryd.prog W .any base t v := hval0
  have hW' := hW
  obtain ⟨p, q, hA0, hV, rfl, hfz, hnd⟩ := hW
  have hA : DataW.TrodAll enc Tryd.prog W 0 (fun _ => true) true Tryd.f5.params.toList args.toList ds p := hA0
  rw [Tryd.params5] at hA hval
  obtain ⟨v0, v1, v2, v3, d0, d1, d2, d3, p0, p1, p2, p3, rfl, rfl, rfl, h0, h1, h2, h3⟩ := trodAll_four hA
  obtain ⟨rfl, rfl⟩ := trodVars_none hV
  obtain ⟨u0, u1, u2, y0, y1, y2, n0, rfl, rfl, rfl, g0, g1, g2⟩ := open_agg3 Tryd.underlying23 (by kernel_rfl) (by kernel_rfl) (hval 0 _ _ rfl rfl) h0
  obtain ⟨a00, e0, rfl, wa00⟩ := DataW.trod_int Tryd.underlying3 g0
  obtain ⟨a01, e1, rfl, wa01⟩ := DataW.trod_int Tryd.underlying3 g1
  obtain ⟨a02, e2, rfl, wa02⟩ := DataW.trod_int Tryd.underlying3 g2
  simp only [List.cons.injEq, and_true] at e0 e1 e2
  subst e0; subst e1; subst e2
  have ia00 := bounds_i64 wa00
  have ia01 := bounds_i64 wa01
  have ia02 := bounds_i64 wa02
  obtain ⟨u0, u1, u2, y0, y1, y2, n1, rfl, rfl, rfl, g0, g1, g2⟩ := open_agg3 Tryd.underlying23 (by kernel_rfl) (by kernel_rfl) (hval 1 _ _ rfl rfl) h1
  obtain ⟨a10, e0, rfl, wa10⟩ := DataW.trod_int Tryd.underlying3 g0
  obtain ⟨a11, e1, rfl, wa11⟩ := DataW.trod_int Tryd.underlying3 g1
  obtain ⟨a12, e2, rfl, wa12⟩ := DataW.trod_int Tryd.underlying3 g2
  simp only [List.cons.injEq, and_true] at e0 e1 e2
  subst e0; subst e1; subst e2
  have ia10 := bounds_i64 wa10
  have ia11 := bounds_i64 wa11
  have ia12 := bounds_i64 wa12
  obtain ⟨a2, rfl, rfl, rfl, wa2⟩ := open_int Tryd.underlying3 (hval 2 _ _ rfl rfl) h2
  have ia2 := bounds_i64 wa2
  obtain ⟨a3, rfl, rfl, rfl, wa3⟩ := open_int Tryd.underlying3 (hval 3 _ _ rfl rfl) h3
  have ia3 := bounds_i64 wa3
  obtain ⟨hM, hT⟩ := of_laid hL
  refine (PlacesFamily_any ⟨a00, a01, a02⟩ ⟨a10, a11, a12⟩ a2 a3 W hM hT).mono fun e W' ⟨he, hb⟩ => ?_
  subst he
  refine ⟨_, rfl, law_post hW' (trodAll_mk1 (shut_bool Tryd.underlying4 _)) ?_ rfl hb⟩
  exact trodAll_mk4 (shut_agg3 Tryd.underlying23 (by kernel_rfl) (by kernel_rfl) (y0 := (_, [])) (y1 := (_, [])) (y2 := (_, [])) (shut_int Tryd.underlying3 wa00) (shut_int Tryd.underlying3 wa01) (shut_int Tryd.underlying3 wa02)) (shut_agg3 Tryd.underlying23 (by kernel_rfl) (by kernel_rfl) (y0 := (_, [])) (y1 := (_, [])) (y2 := (_, [])) (shut_int Tryd.underlying3 wa10) (shut_int Tryd.underlying3 wa11) (shut_int Tryd.underlying3 wa12)) (shut_int Tryd.underlying3 wa2) (shut_int Tryd.underlying3 wa3)

theorem family_said : Rows.PlacesFamilySaid :=
  OpenClaim.holds_of_wide 5 Tryd.f5 rfl rfl rfl rfl rfl rfl rfl ⟨rfl, rfl, rfl, rfl, rfl⟩ rfl rfl rfl rfl rfl (by kernel_rfl) Tryd.func5 (by kernel_rfl)
    (of_decide_eq_true (by kernel_rfl)) (by unfold Func.isWrapper; first | (rw [if_pos (by decide +kernel)]; kernel_rfl) | (rw [if_neg (by decide +kernel)]; exact ⟨rfl, rfl⟩))
    (fun os started H enc _ => family_lifted os started H enc)

theorem family_holds : Rows.PlacesFamilyCardSaid :=
  Claim7.holds_tied_plain_at .later [] [.data, .data, .data, .data] true (true, "6322d4184f58421b3e1bc1920f9ab32eaea435bc8a149f4e8d6d643391eee7b1") false
    family_said (fun _ h => by cases h) (by kernel_rfl) (fun _ h => by cases h) placesFamily_row_tie rfl ⟨rfl, rfl⟩ (by kernel_rfl) rfl
    (fun f fn hf hfn => by
      obtain rfl : f = 5 := Option.some.inj ((show Tryd.prog.funcNamed "noctuary/noctuarylaw01.PlacesFamily" = some 5 by kernel_rfl).symm.trans hf) |>.symm
      obtain rfl : fn = Tryd.f5 := (Option.some.inj (Tryd.func5.symm.trans hfn)).symm
      exact ⟨by kernel_rfl, fun j t ht => by
        rw [Tryd.params5] at ht
        have hm : t ∈ [23, 23, 3, 3] := by simpa using Array.mem_of_getElem? ht
        have hall : ([23, 23, 3, 3].all fun u => !Tryd.prog.wantsStandIn u) = true := by kernel_rfl
        exact (show Tryd.prog.wantsStandIn t = false by simpa using List.all_eq_true.1 hall t hm)⟩)
    (by kernel_rfl)
#print axioms family_holds
end Go.Proofs.YtabolonlkocopaaDoor
