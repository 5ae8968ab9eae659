/- PlacesCovers answers true for any slice of squares, square and level: areas, what a region covers and meets, and its coarse squares are as specified. Condition: the listed package variables read as the program's own text lays them when the call begins; the card ties that to the text. -/
import Derived.Test.YtabolonlkocopaaGreatDoorRowB
import Derived.Test.YtabolonlkocopaaGreatDoorCvW
import Derived.Test.YtabolonlkocopaaGreatDoorSlS
namespace Go.Proofs.YtabolonlkocopaaGreatDoor
open Go.ChangeShapes Go.ChangeMaps Go.WideShapes Go.ChangeAt Go.RowKit Go.Plc Go.Joins

set_option maxRecDepth 100000 in
theorem covers_lifted (os : Os) (started : os.Started) (H : Type) (enc : TypeId × Value → H) :
    ReturnsInHanded {} Tryz.checked os 4 .any (fun w args => (Rows.placesCoversSpec.pre enc Tryz.prog Tryz.f4 [] false w args ∧ laidMetH Tryz.prog laid4 w) ∧ sizedMet enc Tryz.prog Tryz.f4 (OpenSpec.ofChange Rows.placesCoversSpec) false w args)
      (Rows.placesCoversSpec.post enc Tryz.prog Tryz.f4 false true false false) := by
  refine returnsInHanded_of_change_and (C := Tryz.checked) (X := fun w _ => laidMetH Tryz.prog laid4 w) (fun _ _ _ hh h => h.of_heap hh) ownKnobNone started (by kernel_rfl) Tryz.func4
    (ChangeSpec.witness_shaped (enc := enc) (C := Tryz.checked) (os := os) (X := fun w _ => laidMetH Tryz.prog laid4 w) false (World.doorLaid Tryz.prog 400 os) #[.slice none 0 0, .agg #[.int .i64 0, .int .i64 0, .int .i64 0], .int .i64 0] 8 rfl (World.shaped_of_RefB (by kernel_rfl) (by kernel_rfl)) (by kernel_rfl) (by kernel_rfl) (by kernel_rfl) (door_met os _)) ?_
  intro W base args ds gs before hval0 hW _ _ hL _
  have hval : ∀ (j : Nat) t v, Tryz.f4.params[j]? = some t → args[j]? = some v → Value.okWide Tryz.prog W .any base t v := hval0
  have hW' := hW
  obtain ⟨p, q, hA0, hV, rfl, hfz, hnd⟩ := hW
  have hA : DataW.TrodAll enc Tryz.prog W 0 (fun _ => true) true Tryz.f4.params.toList args.toList ds p := hA0
  rw [Tryz.params4] at hA hval
  obtain ⟨v0, v1, v2, d0, d1, d2, p0, p1, p2, rfl, rfl, rfl, h0, h1, h2⟩ := trodAll_three hA
  obtain ⟨rfl, rfl⟩ := trodVars_none hV
  obtain ⟨L0, S0, keep0⟩ := open_squares Tryz.underlying31 (by kernel_rfl) (by kernel_rfl) (by kernel_rfl) (by kernel_rfl) (by kernel_rfl) (by kernel_rfl) (hval 0 _ _ rfl rfl) h0
  obtain ⟨u0, u1, u2, y0, y1, y2, n1, rfl, rfl, rfl, g0, g1, g2⟩ := open_agg3 Tryz.underlying31 (by kernel_rfl) (by kernel_rfl) (hval 1 _ _ rfl rfl) h1
  obtain ⟨a10, e0, rfl, wa10⟩ := DataW.trod_int Tryz.underlying3 g0
  obtain ⟨a11, e1, rfl, wa11⟩ := DataW.trod_int Tryz.underlying3 g1
  obtain ⟨a12, e2, rfl, wa12⟩ := DataW.trod_int Tryz.underlying3 g2
  simp only [List.cons.injEq, and_true] at e0 e1 e2
  subst e0; subst e1; subst e2
  have ia10 := bounds_i64 wa10
  have ia11 := bounds_i64 wa11
  have ia12 := bounds_i64 wa12
  obtain ⟨a2, rfl, rfl, rfl, wa2⟩ := open_int Tryz.underlying3 (hval 2 _ _ rfl rfl) h2
  have ia2 := bounds_i64 wa2
  obtain ⟨hM, hT⟩ := of_laid hL
  refine (PlacesCovers_any v0 L0 ⟨a10, a11, a12⟩ a2 W hM hT S0).mono fun e W' ⟨he, hb⟩ => ?_
  subst he
  refine ⟨_, rfl, law_post hW' (trodAll_mk1 (shut_bool Tryz.underlying4 _)) ?_ rfl hb⟩
  have hh := trodAll_mk3 (keep0 W' hb) (shut_agg3 Tryz.underlying31 (by kernel_rfl) (by kernel_rfl) (y0 := (_, [])) (y1 := (_, [])) (y2 := (_, [])) (shut_int Tryz.underlying3 wa10) (shut_int Tryz.underlying3 wa11) (shut_int Tryz.underlying3 wa12)) (shut_int Tryz.underlying3 wa2)
  simp only [List.append_nil] at hh ⊢
  exact hh

theorem covers_said : Rows.PlacesCoversSaid :=
  OpenClaim.holds_of_wide 4 Tryz.f4 rfl rfl rfl rfl rfl rfl rfl ⟨rfl, rfl, rfl, rfl, rfl⟩ rfl rfl rfl rfl rfl (by kernel_rfl) Tryz.func4 (by kernel_rfl)
    (of_decide_eq_true (by kernel_rfl)) (by unfold Func.isWrapper; first | (rw [if_pos (by decide +kernel)]; kernel_rfl) | (rw [if_neg (by decide +kernel)]; exact ⟨rfl, rfl⟩))
    (fun os started H enc _ => covers_lifted os started H enc)

theorem covers_holds : Rows.PlacesCoversCardSaid :=
  Claim7.holds_tied_plain_at .later [] [.data, .data, .data, .data] true (true, "d319b45e3395e90b1bda291bb25741fe69df9748de4f50a2fdf3a282fd2e4101") false
    covers_said (fun _ h => by cases h) (by kernel_rfl) (fun _ h => by cases h) placesCovers_row_tie rfl ⟨rfl, rfl⟩ (by kernel_rfl) rfl
    (fun f fn hf hfn => by
      obtain rfl : f = 4 := Option.some.inj ((show Tryz.prog.funcNamed "noctuary/noctuarylaw01.PlacesCovers" = some 4 by kernel_rfl).symm.trans hf) |>.symm
      obtain rfl : fn = Tryz.f4 := (Option.some.inj (Tryz.func4.symm.trans hfn)).symm
      exact ⟨by kernel_rfl, fun j t ht => by
        rw [Tryz.params4] at ht
        have hm : t ∈ [22, 31, 3] := by simpa using Array.mem_of_getElem? ht
        have hall : ([22, 31, 3].all fun u => !Tryz.prog.wantsStandIn u) = true := by kernel_rfl
        exact (show Tryz.prog.wantsStandIn t = false by simpa using List.all_eq_true.1 hall t hm)⟩)
    (by kernel_rfl)
#print axioms covers_holds
end Go.Proofs.YtabolonlkocopaaGreatDoor
