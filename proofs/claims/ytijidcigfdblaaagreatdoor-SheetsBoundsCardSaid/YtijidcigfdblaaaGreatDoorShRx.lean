/- SheetsBounds answers true for every sheet, and the sheet reads afterwards as before: sums, the rest, whether lines agree with the total, and tight bounds of the program are those of the reference. Condition: the listed package variables (the tables of math/bits, strconv and unicode/utf8, the errors of strconv, monthDays) read as the program's own text lays them when the call begins; the card ties that to the text. -/
import Derived.Test.YtijidcigfdblaaaGreatDoorShRc
import Derived.Test.YtijidcigfdblaaaGreatDoorShWc
namespace Go.Proofs.YtijidcigfdblaaaGreatDoor
open Go.ChangeShapes Go.WideShapes Go.ChangeAt Go.RowKit Go.Nm Go.Sh Go.Plc Go.Deep Go.Joins

set_option maxRecDepth 100000 in
theorem bounds_lifted (os : Os) (started : os.Started) (H : Type) (enc : TypeId × Value → H) :
    ReturnsInHanded {} Tryz.checked os 5 .any (fun w args => (Rows.sheetsBoundsSpec.pre enc Tryz.prog Tryz.f5 [] false w args ∧ laidMetH Tryz.prog laid8 w) ∧ sizedMet enc Tryz.prog Tryz.f5 (OpenSpec.ofChange Rows.sheetsBoundsSpec) false w args)
      (Rows.sheetsBoundsSpec.post enc Tryz.prog Tryz.f5 false true false false) := by
  refine changeAndShaped (C := Tryz.checked) (X := fun w _ => laidMetH Tryz.prog laid8 w) (fun _ _ _ hh h => h.of_heap hh) ownKnobNone started (by kernel_rfl) Tryz.func5
    (ChangeSpec.witness_shaped (enc := enc) (C := Tryz.checked) (os := os) (X := fun w _ => laidMetH Tryz.prog laid8 w) false (World.laidAll Tryz.prog os laid8) #[.agg #[.int .i64 0, .int .i64 0, .int .i64 0, .int .i64 0, .int .i64 0, .int .i64 0, .int .i64 0, .int .i64 0, .int .i64 0, .slice none 0 0]] 8 (World.laidAll_os _ _ _) (World.shaped_of_ZipB (by kernel_rfl) (by kernel_rfl)) (by kernel_rfl) (by kernel_rfl) (by kernel_rfl) (all_met os _)) ?_
  intro W base args ds gs before hval0 hW hL hsh
  have hval : ∀ (j : Nat) t v, Tryz.f5.params[j]? = some t → args[j]? = some v → Value.okWide Tryz.prog W .any base t v := hval0
  have hW' := hW
  have hlt : ∀ x ∈ before, x.block < W.heap.size := fun x hx => hW'.lt x hx
  obtain ⟨p, q, hA0, hV, rfl, hfz, hnd⟩ := hW
  have hA : DataW.TrodAll enc Tryz.prog W 0 (fun _ => true) true Tryz.f5.params.toList args.toList ds p := hA0
  rw [Tryz.params5] at hA hval
  obtain ⟨v0, d0, rfl, rfl, h0⟩ := trodAll_one hA
  obtain ⟨rfl, rfl⟩ := trodVars_none hV
  have g0 := h0
  obtain ⟨m, M0⟩ := open_sheet (hval 0 _ _ rfl rfl) h0
  refine (SheetsBounds_any v0 m W M0 (of_laid hL hsh)).mono fun e W' ⟨he, hb⟩ => ?_
  subst he
  refine ⟨_, rfl, law_post hW' (trodAll_mk1 (shut_bool Tryz.underlying4 _)) ?_ rfl hb⟩
  have k0 := Below.trod laidOut (by kernel_rfl) (by decide +kernel) g0 hb (fun x hx => hlt x (by simp [hx]))
  have hh := trodAll_mk1 k0
  first | (rw [List.append_nil p]; exact hh) | exact hh | simpa using hh

theorem bounds_in : Tryz.prog.inPlace 5 = Rows.sheetsBoundsRow.inPlace := by kernel_rfl
theorem bounds_un : Tryz.prog.unfollowed 5 = Rows.sheetsBoundsRow.unfollowed := by kernel_rfl
theorem bounds_re : Tryz.prog.recurses 5 = Rows.sheetsBoundsRow.recurses := by kernel_rfl
theorem bounds_na : Tryz.prog.varsNamed 5 = Rows.sheetsBoundsRow.named := by kernel_rfl
theorem bounds_facts : joinedFacts Tryz.prog 5 Tryz.f5 Rows.sheetsBoundsSpec Rows.sheetsBoundsRow = true := by
  unfold joinedFacts
  rw [bounds_in, bounds_un, bounds_re, bounds_na, kStops, kKnobs, kPlain, kHeard, kEnter, kRowed, kLift, kMake, laidOut]
  kernel_rfl
theorem bounds_named : Tryz.prog.funcNamed "noctuary/noctuarylaw04.SheetsBounds" = some 5 := by kernel_rfl
theorem bounds_said : Rows.SheetsBoundsSaid :=
  OpenClaim.holds_of_wide 5 Tryz.f5 rfl rfl rfl rfl rfl rfl rfl ⟨rfl, rfl, rfl, rfl, rfl⟩ rfl rfl rfl rfl rfl bounds_named Tryz.func5 bounds_facts
    (of_decide_eq_true (by kernel_rfl)) (by unfold Func.isWrapper; first | (rw [if_pos (by decide +kernel)]; kernel_rfl) | (rw [if_neg (by decide +kernel)]; exact ⟨rfl, rfl⟩))
    (fun os started H enc _ => bounds_lifted os started H enc)

theorem bounds_wf : Rows.sheetsBoundsRow.wfByText (OpenSpec.ofChange Rows.sheetsBoundsSpec) = true := by kernel_rfl
theorem bounds_go : false = Rows.sheetsBoundsRow.goesBy Tryz.pinned.checked.prog := by kernel_rfl
theorem bounds_sheet : ([28].all fun u => !Tryz.prog.wantsStandIn u) = true := by kernel_rfl
theorem bounds_holds : Rows.SheetsBoundsCardSaid :=
  Claim7.holds_tied_plain_at .later [] [.data, .data, .data, .data, .sentinel, .sentinel, .data, .pinned] true (true, "ab7181437f9aeaad4a59cd38734e662c3f2122e82a6799f02c1c5ed9aa67d71b") true
    bounds_said (fun _ h => by cases h) bounds_wf (fun _ h => by cases h) sheetsBounds_row_tie rfl ⟨rfl, rfl⟩ kMain rfl
    (fun f fn hf hfn => by
      obtain rfl : f = 5 := (Option.some.inj (bounds_named.symm.trans hf)).symm
      obtain rfl : fn = Tryz.f5 := (Option.some.inj (Tryz.func5.symm.trans hfn)).symm
      exact ⟨kLooks, fun j t ht => by
        rw [Tryz.params5] at ht
        have hm : t ∈ [28] := by simpa using Array.mem_of_getElem? ht
        have hall := bounds_sheet
        exact (show Tryz.prog.wantsStandIn t = false by simpa using List.all_eq_true.1 hall t hm)⟩)
    bounds_go
#print axioms bounds_holds
end Go.Proofs.YtijidcigfdblaaaGreatDoor
