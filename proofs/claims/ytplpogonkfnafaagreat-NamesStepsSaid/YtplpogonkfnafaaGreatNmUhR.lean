/- For every book of names, question and relation NamesSteps answers true, and the arguments read as before. No condition. -/
import Derived.Test.YtplpogonkfnafaaGreatNmBa
import Derived.Test.YtplpogonkfnafaaGreatNmUh
namespace Go.Proofs.YtplpogonkfnafaaGreat
open Go.ChangeShapes Go.WideShapes Go.RowKit Go.Nm Go.Deep Go.Joins

section
variable {H : Type} {enc : TypeId × Value → H} {W : World}
set_option maxRecDepth 100000 in
theorem open_lists {v : Value} {n : Nat} {x : DataW H × List MemPlace} (h : DataW.trod enc Tryz.prog W 0 (fun _ => true) true n 28 [v] = some x) : ∃ LL, VsSl W W.heap.size v LL := by
  rcases open_slice Tryz.underlying28 h with ⟨e, _⟩ | ⟨a, len, cap, m, k, D, Pl, e, _, hlc, _, hm, _, hi⟩
  · simp only [List.cons.injEq, and_true] at e
    subst e
    exact ⟨[], VsSl.none _ _⟩
  · simp only [List.cons.injEq, and_true] at e
    subst e
    rw [if_pos rfl] at hm
    have hC : Tryz.prog.cellsOf 22 = 1 := by kernel_rfl
    obtain ⟨Q, hl, hQ⟩ := list_of (P := fun i (c : Value × List Int) => a.block < W.heap.size ∧ W.cell? (a.add i) = some c.1 ∧ InSl W W.heap.size c.1 c.2) len (fun i hil => by
      obtain ⟨cs, hcs, ht⟩ := hi i (by omega)
      rw [hC] at hcs
      obtain ⟨_, hcl, hat⟩ := World.cells?_some hcs
      match cs, hcl with
      | [c0], _ =>
        obtain ⟨L, hL⟩ := open_list ht
        have a0 := hat 0 (by decide)
        simp only [List.getElem?_cons_zero, Nat.mul_one] at a0
        rw [show ((a.add i).add 0) = a.add i from by simp [Addr.add]] at a0
        have hb := World.block_lt_of_cell? _ _ a0
        rw [add_block] at hb
        exact ⟨(c0, L), hb, a0, hL⟩)
    refine ⟨Q.map (·.2), some a, cap, Q.map (·.1), by rw [List.length_map, hl], ⟨by simp, fun i u L h1 h2 => ?_⟩, fun i u hu => ?_⟩
    · rw [List.getElem?_map] at h1 h2
      cases hq : Q[i]? with
      | none => rw [hq] at h1; cases h1
      | some q =>
        rw [hq] at h1 h2
        simp only [Option.map_some, Option.some.injEq] at h1 h2
        subst h1 h2
        exact (hQ i q hq).2.2
    · rw [List.getElem?_map] at hu
      cases hq : Q[i]? with
      | none => rw [hq] at hu; cases hu
      | some q =>
        rw [hq] at hu
        simp only [Option.map_some, Option.some.injEq] at hu
        subst hu
        exact ⟨a, rfl, (hQ i q hq).1, (hQ i q hq).2.1⟩
set_option maxRecDepth 100000 in
/-- a relation that came in -/
theorem open_relation {v : Value} {d : DataW H} {p : List MemPlace} {base : Nat} (hval : Value.okWide Tryz.prog W .any base 30 v) (h : DataW.Trod enc Tryz.prog W 0 (fun _ => true) true 30 v d p) :
    ∃ va vb vf vt A B F T, v = .agg #[va, vb, vf, vt] ∧ VsSl W W.heap.size va A ∧ VsSl W W.heap.size vb B ∧ InSl W W.heap.size vf F ∧ InSl W W.heap.size vt T := by
  have hC : Tryz.prog.cellsOf 30 = 4 := by kernel_rfl
  have hCi : Tryz.prog.cellsOf 28 = 1 := by kernel_rfl
  have hCs : Tryz.prog.cellsOf 22 = 1 := by kernel_rfl
  obtain ⟨cs, rfl, hsz⟩ := okWide_struct Tryz.underlying30 hval
  rw [hC] at hsz
  obtain ⟨fuel, hf0⟩ := h
  obtain ⟨ys, j, _, _, _, hyl, hf⟩ := DataW.trod_struct Tryz.underlying30 hf0
  obtain ⟨cl⟩ := cs
  match cl, hsz, ys, hyl with
  | [c0, c1, c2, c3], _, [y0, y1, y2, y3], _ =>
    have g0 := hf 0 _ rfl
    have g1 := hf 1 _ rfl
    have g2 := hf 2 _ rfl
    have g3 := hf 3 _ rfl
    simp [hCi, hCs, Value.cells] at g0 g1 g2 g3
    obtain ⟨A, hA⟩ := open_lists g0
    obtain ⟨B, hB⟩ := open_lists g1
    obtain ⟨F, hF⟩ := open_list g2
    obtain ⟨T, hT⟩ := open_list g3
    exact ⟨c0, c1, c2, c3, A, B, F, T, rfl, hA, hB, hF, hT⟩
end
set_option maxRecDepth 100000 in
theorem namesSteps_lifted (os : Os) (started : os.Started) (H : Type) (enc : TypeId × Value → H) :
    ReturnsInHanded {} Tryz.checked os 3 .any (Rows.namesStepsSpec.pre6 enc Tryz.prog Tryz.f3 Rows.namesStepsRow.domain false) (Rows.namesStepsSpec.post enc Tryz.prog Tryz.f3 false true false false) := by
  refine returnsInHanded_of_change (C := Tryz.checked) ownKnobNone started (by kernel_rfl) Tryz.func3
    (ChangeSpec.witness6 (enc := enc) (C := Tryz.checked) false ⟨#[], #[.agg #[.slice none 0 0, .slice none 0 0], .agg #[.int .i64 0, .int .i64 0, .int .i64 0, .int .i64 0, .int .i64 0, .slice none 0 0], .agg #[.slice none 0 0, .slice none 0 0, .slice none 0 0, .slice none 0 0]], []⟩ 8 (by kernel_rfl) (by kernel_rfl) (by kernel_rfl) (by kernel_rfl)) ?_
  intro W base args ds gs before hval0 hW _ _
  have hval : ∀ (j : Nat) t v, Tryz.f3.params[j]? = some t → args[j]? = some v → Value.okWide Tryz.prog W .any base t v := hval0
  have hW' := hW
  have hlt0 : ∀ x ∈ before, x.block < W.heap.size := fun x hx => hW'.lt x hx
  obtain ⟨p, q, hA0, hV, rfl, hfz, hnd⟩ := hW
  have hA : DataW.TrodAll enc Tryz.prog W 0 (fun _ => true) true Tryz.f3.params.toList args.toList ds p := hA0
  rw [Tryz.params3] at hA hval
  obtain ⟨v0, v1, v2, d0, d1, d2, p0, p1, p2, rfl, rfl, rfl, h0, h1, h2⟩ := trodAll_three hA
  obtain ⟨rfl, rfl⟩ := trodVars_none hV
  have g0 := h0
  have g1 := h1
  have g2 := h2
  obtain ⟨b0, vc0, B0⟩ := open_book (hval 0 _ _ rfl rfl) h0
  obtain ⟨aV, aW, aX, aY, aR, u1, L1, rfl, S1⟩ := open_ask (hval 1 _ _ rfl rfl) h1
  obtain ⟨va2, vb2, vf2, vt2, QA, QB, QF, QT, rfl, S2a, S2b, S2f, S2t⟩ := open_relation (hval 2 _ _ rfl rfl) h2
  refine (NamesSteps_any _ _ _ _ _ _ _ b0 aV aW aX aY aR L1 QA QB QF QT W B0 S1 S2a S2b S2f S2t).mono fun e W' ⟨he, hb⟩ => ?_
  subst he
  have hlt := hlt0
  refine ⟨_, rfl, law_post hW' (trodAll_mk1 (shut_bool Tryz.underlying4 _)) ?_ rfl hb⟩
  have k0 := Below.trod laidOut (by kernel_rfl) (by decide +kernel) g0 hb (fun x hx => hlt x (by simp [hx]))
  have k1 := Below.trod laidOut (by kernel_rfl) (by decide +kernel) g1 hb (fun x hx => hlt x (by simp [hx]))
  have k2 := Below.trod laidOut (by kernel_rfl) (by decide +kernel) g2 hb (fun x hx => hlt x (by simp [hx]))
  have hh := trodAll_mk3 k0 k1 k2
  first | (rw [List.append_nil (p0 ++ (p1 ++ p2))]; exact hh) | (rw [show p0 ++ p1 ++ p2 ++ [] = p0 ++ (p1 ++ p2) from by simp]; exact hh)

theorem namesSteps_said : Rows.NamesStepsSaid :=
  OpenClaim.holds_of_wide 3 Tryz.f3 rfl rfl rfl rfl rfl rfl rfl ⟨rfl, rfl, rfl, rfl, rfl⟩ rfl rfl rfl rfl rfl (by kernel_rfl) Tryz.func3 (by kernel_rfl)
    (of_decide_eq_true (by kernel_rfl)) (by unfold Func.isWrapper; first | (rw [if_pos (by decide +kernel)]; kernel_rfl) | (rw [if_neg (by decide +kernel)]; exact ⟨rfl, rfl⟩))
    (fun os started H enc _ => namesSteps_lifted os started H enc)
#print axioms namesSteps_said
end Go.Proofs.YtplpogonkfnafaaGreat
