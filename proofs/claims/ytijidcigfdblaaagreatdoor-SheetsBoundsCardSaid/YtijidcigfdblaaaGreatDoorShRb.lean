/- What the rows of the sheets share: what the listed variables give; a sheet that came in. -/
import Derived.Test.YtijidcigfdblaaaGreatDoorTie
import Derived.Test.YtijidcigfdblaaaGreatDoorCards
import Derived.Test.YtijidcigfdblaaaGreatDoorShTa
import Derived.LaidMore
import Derived.Lay
import Derived.HandedShaped
import Derived.Stop.Joined
import Derived.Stop.LaidErr
import Derived.Shelf.Vars
import Derived.Lib.LaidTab
import Derived.SevenTiedAt
namespace Go.Proofs.YtijidcigfdblaaaGreatDoor
open Go.ChangeShapes Go.WideShapes Go.RowKit Go.Nm Go.Sh Go.Plc Go.Deep Go.Joins

/-- the row over laid variables, the world's shape kept -/
theorem changeAndShaped {H : Type} {enc : TypeId × Value → H} {a : Assume} {C : Checked} {os : Os} {f : FuncId} {fn : Func} {s : ChangeSpec} {conds : List PathCond} {apart fresh handsOn again : Bool} {X : World → Array Value → Prop}
    (hX : ∀ (w w' : World) (args : Array Value), w.heap = w'.heap → X w args → X w' args)
    (own : ownKnob C.prog.godebug = none) (started : os.Started) (noInit : C.prog.inits.idxOf? f = none) (hfn : C.prog.funcs[f]? = some fn)
    (witness : ∃ (w : World) (tape : Tape) (i : Input), w.os = os ∧ (w.forCall tape i).Shaped C.prog ∧ i.vars = [] ∧ Input.okWide C.prog (w.forCall tape i) .any w.heap.size f i ∧
      ((s.pre enc C.prog fn conds apart (w.forCall tape i).memory i.args ∧ X (w.forCall tape i).memory i.args) ∧ sizedMet enc C.prog fn (OpenSpec.ofChange s) apart (w.forCall tape i).memory i.args) ∧ a.holds C.prog (lone (Frame.enter C.prog f i.args .normal) [] (w.forCall tape i)))
    (contract : ∀ (W : World) (base : Nat) (args : Array Value) (ds gs : List (DataW H)) (before : List MemPlace),
      (∀ (j : Nat) t v, fn.params[j]? = some t → args[j]? = some v → Value.okWide C.prog W .any base t v) →
      DataW.Whole enc C.prog fn.params.toList s.vars apart W args.toList ds gs before → X W args → W.ShapedOpen C.prog →
      Calls C.prog f args W fun e W' => ∃ v, e = .returned v ∧ s.post enc C.prog fn apart fresh handsOn again W args v W') :
    ReturnsInHanded a C os f .any (fun w args => (s.pre enc C.prog fn conds apart w args ∧ X w args) ∧ sizedMet enc C.prog fn (OpenSpec.ofChange s) apart w args) (s.post enc C.prog fn apart fresh handsOn again) := by
  refine returnsInHanded_of_calls own started noInit witness ?_
  intro w tape i _ hsh _ hok hpre _
  obtain ⟨_, _, _, fn', hfn', _, _, _, _, hval⟩ := hok
  have e : fn' = fn := Option.some.inj (hfn'.symm.trans hfn)
  subst e
  obtain ⟨⟨⟨ds, gs, before, hw, hc⟩, hx⟩, hz⟩ := hpre
  have hw' := DataW.Whole.of_heap (w' := w.forCall tape i) (by rfl) hw
  refine (contract (w.forCall tape i) w.heap.size i.args ds gs before hval hw' (hX _ _ _ (by rfl) hx) hsh).mono fun e W' ⟨v, he, hp⟩ => ?_
  subst he
  exact ChangeSpec.post_blind hp
noncomputable abbrev laid8 : List (String × DataW Unit) := [("math/bits.deBruijn32tab", Rows.laid_math_bits_deBruijn32tab), ("math/bits.deBruijn64tab", Rows.laid_math_bits_deBruijn64tab), ("internal/strconv.uint64pow10", Rows.laid_internal_strconv_uint64pow10), ("unicode/utf8.acceptRanges", Rows.laid_unicode_utf8_acceptRanges), ("strconv.ErrRange", Rows.laid_strconv_ErrRange), ("strconv.ErrSyntax", Rows.laid_strconv_ErrSyntax), ("noctuary/places.monthDays", Rows.laid_noctuary_places_monthDays), ("unicode/utf8.first", Rows.laid_unicode_utf8_first)]
theorem all_met (os : Os) (args : Array Value) : laidMetH Tryz.prog laid8 ((World.laidAll Tryz.prog os laid8).forCall (fun _ _ => 0) ⟨#[], args, []⟩).memory := by
  rw [MakeChecks.laidMetH_plain _ _ _ (by kernel_rfl)]; exact laidMet_laidAll _ (by kernel_rfl) (by kernel_rfl)
theorem cErr : Tryz.prog.cellsOf 327 = 1 := by kernel_rfl
theorem cStr : Tryz.prog.cellsOf 9 = 1 := by kernel_rfl
theorem starErr : "*" ++ "errors.errorString" = "*errors.errorString" := by decide
theorem rowErr (u : TypeId) (h : Tryz.prog.typeName? 3 u = some "*errors.errorString") : u = 325 :=
  typeName_ptr_named (nm := "errors.errorString") (by rw [starErr]; kernel_rfl) (by kernel_rfl) (by decide) u (by rw [starErr]; exact h)
theorem of_laid {W : World} (h : laidMetH Tryz.prog laid8 W) (hsh : W.ShapedOpen Tryz.prog) : GlO W := by
  rw [MakeChecks.laidMetH_plain _ _ _ (by kernel_rfl)] at h
  have h2 := h.tail.tail
  have h4 := h2.tail.tail
  have hp : TabW W := Lib.tabIs_of_head (g := 2) (t := 297) (e := 266) (by kernel_rfl) (by kernel_rfl) Tryz.underlying297 Tryz.underlying266 (by kernel_rfl) (by kernel_rfl) h2
  have hm : Lib.TabIs Tryz.prog W "noctuary/places.monthDays" .i64 [31, 29, 31, 30, 31, 30, 31, 31, 30, 31, 30, 31] := Lib.tabIs_of_head (g := 1) (t := 294) (e := 3) (by kernel_rfl) (by kernel_rfl) Tryz.underlying294 Tryz.underlying3 (by kernel_rfl) (by kernel_rfl) h4.tail.tail
  obtain ⟨a1, s1, v1, _, _, _⟩ := laid_sentinel (g := 6) (ti := 272) (tp := 325) (te := 327) (ts := 9) h4 (by kernel_rfl) (by kernel_rfl) Tryz.underlying272 rowErr Tryz.underlying325 Tryz.underlying327 rfl rfl Tryz.underlying9 cErr cStr
  obtain ⟨a2, s2, v2, _, _, _⟩ := laid_sentinel (g := 5) (ti := 272) (tp := 325) (te := 327) (ts := 9) h4.tail (by kernel_rfl) (by kernel_rfl) Tryz.underlying272 rowErr Tryz.underlying325 Tryz.underlying327 rfl rfl Tryz.underlying9 cErr cStr
  refine ⟨hp, fun m hlt => ?_, cell_of_shapedOpen_int (zero := #[.int .i64 0]) (t := 3) hsh (of_decide_eq_true (by kernel_rfl)) (by kernel_rfl) rfl (by kernel_rfl) (by kernel_rfl) Tryz.underlying3, ⟨_, _, v2⟩, ⟨_, _, v1⟩⟩
  rw [hm.cell (by kernel_rfl) m (by simpa using hlt)]
  have : m = 0 ∨ m = 1 ∨ m = 2 ∨ m = 3 ∨ m = 4 ∨ m = 5 ∨ m = 6 ∨ m = 7 ∨ m = 8 ∨ m = 9 ∨ m = 10 ∨ m = 11 := by omega
  rcases this with rfl | rfl | rfl | rfl | rfl | rfl | rfl | rfl | rfl | rfl | rfl | rfl <;> rfl
section
variable {H : Type} {enc : TypeId × Value → H} {W : World}
set_option maxRecDepth 100000 in
theorem open_lines {v : Value} {n : Nat} {x : DataW H × List MemPlace} (h : DataW.trod enc Tryz.prog W 0 (fun _ => true) true n 26 [v] = some x) : ∃ L, LnSl W W.heap.size v L := by
  rcases open_slice Tryz.underlying26 h with ⟨e, _⟩ | ⟨a, len, cap, m, k, D, Pl, e, _, hlc, _, hm, _, hi⟩
  · simp only [List.cons.injEq, and_true] at e
    subst e
    exact ⟨[], _, _, rfl, fun i x hx => by simp at hx⟩
  · simp only [List.cons.injEq, and_true] at e
    subst e
    rw [if_pos rfl] at hm
    have hC : Tryz.prog.cellsOf 83 = 4 := by kernel_rfl
    have hCi : Tryz.prog.cellsOf 3 = 1 := by kernel_rfl
    have hCp : Tryz.prog.cellsOf 25 = 2 := by kernel_rfl
    have hCs : Tryz.prog.cellsOf 30 = 1 := by kernel_rfl
    obtain ⟨L, hl, hL⟩ := list_of (P := fun i (c : Ln) => ∃ vm, a.block < W.heap.size ∧ W.cell? (a.add (i * 4)) = some (.int .i64 c.nm) ∧
      W.cell? ⟨(a.add (i * 4)).block, (a.add (i * 4)).off + 1, none⟩ = some (.int .i64 c.lo) ∧ W.cell? ⟨(a.add (i * 4)).block, (a.add (i * 4)).off + 2, none⟩ = some (.int .i64 c.hi) ∧
      W.cell? ⟨(a.add (i * 4)).block, (a.add (i * 4)).off + 3, none⟩ = some vm ∧ InSl W W.heap.size vm c.sn) len (fun i hil => by
      obtain ⟨cs, hcs, ht⟩ := hi i (by omega)
      rw [hC] at hcs
      obtain ⟨_, hcl, hat⟩ := World.cells?_some hcs
      obtain ⟨ys, j, _, _, _, hyl, hf⟩ := DataW.trod_struct Tryz.underlying83 ht
      match cs, hcl, ys, hyl with
      | [c0, c1, c2, c3], _, [y0, y1, y2], _ =>
        have g0 := hf 0 _ rfl
        have g1 := hf 1 _ rfl
        have g2 := hf 2 _ rfl
        simp [hCi, hCs, hCp] at g0 g1 g2
        obtain ⟨zs, j1, _, _, _, hzl, hf1⟩ := DataW.trod_struct Tryz.underlying25 g1
        match zs, hzl with
        | [z0, z1], _ =>
          have q0 := hf1 0 _ rfl
          have q1 := hf1 1 _ rfl
          simp [hCi] at q0 q1
          obtain ⟨n0, e0, _, _⟩ := DataW.trod_int Tryz.underlying3 g0
          obtain ⟨n1, e1, _, _⟩ := DataW.trod_int Tryz.underlying3 q0
          obtain ⟨n2, e2, _, _⟩ := DataW.trod_int Tryz.underlying3 q1
          simp only [List.cons.injEq, and_true] at e0 e1 e2
          subst e0 e1 e2
          obtain ⟨Lf, hLf⟩ := open_list g2
          have a0 := hat 0 (by decide)
          have a1 := hat 1 (by decide)
          have a2 := hat 2 (by decide)
          have a3 := hat 3 (by decide)
          simp only [List.getElem?_cons_zero, List.getElem?_cons_succ] at a0 a1 a2 a3
          rw [show ((a.add (i * 4)).add 0) = a.add (i * 4) from by simp [Addr.add]] at a0
          have hb := World.block_lt_of_cell? _ _ a0
          rw [add_block] at hb
          exact ⟨⟨n0, n1, n2, Lf⟩, c3, hb, a0, a1, a2, a3, hLf⟩)
    refine ⟨L, _, cap, by rw [hl], fun i c hc => ?_⟩
    obtain ⟨vm, h1, h2⟩ := hL i c hc
    exact ⟨a, vm, rfl, h1, h2⟩
set_option maxRecDepth 100000 in
/-- a sheet that came in -/
theorem open_sheet {v : Value} {d : DataW H} {p : List MemPlace} {base : Nat} (hval : Value.okWide Tryz.prog W .any base 28 v) (h : DataW.Trod enc Tryz.prog W 0 (fun _ => true) true 28 v d p) : ∃ m, PgV W v m := by
  have hC : Tryz.prog.cellsOf 28 = 10 := by kernel_rfl
  have hCi : Tryz.prog.cellsOf 3 = 1 := by kernel_rfl
  have hCp : Tryz.prog.cellsOf 25 = 2 := by kernel_rfl
  have hCq : Tryz.prog.cellsOf 23 = 3 := by kernel_rfl
  have hCs : Tryz.prog.cellsOf 26 = 1 := by kernel_rfl
  obtain ⟨cs, rfl, hsz⟩ := okWide_struct Tryz.underlying28 hval
  rw [hC] at hsz
  obtain ⟨fuel, hf0⟩ := h
  obtain ⟨ys, j, _, _, _, hyl, hf⟩ := DataW.trod_struct Tryz.underlying28 hf0
  obtain ⟨cl⟩ := cs
  match cl, hsz, ys, hyl with
  | [c0, c1, c2, c3, c4, c5, c6, c7, c8, c9], _, [y0, y1, y2, y3, y4, y5, y6], _ =>
    have g0 := hf 0 _ rfl
    have g1 := hf 1 _ rfl
    have g2 := hf 2 _ rfl
    have g3 := hf 3 _ rfl
    have g4 := hf 4 _ rfl
    have g5 := hf 5 _ rfl
    have g6 := hf 6 _ rfl
    simp [hCi, hCs, hCp, hCq, Value.cells] at g0 g1 g2 g3 g4 g5 g6
    obtain ⟨zs, j1, _, _, _, hzl, hf2⟩ := DataW.trod_struct Tryz.underlying23 g2
    obtain ⟨us, j2, _, _, _, hul, hf5⟩ := DataW.trod_struct Tryz.underlying25 g5
    match zs, hzl, us, hul with
    | [z0, z1, z2], _, [u0, u1], _ =>
      have s0 := hf2 0 _ rfl
      have s1 := hf2 1 _ rfl
      have s2 := hf2 2 _ rfl
      have t0 := hf5 0 _ rfl
      have t1 := hf5 1 _ rfl
      simp [hCi] at s0 s1 s2 t0 t1
      obtain ⟨n0, e0, _, _⟩ := DataW.trod_int Tryz.underlying3 g0
      obtain ⟨n1, e1, _, _⟩ := DataW.trod_int Tryz.underlying3 g1
      obtain ⟨n2, e2, _, _⟩ := DataW.trod_int Tryz.underlying3 s0
      obtain ⟨n3, e3, _, _⟩ := DataW.trod_int Tryz.underlying3 s1
      obtain ⟨n4, e4, _, _⟩ := DataW.trod_int Tryz.underlying3 s2
      obtain ⟨n5, e5, _, _⟩ := DataW.trod_int Tryz.underlying3 g3
      obtain ⟨n6, e6, _, _⟩ := DataW.trod_int Tryz.underlying3 g4
      obtain ⟨n7, e7, _, _⟩ := DataW.trod_int Tryz.underlying3 t0
      obtain ⟨n8, e8, _, _⟩ := DataW.trod_int Tryz.underlying3 t1
      simp only [List.cons.injEq, and_true] at e0 e1 e2 e3 e4 e5 e6 e7 e8
      subst e0 e1 e2 e3 e4 e5 e6 e7 e8
      obtain ⟨L, hL⟩ := open_lines g6
      exact ⟨⟨n0, n1, n2, n3, n4, n5, n6, n7, n8, L⟩, c9, rfl, hL⟩
end
theorem kStops : Tryz.prog.stops = [] := by kernel_rfl
theorem kKnobs : Tryz.prog.stopKnobs = [] := by kernel_rfl
theorem kPlain : Tryz.prog.plainKeys = false := by kernel_rfl
theorem kHeard : Tryz.prog.stopsHeard = true := by kernel_rfl
theorem kEnter : Tryz.prog.mayEnter = true := by kernel_rfl
theorem kRowed : mapsRowed Tryz.prog = true := by kernel_rfl
theorem kLift : Tryz.prog.liftsFinal = Rows.sheetsBoundsRow.lifted := by kernel_rfl
theorem kMake : Tryz.prog.make = some Rows.sheetsBoundsRow.make := by kernel_rfl
end Go.Proofs.YtijidcigfdblaaaGreatDoor
