/- slices.AppendSeq, slices.Collect over fates. -/
import Derived.Test.YtplpogonkfnafaaNmFc
import Derived.Maps.AppendAt
import Derived.Maps.OwnIn
import Derived.RangeFuncBox
import Derived.RangeFuncLeaves
import Derived.Shelf.Abstract
namespace Go.Proofs.Ytplpogonkfnafaa
open Go.RowKit Go.Nm Go.Shelf
attribute [local go_sem] Oper.semAt_some

theorem IterP.mono {α : Type} {B : Nat} {P : Program} {n gf : Nat} {lb : Array Value} {encs : α → Array Value} {I I' : Nat → List α → Option Nat → World → Prop} {Px : Nat → List α → α → Option Nat → World → Prop} {S : List α → Prop} (h : IterP B P n gf lb encs I' Px S)
    (hi : ∀ g pre ow X, B ≤ g → I g pre ow X → I' g pre ow X) : IterP B P n gf lb encs I Px S :=
  fun l J ow W hB hJ hI hY h0 => h l J ow W hB hJ (fun g pre ow X hg hj => hi g pre ow X (by omega) (hI g pre ow X hg hj)) hY h0
theorem infoS : ∃ i, Try.prog.info? 22 = some i ∧ i.zero = some (.slice none 0 0) ∧ i.size = 1 ∧ i.bytes = 24 := by
  have h : (Try.prog.info? 22).map (fun i => (i.zero, i.size, i.bytes)) = some (some (.slice none 0 0), 1, 24) := by kernel_rfl
  cases h2 : Try.prog.info? 22 with
  | none => rw [h2] at h; cases h
  | some i =>
    rw [h2] at h
    simp only [Option.map_some, Option.some.injEq, Prod.mk.injEq] at h
    exact ⟨i, rfl, h.1, h.2.1, h.2.2⟩
theorem InN.chg {B g : Nat} {ow ow' : Option Nat} {X Y : World} {u : Value} {L : List Int} (h1 : InN B g ow X u L) (h2 : InN B g ow Y u L) (hg : Grows ow ow' X) : InN B g ow' Y u L := by
  obtain ⟨A, c, e, a1, a2, a3⟩ := h2
  obtain ⟨A', c', e', _, _, b3⟩ := h1
  rw [e] at e'
  injection e' with e1 _ _
  subst e1
  refine ⟨A, c, e, a1, a2, fun i x hx => ?_⟩
  obtain ⟨ad, ha, hb, hB, hn, ho, hc⟩ := a3 i x hx
  obtain ⟨ad', ha', hb', _⟩ := b3 i x hx
  rw [ha] at ha'
  injection ha' with ha'
  subst ha'
  refine ⟨ad, ha, hb, hB, hn, fun e => ?_, hc⟩
  rcases hg with h | ⟨k, h, hk⟩
  · rw [h] at e; exact ho e
  · rw [h] at e; cases e; omega
theorem PxF.own (B N M g : Nat) (pre : List (List Int × Value)) (x : List Int × Value) (ow : Option Nat) (X X' : World) (row : Option Nat) (h : PxF B N M g pre x ow X) (hg : X.grownBy X' row) (hr : ∀ r, row = some r → ∃ o : Obj, X.heap[r]? = some o ∧ o.isCells = false) : PxF B N M g pre x ow X' :=
  ⟨h.1, h.2.1, Nat.lt_of_lt_of_le h.2.2.1 hg.size, h.2.2.2.grown hg fun r e => .inr (.inr (.inr (hr r e)))⟩
/-- a call's own row of slices, each with these numbers: what the loop of AppendSeq keeps -/
structure AppF (w V0 : World) (g : Nat) (pre : List (List Int × Value)) (ow : Option Nat) (X : World) : Prop where
  bel0 : Below V0.heap.size V0 X
  bel : Below w.heap.size w X
  row : ∃ v, Boxed X w.heap.size 42 v ∧ X.ownsRow (w.heap.size + 1) 22 1 v pre.length (pre.map (·.2)) ∧ ow = v.ownBlock
  els : ∀ x ∈ pre, InN (w.heap.size + 1) g ow X x.2 x.1
  ng : ∀ k, ow = some k → k ≠ g
theorem AppF.cellsAt {w V0 : World} {g : Nat} {pre : List (List Int × Value)} {ow : Option Nat} {X : World} (h : AppF w V0 g pre ow X) : ∀ k, ow = some k → ∃ cs t fr, X.heap[k]? = some (.cells cs t fr) := by
  intro k hk
  obtain ⟨v, h1, h2, h3⟩ := h.row
  rcases h2.2 with ⟨rfl, _⟩ | ⟨g', cap, cur, rfl, _, hg', _⟩
  · rw [h3] at hk; simp [Value.ownBlock] at hk
  · rw [h3] at hk; simp [Value.ownBlock] at hk
    subst hk; exact ⟨_, _, _, hg'⟩
theorem AppF.own {w V0 : World} (hb0 : V0.heap.size ≤ w.heap.size) (g : Nat) (pre : List (List Int × Value)) (ow : Option Nat) (X X' : World) (row : Option Nat) (h : AppF w V0 g pre ow X) (hg : X.grownBy X' row) (hr : ∀ r, row = some r → w.heap.size + 1 ≤ r ∧ (r = g ∨ ∃ o : Obj, X.heap[r]? = some o ∧ o.isCells = false)) : AppF w V0 g pre ow X' := by
  have hc := h.cellsAt
  obtain ⟨v, h1, h2, h3⟩ := h.row
  refine ⟨h.bel0.grown hg h.bel0.size (fun k e => by have := (hr k e).1; omega), h.bel.grown hg h.bel.size (fun k e => by have := (hr k e).1; omega), ⟨v, h1.kept hg (fun e => by have := (hr _ e.symm).1; omega), h2.kept hg ?_, h3⟩, fun x hx => (h.els x hx).grown hg fun r e => by
    rcases (hr r e).2 with h | h
    · exact .inl h
    · exact .inr (.inr (.inr h)), h.ng⟩
  cases ho : v.ownBlock with
  | none => exact .inl rfl
  | some k =>
    refine .inr (fun e => ?_)
    rcases (hr k e.symm).2 with h' | ⟨o, ho2, hcl⟩
    · exact h.ng k (h3.trans ho) h'
    · obtain ⟨cs, t, fr, h4⟩ := hc k (h3.trans ho)
      rw [h4] at ho2; cases ho2; cases hcl
/-- the value is a slice of slices of these numbers -/
theorem AppF.vs {w V0 : World} {g : Nat} {pre : List (List Int × Value)} {ow : Option Nat} {X : World} (h : AppF w V0 g pre ow X) {v : Value} (h2 : X.ownsRow (w.heap.size + 1) 22 1 v pre.length (pre.map (·.2))) : VsSl X X.heap.size v (pre.map (·.1)) := by
  have hv : VsA X X.heap.size (pre.map (·.2)) (pre.map (·.1)) := ⟨by simp, fun i u L hu hL => by
    rw [List.getElem?_map] at hu hL
    cases hp : pre[i]? with
    | none => rw [hp] at hu; cases hu
    | some p =>
      rw [hp] at hu hL
      simp only [Option.map_some, Option.some.injEq] at hu hL
      subst hu; subst hL
      exact (h.els p (List.mem_of_getElem? hp)).sl⟩
  rcases h2.2 with ⟨rfl, h0⟩ | ⟨g', cap, cur, rfl, hb, hg, h1, h4, h5, h6⟩
  · have := List.length_eq_zero_iff.1 h0
    subst this
    exact ⟨none, 0, [], rfl, hv, fun i u hu => by simp at hu⟩
  · refine ⟨some ⟨g', 0, none⟩, cap, _, by rw [List.length_map], hv, fun i u hu => ⟨_, rfl, (Array.getElem?_eq_some_iff.1 hg).1, h2.cells (g := g') rfl i u hu⟩⟩
theorem own_in {W : World} {B n z : Nat} {t : TypeId} {v : Value} {xs : List Value} (h : W.ownsRow B t z v n xs) {D : Nat} (hK : W.heap[D]? = some (.deferred (some []))) : (W.putObj D (.deferred none)).ownsRow B t z v n xs := ownsRow_putObj h (.deferred none) hK rfl
theorem VsSl.put {W : World} {v : Value} {LL : List (List Int)} (h : VsSl W W.heap.size v LL) {D : Nat} {o : Obj} (o' : Obj) (hK : W.heap[D]? = some o) (ho : o.isCells = false) : VsSl (W.putObj D o') (W.putObj D o').heap.size v LL := by
  have key : ∀ (ad : Addr) (u : Value), W.cell? ad = some u → (W.putObj D o').cell? ad = some u := fun ad u hc => by
    have hne : ad.block ≠ D := fun e => by
      have hc2 := hc
      unfold World.cell? at hc2
      rw [e, hK] at hc2
      cases o <;> simp_all [Obj.isCells]
    exact (World.cell?_of_block (World.putObj_heap_other hne)).trans hc
  have hsz : (W.putObj D o').heap.size = W.heap.size := by simp
  obtain ⟨A, c, vals, e, h1, h2⟩ := h
  refine ⟨A, c, vals, e, ⟨h1.1, fun i u L hu hL => ?_⟩, fun i u hu => ?_⟩
  · obtain ⟨A3, c3, e3, h3, h4, h5⟩ := h1.2 i u L hu hL
    refine ⟨A3, c3, e3, h3, h4, fun j x hx => ?_⟩
    obtain ⟨ad, ha, hb, hc⟩ := h5 j x hx
    exact ⟨ad, ha, by rw [hsz]; exact hb, key _ _ hc⟩
  · obtain ⟨ad, ha, hb, hc⟩ := h2 i u hu
    exact ⟨ad, ha, by rw [hsz]; exact hb, key _ _ hc⟩
set_option maxRecDepth 100000 in
set_option maxHeartbeats 4000000 in
theorem appendSeq_fates (n : Nat) (hn : 4 ≤ n) (V0 w : World) (v vc : Value) (b : Bk) (N Hb : Nat) (hv : HsV V0 v b vc) (hsm : Sm b) (hval : Val b) (hN : (vers b).length = N) (hs : N ≤ 1000) (hM : (fatesF b N []).length ≤ 100000) (hbox : ∃ fs, v = .agg fs ∧ V0.heap[Hb]? = some (.cells fs 67)) (hw : Below V0.heap.size V0 w) :
    CallsIn Fence.wide n Try.prog 99 #[.slice none 0 0, .func (.func 100) #[] #[.pointer (some ⟨Hb, 0, none⟩)]] w
      fun e w' => (∃ r, e = .returned r ∧ VsSl w' w'.heap.size r (fatesF b N [])) ∧ Below w.heap.size w w' := by
  obtain ⟨fs, hfs, hbx⟩ := hbox
  obtain ⟨i0, hi, hz0, hz1, hz2⟩ := infoS
  have hnew := below_new (w := w) (.cells #[.slice none 0 0] 42)
  have h0 : ∀ g, w.heap.size + 1 ≤ g → AppF w V0 g [] none (w.alloc (.cells #[.slice none 0 0] 42)) := fun g hg =>
    ⟨hw.trans (hnew.mono hw.size), hnew, ⟨.slice none 0 0, Boxed.new w _ _, World.ownsRow_nil _ _ _ _, rfl⟩, fun x hx => by simp at hx, fun k e => by cases e⟩
  have hsz := hw.size
  refine callsIn_of_wp_marks Try.func99 rfl trivial ?_ rfl
  simp only [Try.ntmps99, List.size_toArray, List.length_cons, List.length_nil, Nat.reduceAdd, Nat.reduceSub, Array.replicate_succ, Array.replicate_zero, List.push_toArray, List.append_toArray, List.nil_append, List.cons_append]
  gi_wp2_with fail
  have hsz0 : (w.alloc (.cells #[.slice none 0 0] 42)).heap.size = w.heap.size + 1 := by simp
  obtain ⟨W0, hW0⟩ : ∃ W0, w.alloc (.cells #[.slice none 0 0] 42) = W0 := ⟨_, rfl⟩
  rw [hW0] at h0 hsz0 ⊢
  clear hW0 hnew
  refine wp_rangeP (by omega) (gf := 100) (lb := #[.pointer (some ⟨Hb, 0, none⟩)]) rfl (enters_of Try.func100 (by kernel_rfl) rfl) (encs := fun x : List Int × Value => #[x.2]) (fun _ => rfl)
    (AppF w V0) (fun g pre ow X X' row hg h hgr hr => AppF.own hsz g pre ow X X' row h hgr (by rw [hsz0] at hr; exact hr)) (fun g pre ow W _ h => h.cellsAt) none (fun g hg => h0 g (by omega)) (PxF.own W0.heap.size N 100000)
    ((fates_iter V0 v vc fs b W0.heap.size N 100000 (n - 1) Hb hv hsm hval hN hs hM hfs).mono fun g pre ow X hg h => ⟨h.bel0, fun k e => ⟨by obtain ⟨cs, t, fr, hc⟩ := h.cellsAt k e; exact (Array.getElem?_eq_some_iff.1 hc).1, h.ng k e⟩, (h.bel0.block _ (Array.getElem?_eq_some_iff.1 hbx).1).trans hbx⟩)
    (fun x a' W => a' = { tmps := #[.slice none 0 0, .func (.func 100) #[] #[.pointer (some ⟨Hb, 0, none⟩)], .pointer (some ⟨w.heap.size, 0, none⟩), undef, .slice none 0 0, x.2, .func (.func 100) #[] #[.pointer (some ⟨Hb, 0, none⟩)], x.2, undef, undef, undef, undef, undef], defers := [] })
    (fun x a' _ X Y row hs hg hr => hs)
    ?assign ?body ?done
  case assign =>
    rintro l g pre ⟨f, u⟩ ow W K hgb hI hK
    gi_wp2_with fail
    exact hK _ _ (.inl rfl) rfl
  case body =>
    rintro l g pre ⟨f, u⟩ ow a' W hl ⟨r, hr⟩ hgb hI rfl ⟨hfl, hpl, hglt, hin⟩
    obtain ⟨Au, cu, e, _⟩ := hin.form
    dsimp only at e hin hfl
    subst e
    have HI := Lib.hid hI
    have HIn := Lib.hid hin
    obtain ⟨v', h1, h2, rfl⟩ := hI.row
    have c1 := h1.cell
    have f1 := h1.frozen
    have HN := Lib.hid (cell_one_new W (.slice Au f.length cu) 22)
    have H2 := Lib.hid (h2.alloc (.cells #[.slice Au f.length cu] 22))
    have HC := Lib.hid (show pre.length + 1 ≤ maxLen ∧ (pre.length + 1) * 24 ≤ 140737488355328 ∧ w.heap.size + 1 ≤ (W.alloc (.cells #[.slice Au f.length cu] 22)).heap.size from
      ⟨by unfold maxLen; omega, by omega, by have := hI.bel.size; have := h1.lt; simp; omega⟩)
    have HM := Lib.hid (show pre.map (·.2) ++ [Value.slice Au f.length cu] = (pre ++ [(f, Value.slice Au f.length cu)]).map (·.2) from by simp)
    clear hin hI hfl
    gi_wp2_with (gi_at_builtin; refine wpListIn_append_own_at _ rfl _ _ 42 rfl (w.heap.size + 1) 22 i0 (.slice none 0 0) 1 24 Try.underlying42 hi hz0 hz1 hz2 rfl (by decide) v' pre.length (pre.map (·.2)) rfl H2.out ⟨W.heap.size, 0, none⟩ 1 1 [.slice Au f.length cu] rfl rfl HN.out (by intro x hx; simp at hx; subst hx; rfl) HC.out.1 HC.out.2.1 HC.out.2.2 ?_; intro v3 w1 hown hg1 hnn hob; obtain ⟨g', cap', rfl⟩ := ownsRow_succ hown; have hv1 := (h1.alloc (.cells #[.slice Au f.length cu] 22)).kept hg1 (h1.not_row (by decide) h2); have c2 := hv1.cell; have f2 := hv1.frozen)
    have hne : ∀ k, k < w.heap.size + 1 → some k ≠ v'.ownBlock := fun k hk e => by have := (h2.lt k e.symm).1; omega
    have hs1 : W.heap.size + 1 ≤ w1.heap.size := by have := hg1.size; simpa using this
    have hI := HI.out
    have hgW : some g ≠ v'.ownBlock := fun e => hI.ng g e.symm rfl
    have hgro : Grows v'.ownBlock (Value.slice (some ⟨g', 0, none⟩) (pre.length + 1) cap').ownBlock W := by
      rcases hob with e | e
      · exact .inl e
      · exact .inr ⟨_, e, by simp⟩
    have hbx : (W.alloc (.cells #[.slice Au f.length cu] 22)).grownBy w1 v'.ownBlock := hg1
    refine ⟨(KA.alloc _ _ _ _).trans ((KA.grown hg1).trans (KA.set _ _ _ (by omega))), (Value.slice (some ⟨g', 0, none⟩) (pre.length + 1) cap').ownBlock, ⟨?_, ?_, ⟨_, hv1.set _, ?_, rfl⟩, ?_, ?_⟩, hgro⟩
    · have hb1 : Below V0.heap.size V0 w1 := ((hI.bel0).alloc hI.bel0.size _).grown hg1 (by have := hI.bel0.size; simp; omega) (fun k e => by have := (h2.lt k e).1; omega)
      exact hb1.setCell (p := ⟨_, _, none⟩) (by show V0.heap.size ≤ w.heap.size; exact hsz) _
    · have hb1 : Below w.heap.size w w1 := ((hI.bel).alloc hI.bel.size _).grown hg1 (by have := hI.bel.size; simp; omega) (fun k e => by have := (h2.lt k e).1; omega)
      exact hb1.setCell (p := ⟨_, _, none⟩) (Nat.le_refl _) _
    · rw [List.length_append, ← HM.out]
      exact hown.kept (grownBy_setCell' _ _ _) (.inr (hv1.not_row (by decide) hown).symm)
    · have step : ∀ (q : List Int) (z : Value), InN (w.heap.size + 1) g v'.ownBlock W z q → InN (w.heap.size + 1) g (Value.slice (some ⟨g', 0, none⟩) (pre.length + 1) cap').ownBlock (w1.setCell ⟨w.heap.size, 0, none⟩ (.slice (some ⟨g', 0, none⟩) (pre.length + 1) cap')) z q := by
        intro q z hq
        have q1 := hq.grown (World.grownBy_alloc W (.cells #[.slice Au f.length cu] 22) none) (fun r e => by cases e)
        have q2 := q1.grown hg1 (fun r e => .inr (.inl e.symm))
        have q3 := hq.chg q2 hgro
        exact q3.grown (grownBy_setCell' _ _ _) (fun r e => by cases e; exact .inr (.inr (.inl (by omega))))
      intro x hx
      rcases List.mem_append.1 hx with hx | hx
      · exact step _ _ (hI.els x hx)
      · simp at hx
        subst hx
        exact step _ _ (by rw [← hsz0]; exact HIn.out)
    · intro k e
      rcases hgro with h | ⟨j, h, hj⟩
      · exact hI.ng k (h.symm.trans e)
      · rw [h] at e
        injection e with e
        omega
  case done =>
    rintro D g xs ow W hD hgb hS hI hK
    obtain ⟨v', h1, h2, rfl⟩ := hI.row
    have c1 := h1.cell
    have hvs := hI.vs h2
    rw [hS] at hvs
    obtain ⟨A, c, rfl⟩ := hvs.form
    have HVs := Lib.hid hvs
    have HB := Lib.hid hI.bel
    clear hvs hI h2
    gi_wp2_with fail
    refine ⟨by simp, .inl ⟨_, _, rfl, run_takeDeferred hK, ?_⟩⟩
    exact ⟨_, results_tmp rfl _ _ _, ⟨_, rfl, HVs.out.put _ hK rfl⟩, HB.out.trans (belowK_b (w := w) (Nat.le_refl _) W D _ _ (by omega) hK rfl rfl)⟩
theorem collect_fates (V0 w : World) (v vc : Value) (b : Bk) (N Hb : Nat) (hv : HsV V0 v b vc) (hsm : Sm b) (hval : Val b) (hN : (vers b).length = N) (hs : N ≤ 1000) (hM : (fatesF b N []).length ≤ 100000) (hbox : ∃ fs, v = .agg fs ∧ V0.heap[Hb]? = some (.cells fs 67)) (hw : Below V0.heap.size V0 w) :
    Calls Try.prog 69 #[.func (.func 100) #[] #[.pointer (some ⟨Hb, 0, none⟩)]] w
      fun e w' => (∃ r, e = .returned r ∧ VsSl w' w'.heap.size r (fatesF b N [])) ∧ Below w.heap.size w w' := by
  have HA := Lib.hid ((callsIn_wide (n := 4)).1 (appendSeq_fates 4 (Nat.le_refl _) V0 w v vc b N Hb hv hsm hval hN hs hM hbox hw))
  clear hv hbox hw hsm hval hM
  go_enter Try.func69, Try.ntmps69
  go_wp2_with fail
  (with_reducible refine HA.out.mono ?_)
  rintro e w1 ⟨⟨r, rfl, hr⟩, hB⟩
  obtain ⟨A, c, rfl⟩ := hr.form
  have HR := Lib.hid (And.intro hr hB)
  clear hr hB
  go_wp2_with fail
  go_ret
  exact ⟨⟨_, rfl, HR.out.1⟩, HR.out.2⟩
end Go.Proofs.Ytplpogonkfnafaa
