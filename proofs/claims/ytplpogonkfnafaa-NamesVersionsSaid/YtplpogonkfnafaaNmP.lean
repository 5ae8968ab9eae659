/- openAt. -/
import Derived.Test.YtplpogonkfnafaaNmO
import Derived.Test.YtplpogonkfnafaaNmF
namespace Go.Proofs.Ytplpogonkfnafaa
open Go.RowKit Go.Nm

theorem arr36 {t : Array Value} (h : t.size = 36) : ∃ f : Nat → Value, t = #[f 0, f 1, f 2, f 3, f 4, f 5, f 6, f 7, f 8, f 9, f 10, f 11, f 12, f 13, f 14, f 15, f 16, f 17, f 18, f 19, f 20, f 21, f 22, f 23, f 24, f 25, f 26, f 27, f 28, f 29, f 30, f 31, f 32, f 33, f 34, f 35] := by
  refine ⟨fun k => t.getD k undef, ?_⟩
  apply Array.ext
  · simpa using h
  · intro i h1 h2
    have : i < 36 := by omega
    have hi : i = 0 ∨ i = 1 ∨ i = 2 ∨ i = 3 ∨ i = 4 ∨ i = 5 ∨ i = 6 ∨ i = 7 ∨ i = 8 ∨ i = 9 ∨ i = 10 ∨ i = 11 ∨ i = 12 ∨ i = 13 ∨ i = 14 ∨ i = 15 ∨ i = 16 ∨ i = 17 ∨ i = 18 ∨ i = 19 ∨ i = 20 ∨ i = 21 ∨ i = 22 ∨ i = 23 ∨ i = 24 ∨ i = 25 ∨ i = 26 ∨ i = 27 ∨ i = 28 ∨ i = 29 ∨ i = 30 ∨ i = 31 ∨ i = 32 ∨ i = 33 ∨ i = 34 ∨ i = 35 := by omega
    rcases hi with rfl | rfl | rfl | rfl | rfl | rfl | rfl | rfl | rfl | rfl | rfl | rfl | rfl | rfl | rfl | rfl | rfl | rfl | rfl | rfl | rfl | rfl | rfl | rfl | rfl | rfl | rfl | rfl | rfl | rfl | rfl | rfl | rfl | rfl | rfl | rfl <;> simp [Array.getD, h1]
def onlyN (K : Act → World → Prop) : Exit → Act → World → Prop
  | .normal, a, w => K a w
  | _, _, _ => False
def fst1 : Value → Value
  | .tuple ⟨[u, _]⟩ => u
  | _ => undef
/-- what open returned -/
def HsW (b : Bk) (vc : Value) (er : Int) (u : Value) (X : World) : Prop :=
  ∃ A n c A' n' c', u = .agg #[.slice A n c, .slice A' n' c'] ∧ (er = 0 → .slice A' n' c' = vc ∧ VsSl X X.heap.size (.slice A n c) (vers b)) ∧ (er ≠ 0 → u = nilH)
theorem HsW.step {b : Bk} {vc : Value} {er : Int} {u : Value} {X Y : World} (h : HsW b vc er u X) (hb : Below X.heap.size X Y) : HsW b vc er u Y := by
  obtain ⟨A, n, c, A', n', c', e, h1, h2⟩ := h
  exact ⟨A, n, c, A', n', c', e, fun e0 => ⟨(h1 e0).1, ((h1 e0).2.below hb).mono hb.size⟩, h2⟩
theorem HsW.store {b : Bk} {vc : Value} {er : Int} {u : Value} {X : World} {g : Nat} (h : HsW b vc er u X) (h0 : X.cell? ⟨g, 0, none⟩ = some (.slice none 0 0)) (h1 : X.cell? ⟨g, 1, none⟩ = some (.slice none 0 0)) (p q : Value) :
    HsW b vc er u ((X.setCell ⟨g, 0, none⟩ p).setCell ⟨g, 1, none⟩ q) := by
  obtain ⟨A, n, c, A', n', c', e, g1, g2⟩ := h
  refine ⟨A, n, c, A', n', c', e, fun e0 => ⟨(g1 e0).1, ?_⟩, g2⟩
  have hs : ((X.setCell ⟨g, 0, none⟩ p).setCell ⟨g, 1, none⟩ q).heap.size = X.heap.size := by simp
  rw [hs]
  refine ((g1 e0).2.store vers_ne h0 p).store vers_ne ?_ q
  rw [World.cell?_setCell_other _ _ _ _ (by intro e; injection e with e1 e2; omega)]
  exact h1
theorem HsW.of_op {b : Bk} {vc : Value} {er : Int} {w w' : World} {e : Ending} (h : OpR b vc er w e w') (hc : ∃ A n c, vc = .slice A n c) : ∃ u, e = .returned (.tuple #[u, .int .i64 er]) ∧ HsW b vc er u w' ∧ Below w.heap.size w w' := by
  obtain ⟨u, e1, h0, h1, hb⟩ := h
  by_cases he : er = 0
  · obtain ⟨vs, e2, hv, _⟩ := h0 he
    obtain ⟨A, c, e3⟩ := hv.form
    obtain ⟨A', n', c', e4⟩ := hc
    subst e3; subst e4
    exact ⟨u, e1, ⟨A, _, c, A', n', c', e2, fun _ => ⟨rfl, hv⟩, fun h => absurd he h⟩, hb⟩
  · have := h1 he
    exact ⟨u, e1, ⟨none, 0, 0, none, 0, 0, this, fun h => absurd h he, fun _ => this⟩, hb⟩
theorem run_append_int {o : Oper} {a : Act} {w : World} {K : Act → World → Prop} {Q : Exit → Act → World → Prop} (s x : Operand) (ho : o.op = .call { callee := .builtin .append, args := #[s, x], argTypes := #[22, 22] })
    (M : Nat) (v : Value) (L : List Int) (z : Int) (hs : a.eval s = v) (hown : w.ownsRow M 3 1 v L.length (intsV L)) (g : Nat) (hx : a.eval x = .slice (some ⟨g, 0, none⟩) 1 1) (hc : w.heap[g]? = some (.cells #[.int .i64 z] 3)) (hn : L.length ≤ 1000000) (hM : M ≤ w.heap.size)
    (h : ∀ v' w', w'.ownsRow M 3 1 v' (L ++ [z]).length (intsV (L ++ [z])) → w.grownBy w' v.ownBlock → (v'.ownBlock = v.ownBlock ∨ v'.ownBlock = some w.heap.size) → K (a.put o.dst v') w') : o.wp Try.prog a w K Q := by
  obtain ⟨i0, hi0, hz0, hz1, hz2⟩ := infoI
  obtain ⟨v', w', hr, h2, h3, _, h5⟩ := run_append_own_at (P := Try.prog) (w := w) M 22 o.type 3 i0 (.int .i64 0) 1 8 Try.underlying22 hi0 hz0 hz1 hz2 rfl (by decide) v L.length (intsV L) hown ⟨g, 0, none⟩ 1 1 [.int .i64 z] rfl
    (fun j u hj => by
      have e : (⟨g, 0, none⟩ : Addr).add j = ⟨g, j, none⟩ := by
        unfold Addr.add
        split
        · rename_i h; rw [h]
        · simp
      rw [e]
      simpa [World.cell?, hc] using hj) (fun u hu => by simp at hu; subst hu; rfl) (by unfold maxLen; omega) (by omega) hM
  unfold Oper.wp execOp
  simp only [ho, resolve, invoke, builtin, Sem.run_bind, Sem.run_pure, Result.andThen_ok, List.map_toArray, List.map_cons, List.map_nil, hs, hx, hr]
  exact h v' w' (by rw [List.length_append, intsV_append]; exact h2) h3 h5
/-- while the history is opened: what holds, by which operations are done -/
structure OaG (W0 w : World) (v1 vc t : Value) (n x : Int) (V : List Int) (b : Bk) (er : Int) (dn : Nat → Bool) (a : Act) (X : World) : Prop where
  sz : a.tmps.size = 36
  t1 : a.tmps.getD 1 undef = .int .i64 n
  t2 : a.tmps.getD 2 undef = .int .i64 x
  t3 : a.tmps.getD 3 undef = t
  t4 : a.tmps.getD 4 undef = .pointer (some ⟨w.heap.size, 0, none⟩)
  t8 : a.tmps.getD 8 undef = .pointer (some ⟨w.heap.size + 1, 0, none⟩)
  t9 : a.tmps.getD 9 undef = .int .i64 0
  ds : a.defers = []
  bel : Below W0.heap.size W0 X
  box : X.heap[w.heap.size]? = some (.cells #[v1, vc] 25)
  res : X.heap[w.heap.size + 1]? = some (.cells #[.slice none 0 0, .slice none 0 0] 67)
  e0 : dn 0 = true → a.tmps.getD 13 undef = .agg #[v1, vc]
  e1 : dn 1 = true → a.tmps.getD 14 undef = t
  e2 : dn 2 = true → a.tmps.getD 15 undef = .int .i64 n
  e3 : dn 3 = true → dn 4 = false → ∃ g, a.tmps.getD 16 undef = .slice (some ⟨g, 0, none⟩) 1 1 ∧ X.heap[g]? = some (.cells #[.int .i64 n] 3)
  own : dn 4 = false → X.ownsRow W0.heap.size 3 1 t V.length (intsV V)
  e4 : dn 4 = true → dn 5 = false → InSl X X.heap.size (a.tmps.getD 17 undef) (V ++ [n])
  e5 : dn 5 = true → ∃ u, a.tmps.getD 18 undef = .tuple #[u, .int .i64 er] ∧ HsW b vc er u X
  e6 : dn 6 = true → a.tmps.getD 12 undef = a.tmps.getD 18 undef
  e7 : dn 7 = true → a.tmps.getD 19 undef = fst1 (a.tmps.getD 18 undef)
  e8 : dn 8 = true → a.tmps.getD 20 undef = .int .i64 er
  e9 : dn 9 = true → dn 10 = false → ∃ g, a.tmps.getD 10 undef = .pointer (some ⟨g, 0, none⟩) ∧ X.heap[g]? = some (.cells #[.slice none 0 0, .slice none 0 0] 67) ∧ w.heap.size + 1 < g
  e10 : dn 10 = true → ∃ g p q, a.tmps.getD 10 undef = .pointer (some ⟨g, 0, none⟩) ∧ a.tmps.getD 18 undef = .tuple #[.agg #[p, q], .int .i64 er] ∧ X.heap[g]? = some (.cells #[p, q] 67) ∧ w.heap.size + 1 < g
  e11 : dn 11 = true → a.tmps.getD 11 undef = .int .i64 er
  o4 : dn 4 = true → dn 1 = true ∧ dn 3 = true
  o5 : dn 5 = true → dn 0 = true ∧ dn 4 = true
  o6 : dn 6 = true → dn 5 = true
  o7 : dn 7 = true → dn 6 = true
  o10 : dn 10 = true → dn 5 = true ∧ dn 9 = true
theorem BkV.step' {W0 X : World} {v vc : Value} {b : Bk} (h : BkV W0 v b vc) (hb : Below W0.heap.size W0 X) : BkV X v b vc := h.step hb
/-- what openAt tells -/
def openAtE (b : Bk) (V : List Int) (n x : Int) : Int := if openE b (V ++ [n]) = 0 then (if x ∈ (vers b).getD n.toNat [] then 0 else 22) else openE b (V ++ [n])
theorem HsV.fin2 {W0 W : World} {G : Nat} {vs vc : Value} {b : Bk} (h : HsV W (.agg #[vs, vc]) b vc) (hb : Below W0.heap.size W0 W) (hG : W0.heap.size ≤ G) (h2 : ChSl W0 W0.heap.size vc b.chs) (r0 : W.cell? ⟨G, 0, none⟩ = some (.slice none 0 0)) (r1 : W.cell? ⟨G, 1, none⟩ = some (.slice none 0 0)) :
    HsV ((W.setCell ⟨G, 0, none⟩ vs).setCell ⟨G, 1, none⟩ vc) (.agg #[vs, vc]) b vc ∧ Below W0.heap.size W0 ((W.setCell ⟨G, 0, none⟩ vs).setCell ⟨G, 1, none⟩ vc) := by
  obtain ⟨vs', e, h1, _⟩ := h
  simp only [Value.agg.injEq, Array.mk.injEq, List.cons.injEq, and_true] at e
  subst e
  have hb2 : Below W0.heap.size W0 ((W.setCell ⟨G, 0, none⟩ vs).setCell ⟨G, 1, none⟩ vc) := (hb.setCell hG _).setCell hG _
  refine ⟨⟨vs, rfl, ?_, h2.step hb2⟩, hb2⟩
  have hs : ((W.setCell ⟨G, 0, none⟩ vs).setCell ⟨G, 1, none⟩ vc).heap.size = W.heap.size := by simp
  rw [hs]
  refine (h1.store vers_ne r0 vs).store vers_ne ?_ vc
  rw [World.cell?_setCell_other _ _ _ _ (by intro e; injection e with e1 e2; omega)]
  exact r1
theorem BkV.chs {w : World} {v vc : Value} {b : Bk} (h : BkV w v b vc) : ChSl w w.heap.size vc b.chs := by
  obtain ⟨v1, _, _, h2⟩ := h; exact h2
theorem versF_ok : ∀ (l : List Ch) (a : List Int) (y : Int), Inc a → a.length ≤ 400 → ∀ L ∈ versF a y l, Inc L ∧ L.length ≤ 400
  | [], a, y, h, h4, L, hL => by simp [versF] at hL; subst hL; exact ⟨h, h4⟩
  | x :: l, a, y, h, h4, L, hL => by
    unfold versF at hL
    split at hL
    · rename_i hx
      rcases List.mem_cons.1 hL with rfl | hL
      · exact ⟨h, h4⟩
      · refine versF_ok l _ _ (rep_inc h hx.2.2.1.2.2.1 hx.2.2.2.1.2.2.1 fun z hz hza => Classical.byContradiction fun hn => hx.2.2.2.2.2.1 z ((mem_wo hx.2.2.2.1.2.2.1 hx.2.2.1.2.2.1 z).2 ⟨hz, hn⟩) hza) hx.2.2.2.2.2.2 L hL
    · simp at hL; subst hL; exact ⟨h, h4⟩
theorem vers_ok {b : Bk} : ∀ L ∈ vers b, Inc L ∧ L.length ≤ 400 := fun L hL => by
  unfold vers at hL
  split at hL
  · rename_i h; exact versF_ok _ _ _ h.2.2.1 h.2.1 L hL
  · simp at hL
theorem openE_zero {b : Bk} {V : List Int} {n : Int} (h : openE b (V ++ [n]) = 0) : 0 ≤ n ∧ n < (vers b).length := by
  unfold openE at h
  split at h
  · split at h
    · rename_i h2; exact h2 n (by simp)
    · cases h
  · cases h
def OaR (W0 : World) (b : Bk) (vc : Value) (ea : Int) (e : Ending) (w' : World) : Prop := ∃ u, e = .returned (.tuple #[u, .int .i64 ea]) ∧ (ea = 0 → HsV w' u b vc) ∧ (ea ≠ 0 → u = nilH) ∧ Below W0.heap.size W0 w'
theorem OaR.bad {W0 w' : World} {b : Bk} {vc : Value} {ea : Int} (h : ea ≠ 0) (hb : Below W0.heap.size W0 w') : OaR W0 b vc ea (.returned (.tuple #[.agg #[.slice none 0 0, .slice none 0 0], .int .i64 ea])) w' := ⟨_, rfl, fun e => absurd e h, fun _ => rfl, hb⟩
theorem OaR.good {W0 w' : World} {b : Bk} {vc u : Value} (h : HsV w' u b vc) (hb : Below W0.heap.size W0 w') : OaR W0 b vc 0 (.returned (.tuple #[u, .int .i64 0])) w' := ⟨u, rfl, fun _ => h, fun e => absurd rfl e, hb⟩
/-- when all is done -/
theorem OaG.all {W0 w : World} {v1 vc t : Value} {n x : Int} {V : List Int} {b : Bk} {er : Int} {dn : Nat → Bool} {a : Act} {X : World} (h : OaG W0 w v1 vc t n x V b er dn a X) (hd : ∀ j, j < 12 → dn j = true) : OaG W0 w v1 vc t n x V b er (fun _ => true) a X :=
  ⟨h.sz, h.t1, h.t2, h.t3, h.t4, h.t8, h.t9, h.ds, h.bel, h.box, h.res, fun _ => h.e0 (hd 0 (by omega)), fun _ => h.e1 (hd 1 (by omega)), fun _ => h.e2 (hd 2 (by omega)), (fun _ e => nomatch e), (fun e => nomatch e), (fun _ e => nomatch e), fun _ => h.e5 (hd 5 (by omega)), fun _ => h.e6 (hd 6 (by omega)), fun _ => h.e7 (hd 7 (by omega)), fun _ => h.e8 (hd 8 (by omega)), (fun _ e => nomatch e), fun _ => h.e10 (hd 10 (by omega)), fun _ => h.e11 (hd 11 (by omega)), fun _ => ⟨rfl, rfl⟩, fun _ => ⟨rfl, rfl⟩, fun _ => rfl, fun _ => rfl, fun _ => ⟨rfl, rfl⟩⟩
set_option maxRecDepth 100000 in
set_option maxHeartbeats 16000000 in
theorem openAt_any (W0 w : World) (v vc t : Value) (n x : Int) (V : List Int) (b : Bk) (hbk : BkV W0 v b vc) (hsm : Sm b) (hW : Below W0.heap.size W0 w) (ht : w.ownsRow W0.heap.size 3 1 t V.length (intsV V)) (hV : V.length ≤ 900) :
    Calls Try.prog 73 #[v, .int .i64 n, .int .i64 x, t] w (OaR W0 b vc (openAtE b V n x)) := by
  obtain ⟨v1, rfl, hb1, hb2⟩ := hbk
  have HBk := Lib.hid (show BkV W0 (.agg #[v1, vc]) b vc from ⟨v1, rfl, hb1, hb2⟩)
  have HVc := Lib.hid (show ∃ A n c, vc = .slice A n c from by obtain ⟨A, c, e⟩ := hb2.form; exact ⟨A, _, c, e⟩)
  have HSm := Lib.hid hsm
  have HT0 := Lib.hid (show ∀ g, t.ownBlock = some g → g < w.heap.size from fun g e => (ht.lt g e).2)
  have HO := Lib.hid ht
  have HW := Lib.hid hW
  obtain ⟨er, herr⟩ : ∃ er, openE b (V ++ [n]) = er := ⟨_, rfl⟩
  have HErr := Lib.hid herr
  obtain ⟨A1, c1, rfl, _⟩ := hb1.form
  obtain ⟨A2, c2, rfl⟩ := hb2.form
  have HAt := Lib.hid (show openAtE b V n x = if openE b (V ++ [n]) = 0 then (if x ∈ (vers b).getD n.toNat [] then 0 else 22) else openE b (V ++ [n]) from rfl)
  generalize openAtE b V n x = ea at *
  clear hb1 hb2 hsm ht hW herr
  have HW2 := Lib.hid (show Below W0.heap.size W0 ((w.alloc (.cells #[.slice A1 b.first.length c1, .slice A2 b.chs.length c2] 25)).alloc (.cells #[.slice none 0 0, .slice none 0 0] 67)) from (HW.out.alloc HW.out.size _).alloc (by have := HW.out.size; simp; omega) _)
  have HR0 := Lib.hid (And.intro ((Below.heap_alloc (w.alloc (.cells #[.slice A1 b.first.length c1, .slice A2 b.chs.length c2] 25)) (.cells #[.slice none 0 0, .slice none 0 0] 67) w.heap.size (by simp)).trans (World.alloc_heap_new w (.cells #[.slice A1 b.first.length c1, .slice A2 b.chs.length c2] 25))) (two_new w (.cells #[.slice A1 b.first.length c1, .slice A2 b.chs.length c2] 25) (.cells #[.slice none 0 0, .slice none 0 0] 67)))
  have HOw := Lib.hid ((HO.out.alloc (.cells #[.slice A1 b.first.length c1, .slice A2 b.chs.length c2] 25)).alloc (.cells #[.slice none 0 0, .slice none 0 0] 67))
  go_enter Try.func73, Try.ntmps73
  go_wp2_with fail
  refine wp_mono (Q := onlyN (fun a' Y => OaG W0 w (.slice A1 b.first.length c1) (.slice A2 b.chs.length c2) t n x V b er (fun _ => true) a' Y)) ?_ ?_
  · refine wp_region_done (OaG W0 w (.slice A1 b.first.length c1) (.slice A2 b.chs.length c2) t n x V b er) (by kernel_rfl) (by kernel_rfl) ?_ ?_ ?_
    · exact ⟨rfl, rfl, rfl, rfl, rfl, rfl, rfl, rfl, HW2.out.drew, HR0.out.1, HR0.out.2, (fun h => nomatch h), (fun h => nomatch h), (fun h => nomatch h), (fun h => nomatch h), (fun _ => HOw.out), (fun h => nomatch h), (fun h => nomatch h), (fun h => nomatch h), (fun h => nomatch h), (fun h => nomatch h), (fun h => nomatch h), (fun h => nomatch h), (fun h => nomatch h), (fun h => nomatch h), (fun h => nomatch h), (fun h => nomatch h), (fun h => nomatch h), (fun h => nomatch h)⟩
    · intro dn i o hi hd hD a Y hG
      obtain ⟨tm, ds⟩ := a
      obtain ⟨hsz, t1, t2, t3, t4, t8, t9, hds, bel, box, res, e0, e1, e2, e3, own, e4, e5, e6, e7, e8, e9, e10, e11, o4, o5, o6, o7, o10⟩ := hG
      obtain ⟨fn, rfl⟩ := arr36 hsz
      have HT := HT0.out
      have HV : V.length ≤ 1000000 := by omega
      have hi12 : i < 12 := by
        have := (Array.getElem?_eq_some_iff.1 hi).1
        simpa using this
      simp [Array.getD] at t1 t2 t3 t4 t8 t9
      rcases (show i = 0 ∨ i = 1 ∨ i = 2 ∨ i = 3 ∨ i = 4 ∨ i = 5 ∨ i = 6 ∨ i = 7 ∨ i = 8 ∨ i = 9 ∨ i = 10 ∨ i = 11 by omega) with rfl | rfl | rfl | rfl | rfl | rfl | rfl | rfl | rfl | rfl | rfl | rfl
      · obtain rfl := Option.some.inj hi
        obtain ⟨q0, q1⟩ := cells_two box
        refine wpOp_bare hi rfl ?_
        go_simp
        exact ⟨rfl, rfl, rfl, rfl, rfl, rfl, rfl, hds, bel, box, res, (fun _ => rfl), e1, e2, e3, own, e4, e5, e6, e7, e8, e9, e10, e11, o4, (fun h => ⟨rfl, (o5 h).2⟩), o6, o7, o10⟩
      · obtain rfl := Option.some.inj hi
        refine wpOp_bare hi rfl ?_
        go_simp
        exact ⟨rfl, rfl, rfl, rfl, rfl, rfl, rfl, hds, bel, box, res, e0, (fun _ => rfl), e2, e3, own, e4, e5, e6, e7, e8, e9, e10, e11, (fun h => ⟨rfl, (o4 h).2⟩), o5, o6, o7, o10⟩
      · obtain rfl := Option.some.inj hi
        refine wpOp_bare hi rfl ?_
        go_simp
        exact ⟨rfl, rfl, rfl, rfl, rfl, rfl, rfl, hds, bel, box, res, e0, e1, (fun _ => rfl), e3, own, e4, e5, e6, e7, e8, e9, e10, e11, o4, o5, o6, o7, o10⟩
      · obtain rfl := Option.some.inj hi
        have d2 := e2 (hD ⟨2, .data⟩ (by simp) rfl)
        simp [Array.getD] at d2
        have HB := below_new (w := Y) (.cells #[.int .i64 n] 3)
        refine wpOp_bare hi rfl ?_
        go_simp
        exact ⟨rfl, rfl, rfl, rfl, rfl, rfl, rfl, hds, bel.trans (HB.mono bel.size), (HB.block _ (Array.getElem?_eq_some_iff.1 box).1).trans box, (HB.block _ (Array.getElem?_eq_some_iff.1 res).1).trans res, e0, e1, (fun _ => rfl), (fun _ _ => ⟨_, rfl, World.alloc_heap_new Y _⟩), (fun h => own_step (own h) HB), (fun h1 h2 => (e4 h1 h2).step HB), (fun h => by obtain ⟨u, h1, h2⟩ := e5 h; exact ⟨u, h1, h2.step HB⟩), e6, e7, e8, (fun h1 h2 => by obtain ⟨g, h3, h4, h5⟩ := e9 h1 h2; exact ⟨g, h3, (HB.block _ (Array.getElem?_eq_some_iff.1 h4).1).trans h4, h5⟩), (fun h => by obtain ⟨g, p, q, h3, h3b, h4, h5⟩ := e10 h; exact ⟨g, p, q, h3, h3b, (HB.block _ (Array.getElem?_eq_some_iff.1 h4).1).trans h4, h5⟩), e11, (fun h => ⟨(o4 h).1, rfl⟩), o5, o6, o7, o10⟩
      · obtain rfl := Option.some.inj hi
        have d1 := e1 (hD ⟨1, .data⟩ (by simp) rfl)
        simp [Array.getD] at d1
        obtain ⟨g3, d3, hb3⟩ := e3 (hD ⟨3, .data⟩ (by simp) rfl) hd
        simp [Array.getD] at d3
        have hO := own hd
        refine wpOp_bare hi rfl ?_
        refine run_append_int (.tmp 14) (.tmp 16) rfl W0.heap.size t V n d1 hO g3 d3 hb3 HV bel.size ?_
        intro v' w' ho hg hob
        exact ⟨rfl, t1, t2, t3, t4, t8, t9, hds, bel.grown hg bel.size (fun r e => (hO.lt r e).1), (hg.block _ (Array.getElem?_eq_some_iff.1 box).1 (fun e => by have := HT _ e.symm; omega)).trans box, (hg.block _ (Array.getElem?_eq_some_iff.1 res).1 (fun e => by have := HT _ e.symm; omega)).trans res, e0, e1, e2, (fun _ h => nomatch h), (fun h => nomatch h), (fun _ _ => (show OwN W0 v' (V ++ [n]) w' from ⟨bel.grown hg bel.size (fun r e => (hO.lt r e).1), ho⟩).sl), (fun h => absurd (hd.symm.trans (o5 h).2) (by decide)), e6, e7, e8, (fun h1 h2 => by obtain ⟨g, h3, h4, h5⟩ := e9 h1 h2; exact ⟨g, h3, (hg.block _ (Array.getElem?_eq_some_iff.1 h4).1 (fun e => by have := HT _ e.symm; omega)).trans h4, h5⟩), (fun h => absurd (hd.symm.trans (o5 (o10 h).1).2) (by decide)), e11, (fun _ => ⟨hD ⟨1, .data⟩ (by simp) rfl, hD ⟨3, .data⟩ (by simp) rfl⟩), (fun h => ⟨(o5 h).1, rfl⟩), o6, o7, o10⟩
      · obtain rfl := Option.some.inj hi
        have d0 := e0 (hD ⟨0, .data⟩ (by simp) rfl)
        simp [Array.getD] at d0
        have y4 := hD ⟨4, .data⟩ (by simp) rfl
        have d4 := e4 y4 hd
        obtain ⟨vv, ev⟩ : ∃ vv, fn 17 = vv := ⟨_, rfl⟩
        have d4' : InSl Y Y.heap.size vv (V ++ [n]) := by rw [← ev]; exact d4
        have hC := Lib.hid (open_any _ _ vv b (V ++ [n]) Y (HBk.out.step' bel) HSm.out d4' (by rw [List.length_append]; simp; omega))
        have HB4 := Lib.hid d4'
        clear d4 d4'
        refine wpOp_bare hi rfl ?_
        go_simp
        (try simp only [ev])
        refine hC.out.mono ?_
        rintro e Y' hop
        rw [HErr.out] at hop
        obtain ⟨u, rfl, hu, HB⟩ := HsW.of_op hop HVc.out
        exact ⟨rfl, rfl, rfl, rfl, rfl, rfl, rfl, hds, bel.trans (HB.mono bel.size), (HB.block _ (Array.getElem?_eq_some_iff.1 box).1).trans box, (HB.block _ (Array.getElem?_eq_some_iff.1 res).1).trans res, (fun _ => rfl), e1, e2, (fun h1 h2 => by obtain ⟨g, h3, h4⟩ := e3 h1 h2; exact ⟨g, h3, (HB.block _ (Array.getElem?_eq_some_iff.1 h4).1).trans h4⟩), (fun h => own_step (own h) HB), (fun _ h => nomatch h), (fun _ => ⟨_, rfl, hu⟩), (fun h => absurd (hd.symm.trans (o6 h)) (by decide)), (fun h => absurd (hd.symm.trans (o6 (o7 h))) (by decide)), e8, (fun h1 h2 => by obtain ⟨g, h3, h4, h5⟩ := e9 h1 h2; exact ⟨g, h3, (HB.block _ (Array.getElem?_eq_some_iff.1 h4).1).trans h4, h5⟩), (fun h => absurd (hd.symm.trans (o10 h).1) (by decide)), e11, o4, (fun _ => ⟨hD ⟨0, .data⟩ (by simp) rfl, y4⟩), (fun _ => rfl), o7, (fun h => ⟨rfl, (o10 h).2⟩)⟩
      · obtain rfl := Option.some.inj hi
        have y5 := hD ⟨5, .data⟩ (by simp) rfl
        obtain ⟨u, d5, hu⟩ := e5 y5
        simp [Array.getD] at d5
        refine wpOp_bare hi rfl ?_
        go_simp
        exact ⟨rfl, rfl, rfl, rfl, rfl, rfl, rfl, hds, bel, box, res, e0, e1, e2, e3, own, e4, (fun _ => ⟨u, rfl, hu⟩), (fun _ => rfl), (fun h => (e7 h).trans (congrArg fst1 d5)), e8, e9, (fun h => by obtain ⟨g, p, q, h1, h2, h3, h4⟩ := e10 h; exact ⟨g, p, q, h1, d5.symm.trans h2, h3, h4⟩), e11, o4, o5, (fun _ => y5), (fun h => rfl), o10⟩
      · obtain rfl := Option.some.inj hi
        have y6 := hD ⟨6, .data⟩ (by simp) rfl
        obtain ⟨u, d5, hu⟩ := e5 (o6 y6)
        have d6 := e6 y6
        simp [Array.getD] at d5 d6
        rw [d5] at d6
        refine wpOp_bare hi rfl ?_
        go_simp
        exact ⟨rfl, rfl, rfl, rfl, rfl, rfl, rfl, hds, bel, box, res, e0, e1, e2, e3, own, e4, (fun _ => ⟨u, rfl, hu⟩), (fun _ => rfl), (fun _ => rfl), e8, e9, (fun h => by obtain ⟨g, p, q, h1, h2, h3, h4⟩ := e10 h; exact ⟨g, p, q, h1, d5.symm.trans h2, h3, h4⟩), e11, o4, o5, o6, (fun _ => y6), o10⟩
      · obtain rfl := Option.some.inj hi
        have y6 := hD ⟨6, .data⟩ (by simp) rfl
        obtain ⟨u, d5, hu⟩ := e5 (o6 y6)
        have d6 := e6 y6
        simp [Array.getD] at d5 d6
        rw [d5] at d6
        refine wpOp_bare hi rfl ?_
        go_simp
        exact ⟨rfl, rfl, rfl, rfl, rfl, rfl, rfl, hds, bel, box, res, e0, e1, e2, e3, own, e4, (fun _ => ⟨u, rfl, hu⟩), (fun _ => rfl), (fun h => (e7 h).trans (congrArg fst1 d5)), (fun _ => rfl), e9, (fun h => by obtain ⟨g, p, q, h1, h2, h3, h4⟩ := e10 h; exact ⟨g, p, q, h1, d5.symm.trans h2, h3, h4⟩), e11, o4, o5, o6, o7, o10⟩
      · obtain rfl := Option.some.inj hi
        have HB := below_new (w := Y) (.cells #[.slice none 0 0, .slice none 0 0] 67)
        refine wpOp_bare hi rfl ?_
        go_simp
        exact ⟨rfl, rfl, rfl, rfl, rfl, rfl, rfl, hds, bel.trans (HB.mono bel.size), (HB.block _ (Array.getElem?_eq_some_iff.1 box).1).trans box, (HB.block _ (Array.getElem?_eq_some_iff.1 res).1).trans res, e0, e1, e2, (fun h1 h2 => by obtain ⟨g, h3, h4⟩ := e3 h1 h2; exact ⟨g, h3, (HB.block _ (Array.getElem?_eq_some_iff.1 h4).1).trans h4⟩), (fun h => own_step (own h) HB), (fun h1 h2 => (e4 h1 h2).step HB), (fun h => by obtain ⟨u, h1, h2⟩ := e5 h; exact ⟨u, h1, h2.step HB⟩), e6, e7, e8, (fun _ _ => ⟨_, rfl, World.alloc_heap_new Y _, (Array.getElem?_eq_some_iff.1 res).1⟩), (fun h => absurd (hd.symm.trans (o10 h).2) (by decide)), e11, o4, o5, o6, o7, (fun h => ⟨(o10 h).1, rfl⟩)⟩
      · obtain rfl := Option.some.inj hi
        have y5 := hD ⟨5, .chain⟩ (by simp) rfl
        have y7 := hD ⟨7, .data⟩ (by simp) rfl
        have y9 := hD ⟨9, .data⟩ (by simp) rfl
        have y4 := (o5 y5).2
        obtain ⟨u, d5, hu⟩ := e5 y5
        have d7 := e7 y7
        simp [Array.getD] at d5 d7
        obtain ⟨g9, d9, h94, h95⟩ := e9 y9 hd
        simp [Array.getD] at d9
        have hu' := hu
        obtain ⟨Ap, np, cp, Aq, nq, cq, rfl, hu0, hu1⟩ := hu
        rw [d5] at d7
        simp only [fst1] at d7
        obtain ⟨c90, c91⟩ := cells_two h94
        have f90 := frozen_cells h94 0
        have f91 := frozen_cells h94 1
        have hnb : ∀ k, k ≠ g9 → ((Y.setCell ⟨g9, 0, none⟩ (.slice Ap np cp)).setCell ⟨g9, 1, none⟩ (.slice Aq nq cq)).heap[k]? = Y.heap[k]? := fun k hk => by
          rw [heap_setCell_other _ _ _ _ hk, heap_setCell_other _ _ _ _ hk]
        have hst : ((Y.setCell ⟨g9, 0, none⟩ (.slice Ap np cp)).setCell ⟨g9, 1, none⟩ (.slice Aq nq cq)).heap[g9]? = some (.cells #[.slice Ap np cp, .slice Aq nq cq] 67) := by
          rw [heap_setCell_same _ g9 1 #[.slice Ap np cp, .slice none 0 0] _ _ (by rw [heap_setCell_same Y g9 0 _ _ _ h94]; rfl)]; rfl
        refine wpOp_bare hi rfl ?_
        go_simp
        exact ⟨rfl, rfl, rfl, rfl, rfl, rfl, rfl, hds, (bel.setCell (by show W0.heap.size ≤ g9; have := bel.size; have := HW.out.size; omega) _).setCell (by show W0.heap.size ≤ g9; have := HW.out.size; omega) _, (hnb _ (by omega)).trans box, (hnb _ (by omega)).trans res, e0, e1, e2, (fun _ h => absurd (y4.symm.trans h) (by decide)), (fun h => absurd (y4.symm.trans h) (by decide)), (fun _ h => absurd (y5.symm.trans h) (by decide)), (fun _ => ⟨_, rfl, HsW.store hu' c90 c91 _ _⟩), (fun h => (e6 h).trans d5), (fun _ => rfl), e8, (fun _ h => nomatch h), (fun _ => ⟨g9, _, _, rfl, rfl, hst, h95⟩), e11, o4, o5, o6, o7, (fun _ => ⟨y5, y9⟩)⟩
      · obtain rfl := Option.some.inj hi
        have d8 := e8 (hD ⟨8, .data⟩ (by simp) rfl)
        simp [Array.getD] at d8
        refine wpOp_bare hi rfl ?_
        go_simp
        exact ⟨rfl, rfl, rfl, rfl, rfl, rfl, rfl, hds, bel, box, res, e0, e1, e2, e3, own, e4, e5, e6, e7, (fun _ => rfl), e9, e10, (fun _ => rfl), o4, o5, o6, o7, o10⟩
    · intro dn a Y hdn hG
      have he : ∀ j, j < 12 → dn j = true := fun j hj => hdn j (by simpa using hj)
      exact hG.all he
  · rintro e ⟨tm, ds⟩ Y h
    cases e with
    | normal =>
      obtain ⟨hsz, t1, t2, t3, t4, t8, t9, hds, bel, box, res, e0, e1, e2, e3, own, e4, e5, e6, e7, e8, e9, e10, e11, o4, o5, o6, o7, o10⟩ := h
      obtain ⟨fn, rfl⟩ := arr36 hsz
      obtain ⟨u, d5, hu⟩ := e5 rfl
      obtain ⟨g9, p, q, d9, d5', hg9, h95⟩ := e10 rfl
      have d11 := e11 rfl
      have t1' : fn 1 = .int .i64 n := t1
      have t2' : fn 2 = .int .i64 x := t2
      have t8' : fn 8 = .pointer (some ⟨w.heap.size + 1, 0, none⟩) := t8
      have t9' : fn 9 = .int .i64 0 := t9
      have d9' : fn 10 = .pointer (some ⟨g9, 0, none⟩) := d9
      have d11' : fn 11 = .int .i64 er := d11
      have hds' : ds = [] := hds
      subst hds'
      have eu : u = .agg #[p, q] := by
        have := d5.symm.trans d5'
        simp only [Value.tuple.injEq, Array.mk.injEq, List.cons.injEq, and_true] at this
        exact this
      subst eu
      obtain ⟨Ap, np, cp, Aq, nq, cq, epq, hu0, hu1⟩ := hu
      simp only [Value.agg.injEq, Array.mk.injEq, List.cons.injEq, and_true] at epq
      obtain ⟨rfl, rfl⟩ := epq
      have HY := Lib.hid (And.intro bel (And.intro hu0 hu1))
      obtain ⟨k0, k1⟩ := cells_two hg9
      obtain ⟨r0, r1⟩ := cells_two res
      have f0 := frozen_cells res 0
      have f1 := frozen_cells res 1
      rw [t1', t2', t8', t9', d9', d11']
      clear t1 t2 t3 t4 t8 t9 hds box e0 e1 e2 e3 own e4 e5 e6 e7 e8 e9 e10 e11 o4 o5 o6 o7 o10 d5 d5' d9 d11 bel hu0 hu1 t1' t2' t8' t9' d9' d11'
      simp only [Exit.then]
      by_cases her : er = 0
      · subst her
        obtain ⟨hcq, hvs⟩ := HY.out.2.1 rfl
        obtain ⟨hn0, hn1⟩ := openE_zero HErr.out
        obtain ⟨k, rfl⟩ : ∃ k : Nat, n = (k : Int) := ⟨n.toNat, by omega⟩
        obtain ⟨Av, cv, ev⟩ := hvs.form
        injection ev with ev1 ev2 ev3
        subst ev1; subst ev2; subst ev3
        injection hcq with hc1 hc2 hc3
        subst hc1; subst hc2; subst hc3
        have hkl : k < (vers b).length := by omega
        obtain ⟨ad, uk, L, hAp, hadb, hL, hck, hinL⟩ := hvs.at_ hkl
        obtain ⟨hLi, hLl⟩ := vers_ok L (List.mem_of_getElem? hL)
        subst hAp
        obtain ⟨Ak, ck, rfl, _⟩ := hinL.form
        have HHas := Lib.hid (has_any _ L x Y hinL hLi (by omega))
        have HFin := Lib.hid (HsV.fin2 (G := w.heap.size + 1) ⟨_, rfl, hvs, HBk.out.chs.step HY.out.1⟩ HY.out.1 (by have := HW.out.size; omega) HBk.out.chs r0 r1)
        have HAt2 := Lib.hid (show ea = if x ∈ L then 0 else 22 from by
          rw [HAt.out, if_pos HErr.out, Int.toNat_natCast, List.getD_eq_getElem?_getD, hL]; rfl)
        have HWs := Lib.hid HW.out.size
        clear hvs hinL hLi hLl hL hadb HAt HErr
        generalize hvl : (vers b).length = vl at *
        clear hvl
        by_cases hx : x ∈ L
        · rw [decide_eq_true hx] at HHas
          have HE := Lib.hid (show ea = 0 from by rw [HAt2.out, if_pos hx])
          obtain rfl := HE.out
          clear hx HAt2
          go_wp2_with fail
          refine HHas.out.mono ?_
          rintro e w1 ⟨rfl, rfl⟩
          go_wp2_with fail
          exact bodyPost_ret (v := .tuple #[.agg #[.slice (some ad) vl cp, .slice Aq b.chs.length cq], .int .i64 0]) (by simp [results, Try.results73, go_sem, r0, r1]) rfl (OaR.good HFin.out.1 HFin.out.2)
        · rw [decide_eq_false hx] at HHas
          have HE := Lib.hid (show ea = 22 from by rw [HAt2.out, if_neg hx])
          obtain rfl := HE.out
          clear hx HAt2
          go_wp2_with fail
          refine HHas.out.mono ?_
          rintro e w1 ⟨rfl, rfl⟩
          go_wp2_with fail
          exact bodyPost_ret (v := .tuple #[.agg #[.slice none 0 0, .slice none 0 0], .int .i64 22]) (by simp [results, Try.results73, go_sem, r0, r1]) rfl (OaR.bad (by decide) ((HY.out.1.setCell (by show _ ≤ w.heap.size + 1; have := HWs.out; omega) _).setCell (by show _ ≤ w.heap.size + 1; have := HWs.out; omega) _))
      · have eu2 := HY.out.2.2 her
        simp only [nilH, Value.agg.injEq, Array.mk.injEq, List.cons.injEq, and_true, Value.slice.injEq] at eu2
        obtain ⟨⟨rfl, rfl, rfl⟩, rfl, rfl, rfl⟩ := eu2
        have HE := Lib.hid (show ea = er from by rw [HAt.out, HErr.out, if_neg her])
        obtain rfl := HE.out
        have HNe := Lib.hid her
        have HWs := Lib.hid HW.out.size
        clear HAt HErr her
        go_wp2_with fail
        exact bodyPost_ret (v := .tuple #[.agg #[.slice none 0 0, .slice none 0 0], .int .i64 ea]) (by simp [results, Try.results73, go_sem, r0, r1]) rfl (OaR.bad HNe.out ((HY.out.1.setCell (by show _ ≤ w.heap.size + 1; have := HWs.out; omega) _).setCell (by show _ ≤ w.heap.size + 1; have := HWs.out; omega) _))
    | _ => exact h.elim
end Go.Proofs.Ytplpogonkfnafaa
