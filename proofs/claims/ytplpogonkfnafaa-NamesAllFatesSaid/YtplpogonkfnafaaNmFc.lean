/- fates: the iterator. -/
import Derived.Test.YtplpogonkfnafaaNmFb
namespace Go.Proofs.Ytplpogonkfnafaa
open Go.RowKit Go.Nm

theorem arr10 {t : Array Value} (h : t.size = 10) : ∃ f : Nat → Value, t = #[f 0, f 1, f 2, f 3, f 4, f 5, f 6, f 7, f 8, f 9] := by
  refine ⟨fun k => t.getD k undef, ?_⟩
  apply Array.ext
  · simpa using h
  · intro i h1 h2
    have : i < 10 := by omega
    have hi : i = 0 ∨ i = 1 ∨ i = 2 ∨ i = 3 ∨ i = 4 ∨ i = 5 ∨ i = 6 ∨ i = 7 ∨ i = 8 ∨ i = 9 := by omega
    rcases hi with rfl | rfl | rfl | rfl | rfl | rfl | rfl | rfl | rfl | rfl <;> simp [Array.getD, h1]
/-- while the iterator begins: what holds, by which operations are done -/
structure FtG (W : World) (PostW : World → Prop) (hv vs : Value) (hb N : Nat) (f0 : Nat → Value) (dn : Nat → Bool) (a : Act) (X : World) : Prop where
  sz : a.tmps.size = 10
  t0 : a.tmps.getD 0 undef = f0 0
  t1 : a.tmps.getD 1 undef = f0 1
  t2 : a.tmps.getD 2 undef = f0 2
  ds : a.defers = []
  pre : dn 4 = false → X = W
  mid : dn 4 = true → dn 6 = false → X = W.alloc (.cells (madeCells #[.int .i64 0] N) 3)
  fin : dn 6 = true → PostW X
  e0 : dn 0 = true → a.tmps.getD 3 undef = hv
  e1 : dn 1 = true → a.tmps.getD 4 undef = .pointer (some ⟨hb, 0, none⟩)
  e2 : dn 2 = true → a.tmps.getD 5 undef = vs
  e3 : dn 3 = true → a.tmps.getD 6 undef = .int .i64 (N : Int)
  e4 : dn 4 = true → a.tmps.getD 7 undef = .slice (some ⟨W.heap.size, 0, none⟩) 0 N
  e5 : dn 5 = true → a.tmps.getD 8 undef = f0 0
  e6 : dn 6 = true → True
  o3 : dn 3 = true → dn 2 = true ∧ dn 1 = true
  o2 : dn 2 = true → dn 1 = true
  o4 : dn 4 = true → dn 1 = true ∧ dn 2 = true ∧ dn 3 = true
  o6 : dn 6 = true → dn 0 = true ∧ dn 4 = true ∧ dn 5 = true
theorem FtG.all {W : World} {PostW : World → Prop} {hv vs : Value} {hb N : Nat} {f0 : Nat → Value} {dn : Nat → Bool} {a : Act} {X : World} (h : FtG W PostW hv vs hb N f0 dn a X) (hd : ∀ j, j < 7 → dn j = true) : FtG W PostW hv vs hb N f0 (fun _ => true) a X :=
  ⟨h.sz, h.t0, h.t1, h.t2, h.ds, (fun h => nomatch h), (fun _ h => nomatch h), fun _ => h.fin (hd 6 (by omega)), fun _ => h.e0 (hd 0 (by omega)), fun _ => h.e1 (hd 1 (by omega)), fun _ => h.e2 (hd 2 (by omega)), fun _ => h.e3 (hd 3 (by omega)), fun _ => h.e4 (hd 4 (by omega)), fun _ => h.e5 (hd 5 (by omega)), fun _ => trivial, fun _ => ⟨rfl, rfl⟩, fun _ => rfl, fun _ => ⟨rfl, rfl, rfl⟩, fun _ => ⟨rfl, rfl, rfl⟩⟩
theorem make_in {o : Oper} {a : Act} {w : World} {K : Act → World → Prop} {Q : Exit → Act → World → Prop} (l c : Operand) (ho : o.op = .makeSlice 22 l c) (N : Nat) (hl : a.eval l = .int .i64 0) (hc : a.eval c = .int .i64 (N : Int)) (hN : N ≤ 1000)
    (h : K (a.put o.dst (.slice (some ⟨w.heap.size, 0, none⟩) 0 N)) (w.alloc (.cells (madeCells #[.int .i64 0] N) 3))) : o.wp Try.prog a w K Q := by
  obtain ⟨i0, hi0, hz0, hz1, hz2⟩ := infoI
  have hr := run_make (P := Try.prog) w 22 3 i0 (.int .i64 0) Try.underlying22 hi0 hz0 .i64 .i64 0 (N : Int) (by omega) (by omega) (by rw [hz2]; omega) (by omega)
  rw [hz1, Nat.mul_one] at hr
  unfold Oper.wp execOp
  simp only [ho, hl, hc]
  have hr2 : (Instr.makeSlice 22 (Value.int IntKind.i64 0) (Value.int IntKind.i64 (N : Int))).run Try.prog w = .ok (.slice (some ⟨w.heap.size, 0, none⟩) 0 N) (w.alloc (.cells (madeCells #[.int .i64 0] N) 3)) := hr
  simp only [Sem.run_bind, Sem.run_pure, hr2, Result.andThen_ok]
  exact h
theorem fates_any (Av A2 : Option Addr) (n cv m c2 : Nat) (w : World) :
    Calls Try.prog 70 #[.agg #[.slice Av n cv, .slice A2 m c2]] w fun e w' => e = .returned (.func (.func 100) #[] #[.pointer (some ⟨w.heap.size, 0, none⟩)]) ∧ w' = w.alloc (.cells #[.slice Av n cv, .slice A2 m c2] 67) := by
  go_enter Try.func70, Try.ntmps70
  go_wp2_with fail
  go_ret
  exact ⟨rfl, rfl⟩
/-- what the iterator asks of its caller -/
def ItI (V0 : World) (Hb : Nat) (fs : Array Value) (g : Nat) (_ : List (List Int × Value)) (ow : Option Nat) (X : World) : Prop := Below V0.heap.size V0 X ∧ (∀ k, ow = some k → k < X.heap.size ∧ k ≠ g) ∧ X.heap[Hb]? = some (.cells fs 67)
set_option maxRecDepth 100000 in
set_option maxHeartbeats 8000000 in
theorem fates_iter (V0 : World) (v vc : Value) (fs : Array Value) (b : Bk) (B N M n Hb : Nat) (hv : HsV V0 v b vc) (hsm : Sm b) (hval : Val b) (hN : (vers b).length = N) (hs : N ≤ 1000) (hM : (fatesF b N []).length ≤ M) (hfs : v = .agg fs) :
    IterP B Try.prog n 100 #[.pointer (some ⟨Hb, 0, none⟩)] (fun x : List Int × Value => #[x.2]) (ItI V0 Hb fs) (PxF B N M) (fun xs => xs.map (·.1) = fatesF b N []) := by
  intro l J ow W hB hJ hI hY h0
  refine callsIn_wide.2 ?_
  have HV := Lib.hid hv
  obtain ⟨vs, rfl, h1, h2⟩ := hv
  have e1 := h1.form
  rw [hN] at e1
  obtain ⟨Av, cv, rfl⟩ := e1
  obtain ⟨A2, c2, rfl⟩ := h2.form
  injection hfs with hfs
  subst hfs
  obtain ⟨len, hlen⟩ : ∃ len, b.chs.length = len := ⟨_, rfl⟩
  rw [hlen] at HV hI
  have hJ0 := h0 W.heap.size (Nat.le_refl _)
  have hbW := (hI _ _ _ _ (Nat.le_refl _) hJ0).1
  have hbW0 : W.drew.heap[Hb]? = some (.cells #[.slice Av N cv, .slice A2 len c2] 67) := (hI _ _ _ _ (Nat.le_refl _) hJ0).2.2
  have hbl2 : Hb < W.drew.heap.size := (Array.getElem?_eq_some_iff.1 hbW0).1
  have HBox := Lib.hid (cells_two hbW0)
  have HBox2 := Lib.hid (cells_two (w := W.drew.alloc (.cells (madeCells #[.int .i64 0] N) 3)) ((Below.heap_alloc _ _ Hb hbl2).trans hbW0))
  have HnN := Lib.hid (show N ≤ 1000 from hs)
  obtain ⟨PostW, hPost⟩ : ∃ P : World → Prop, P = fun Y => ∃ xs ow', xs.map (·.1) = fatesF b N [] ∧ J W.heap.size xs ow' Y := ⟨_, rfl⟩
  have hgr : W.grownBy (W.drew.alloc (.cells (madeCells #[.int .i64 0] N) 3)) (some W.heap.size) := grown_of_below ((Below.refl _ _).drew.alloc (by simp) _) _
  have HCall := Lib.hid (show Calls Try.prog 101 #[.agg #[.slice Av N cv, .slice A2 len c2], .slice (some ⟨W.drew.heap.size, 0, none⟩) 0 N, .func (.yield l) #[] #[]] (W.drew.alloc (.cells (madeCells #[.int .i64 0] N) 3)) (fun e Y' => e = .returned (.bool true) ∧ PostW Y') from by
    have hc := extend_any V0 _ _ b B W.heap.size l N M (fun pre ow X => J W.heap.size pre ow X) HV.out hsm hval
      ⟨fun pre ow X X' h hg => hJ _ _ _ _ _ (Nat.le_refl _) h hg, fun pre ow X h => (hI _ _ _ _ (Nat.le_refl _) h).1, fun pre ow X h => (hI _ _ _ _ (Nat.le_refl _) h).2.1, fun pre x ow X h hp => yieldAt_wide (hY _ _ _ _ _ (Nat.le_refl _) h hp)⟩
      hN hs N [] [] ow (W.drew.alloc (.cells (madeCells #[.int .i64 0] N) 3)) (by simp) (hJ _ _ _ _ _ (Nat.le_refl _) hJ0 hgr) (by simp; omega)
      (World.ownsRow_made (base := B) (e := 3) (size := 1) W.drew (madeCells #[.int .i64 0] N) N (by simpa using hB) (by unfold maxLen; omega) (by rw [size_madeCells, Nat.mul_one])) (by simpa using hM)
    refine hc.mono ?_
    rintro e Y' ⟨rfl, us, ow', h1, h2, _⟩
    exact ⟨rfl, by rw [hPost]; exact ⟨us, ow', h1, by simpa using h2⟩⟩)
  have HPost := Lib.hid hPost
  clear hPost hgr HV h1 h2 hJ hI hY h0 hJ0 hbW hbW0 hbl2 hsm hval hM
  obtain ⟨Wd, hWd⟩ : ∃ X, W.drew = X := ⟨_, rfl⟩
  rw [hWd] at HBox HBox2 HCall
  have HWd := Lib.hid hWd
  clear hWd
  go_enter Try.func100, Try.ntmps100
  go_wp2_with fail
  refine wp_mono (Q := onlyN (fun a' Y => FtG Wd PostW (.agg #[.slice Av N cv, .slice A2 len c2]) (.slice Av N cv) Hb N (fun kk => (#[.func (.yield l) #[] #[], .pointer (some ⟨Hb, 0, none⟩), undef] : Array Value).getD kk undef) (fun _ => true) a' Y)) ?_ ?_
  · refine wp_region_done (FtG Wd PostW (.agg #[.slice Av N cv, .slice A2 len c2]) (.slice Av N cv) Hb N (fun kk => (#[.func (.yield l) #[] #[], .pointer (some ⟨Hb, 0, none⟩), undef] : Array Value).getD kk undef)) (by kernel_rfl) (by kernel_rfl) ?_ ?_ ?_
    · exact ⟨rfl, rfl, rfl, rfl, rfl, (fun _ => HWd.out), (fun h => nomatch h), (fun h => nomatch h), (fun h => nomatch h), (fun h => nomatch h), (fun h => nomatch h), (fun h => nomatch h), (fun h => nomatch h), (fun h => nomatch h), (fun h => nomatch h), (fun h => nomatch h), (fun h => nomatch h), (fun h => nomatch h), (fun h => nomatch h)⟩
    · intro dn j o hi hd hD a Y hG
      obtain ⟨tm, ds⟩ := a
      obtain ⟨hsz, t0, t1, t2, hds, pre, mid, fin, e0, e1, e2, e3, e4, e5, e6, o3, o2, o4, o6⟩ := hG
      obtain ⟨fn, rfl⟩ := arr10 hsz
      have hj7 : j < 7 := by
        have := (Array.getElem?_eq_some_iff.1 hi).1
        simpa using this
      simp [Array.getD] at t0 t1 t2
      rcases (show j = 0 ∨ j = 1 ∨ j = 2 ∨ j = 3 ∨ j = 4 ∨ j = 5 ∨ j = 6 by omega) with rfl | rfl | rfl | rfl | rfl | rfl | rfl
      · obtain rfl := Option.some.inj hi
        have n6 : dn 6 = false := by
          cases h : dn 6
          · rfl
          · have := o6 h
            simp_all
        have hbx : Y.cell? ⟨Hb, 0, none⟩ = some (.slice Av N cv) ∧ Y.cell? ⟨Hb, 1, none⟩ = some (.slice A2 len c2) := by
          cases h : dn 4
          · rw [pre h]; exact HBox.out
          · rw [mid h n6]; exact HBox2.out
        obtain ⟨q0, q1⟩ := hbx
        refine wpOp_bare hi rfl ?_
        go_simp
        exact ⟨rfl, rfl, rfl, rfl, hds, pre, mid, fin, (fun _ => rfl), e1, e2, e3, e4, e5, e6, o3, o2, o4, (fun h => ⟨rfl, (o6 h).2⟩)⟩
      · obtain rfl := Option.some.inj hi
        refine wpOp_bare hi rfl ?_
        go_simp
        exact ⟨rfl, rfl, rfl, rfl, hds, pre, mid, fin, e0, (fun _ => rfl), e2, e3, e4, e5, e6, (fun h => ⟨(o3 h).1, rfl⟩), (fun _ => rfl), (fun h => ⟨rfl, (o4 h).2⟩), o6⟩
      · obtain rfl := Option.some.inj hi
        have n4 : dn 4 = false := by
          cases h : dn 4
          · rfl
          · have := o4 h
            simp_all
        have n6 : dn 6 = false := by
          cases h : dn 6
          · rfl
          · have := o6 h
            simp_all
        have d1 := e1 (hD ⟨1, .data⟩ (by simp) rfl)
        simp [Array.getD] at d1
        have hbx : Y.cell? ⟨Hb, 0, none⟩ = some (.slice Av N cv) ∧ Y.cell? ⟨Hb, 1, none⟩ = some (.slice A2 len c2) := by
          rw [pre n4]; exact HBox.out
        obtain ⟨q0, q1⟩ := hbx
        clear n4 n6
        refine wpOp_bare hi rfl ?_
        go_simp
        exact ⟨rfl, rfl, rfl, rfl, hds, pre, mid, fin, e0, (fun _ => rfl), (fun _ => rfl), e3, e4, e5, e6, (fun h => ⟨rfl, (o3 h).2⟩), (fun _ => hD ⟨1, .data⟩ (by simp) rfl), (fun h => ⟨(o4 h).1, rfl, (o4 h).2.2⟩), o6⟩
      · obtain rfl := Option.some.inj hi
        have d2 := e2 (hD ⟨2, .data⟩ (by simp) rfl)
        simp [Array.getD] at d2
        refine wpOp_bare hi rfl ?_
        go_simp
        exact ⟨rfl, rfl, rfl, rfl, hds, pre, mid, fin, e0, e1, (fun _ => rfl), (fun _ => rfl), e4, e5, e6, (fun _ => ⟨hD ⟨2, .data⟩ (by simp) rfl, o2 (hD ⟨2, .data⟩ (by simp) rfl)⟩), o2, (fun h => ⟨(o4 h).1, (o4 h).2.1, rfl⟩), o6⟩
      · obtain rfl := Option.some.inj hi
        have y3 := hD ⟨3, .data⟩ (by simp) rfl
        obtain ⟨y2, y1⟩ : dn 2 = true ∧ dn 1 = true := o3 y3
        have n6 : dn 6 = false := by
          cases h : dn 6
          · rfl
          · exact absurd (hd.symm.trans (o6 h).2.1) (by decide)
        have d3 := e3 (hD ⟨3, .data⟩ (by simp) rfl)
        simp [Array.getD] at d3
        obtain rfl := pre hd
        refine wpOp_bare hi rfl ?_
        refine make_in _ _ rfl N rfl d3 HnN.out ?_
        exact ⟨rfl, t0, t1, t2, hds, (fun h => nomatch h), (fun _ _ => rfl), (fun h => absurd (n6.symm.trans h) (by decide)), e0, e1, e2, e3, (fun _ => rfl), e5, e6, o3, o2, (fun _ => ⟨y1, y2, hD ⟨3, .data⟩ (by simp) rfl⟩), (fun h => ⟨(o6 h).1, rfl, (o6 h).2.2⟩)⟩
      · obtain rfl := Option.some.inj hi
        refine wpOp_bare hi rfl ?_
        go_simp
        exact ⟨rfl, rfl, rfl, rfl, hds, pre, mid, fin, e0, e1, e2, e3, e4, (fun _ => rfl), e6, o3, o2, o4, (fun h => ⟨(o6 h).1, (o6 h).2.1, rfl⟩)⟩
      · obtain rfl := Option.some.inj hi
        have y4 := hD ⟨4, .data⟩ (by simp) rfl
        have d0 := e0 (hD ⟨0, .data⟩ (by simp) rfl)
        simp [Array.getD] at d0
        have d4 := e4 (hD ⟨4, .data⟩ (by simp) rfl)
        simp [Array.getD] at d4
        have d5 := e5 (hD ⟨5, .data⟩ (by simp) rfl)
        simp [Array.getD] at d5
        have HC := Lib.hid (HCall.out)
        obtain rfl := mid y4 hd
        refine wpOp_bare hi rfl ?_
        go_simp
        (with_reducible refine HC.out.mono ?_)
        rintro e Y' ⟨rfl, hP⟩
        exact ⟨rfl, rfl, rfl, rfl, hds, (fun h => absurd (y4.symm.trans h) (by decide)), (fun _ h => nomatch h), (fun _ => hP), (fun _ => rfl), e1, e2, e3, (fun _ => rfl), (fun _ => rfl), (fun _ => trivial), o3, o2, o4, (fun _ => ⟨hD ⟨0, .data⟩ (by simp) rfl, y4, hD ⟨5, .data⟩ (by simp) rfl⟩)⟩
    · intro dn a Y hdn hG
      exact hG.all fun j hj => hdn j (by simpa using hj)
  · rintro e ⟨tm, ds⟩ Y h
    cases e with
    | normal =>
      obtain ⟨hsz, t0, t1, t2, hds, pre, mid, fin, e0, e1, e2, e3, e4, e5, e6, o3, o2, o4, o6⟩ := h
      obtain ⟨fn, rfl⟩ := arr10 hsz
      have hds' : ds = [] := hds
      subst hds'
      have HP := Lib.hid (fin rfl)
      clear fin
      rw [HPost.out] at HP
      obtain ⟨xs, ow', q1, q2⟩ := HP.out
      refine bodyPost_end (results_none rfl _ _ _) rfl ?_
      exact ⟨⟨_, rfl⟩, W.heap.size, xs, ow', Nat.le_refl _, q1, q2⟩
    | _ => exact h.elim
end Go.Proofs.Ytplpogonkfnafaa
