/- growLeaf. -/
import Derived.Test.YthfegbcbpeedbaaDoorKyOs
namespace Go.Proofs.YthfegbcbpeedbaaDoor
open Go.RowKit Go.Nm Go.Ky

structure GlI (V : World) (p0 p1 vl v : Value) (L : List Int) (S : Value → World → Prop) (R : World → Prop) (dn : Nat → Bool) (val : Nat → Value) (X : World) : Prop where
  s0 : dn 0 = true → val 0 = p0
  s1 : dn 1 = true → val 1 = p0
  s2 : dn 2 = true → val 2 = p0
  s3 : dn 3 = true → val 3 = p1
  s4 : dn 4 = true → val 4 = vl
  s5 : dn 5 = true → val 5 = v
  s9 : dn 9 = true → val 9 = p0
  s10 : dn 10 = true → val 10 = p1
  bel : dn 8 = false → Below V.heap.size V X
  e6 : dn 6 = true → dn 8 = false → InSl X X.heap.size (val 6) L ∧ ∀ g, (val 6).ownBlock = some g → V.heap.size ≤ g
  e7 : dn 7 = true → dn 8 = false → ∃ g, val 7 = .slice (some ⟨g, 0, none⟩) 1 1 ∧ X.heap[g]? = some (.cells #[val 6] 22)
  e8 : dn 8 = true → dn 11 = false → S (val 8) X
  e11 : dn 11 = true → R X
section
variable {V : World} {p0 p1 vl v : Value} {L : List Int} {S : Value → World → Prop} {R : World → Prop} {dn : Nat → Bool} {val : Nat → Value} {X Y : World}
theorem GlI.op0 (h : GlI V p0 p1 vl v L S R dn val X) : GlI V p0 p1 vl v L S R (andB dn 0) (updV val 0 (p0)) X :=
  ⟨(fun _ => rfl), h.s1, h.s2, h.s3, h.s4, h.s5, h.s9, h.s10, h.bel, h.e6, h.e7, h.e8, h.e11⟩
theorem GlI.op1 (h : GlI V p0 p1 vl v L S R dn val X) : GlI V p0 p1 vl v L S R (andB dn 1) (updV val 1 (p0)) X :=
  ⟨h.s0, (fun _ => rfl), h.s2, h.s3, h.s4, h.s5, h.s9, h.s10, h.bel, h.e6, h.e7, h.e8, h.e11⟩
theorem GlI.op2 (h : GlI V p0 p1 vl v L S R dn val X) : GlI V p0 p1 vl v L S R (andB dn 2) (updV val 2 (p0)) X :=
  ⟨h.s0, h.s1, (fun _ => rfl), h.s3, h.s4, h.s5, h.s9, h.s10, h.bel, h.e6, h.e7, h.e8, h.e11⟩
theorem GlI.op3 (h : GlI V p0 p1 vl v L S R dn val X) : GlI V p0 p1 vl v L S R (andB dn 3) (updV val 3 (p1)) X :=
  ⟨h.s0, h.s1, h.s2, (fun _ => rfl), h.s4, h.s5, h.s9, h.s10, h.bel, h.e6, h.e7, h.e8, h.e11⟩
theorem GlI.op4 (h : GlI V p0 p1 vl v L S R dn val X) : GlI V p0 p1 vl v L S R (andB dn 4) (updV val 4 (vl)) X :=
  ⟨h.s0, h.s1, h.s2, h.s3, (fun _ => rfl), h.s5, h.s9, h.s10, h.bel, h.e6, h.e7, h.e8, h.e11⟩
theorem GlI.op5 (h : GlI V p0 p1 vl v L S R dn val X) : GlI V p0 p1 vl v L S R (andB dn 5) (updV val 5 (v)) X :=
  ⟨h.s0, h.s1, h.s2, h.s3, h.s4, (fun _ => rfl), h.s9, h.s10, h.bel, h.e6, h.e7, h.e8, h.e11⟩
theorem GlI.op9 (h : GlI V p0 p1 vl v L S R dn val X) : GlI V p0 p1 vl v L S R (andB dn 9) (updV val 9 (p0)) X :=
  ⟨h.s0, h.s1, h.s2, h.s3, h.s4, h.s5, (fun _ => rfl), h.s10, h.bel, h.e6, h.e7, h.e8, h.e11⟩
theorem GlI.op10 (h : GlI V p0 p1 vl v L S R dn val X) : GlI V p0 p1 vl v L S R (andB dn 10) (updV val 10 (p1)) X :=
  ⟨h.s0, h.s1, h.s2, h.s3, h.s4, h.s5, h.s9, (fun _ => rfl), h.bel, h.e6, h.e7, h.e8, h.e11⟩
theorem GlI.op6 (h : GlI V p0 p1 vl v L S R dn val X) (n7 : dn 7 = false) (n8 : dn 8 = false) (n11 : dn 11 = false) {u : Value} (hb : Below X.heap.size X Y) (hu : InSl Y Y.heap.size u L) (hg : ∀ g, u.ownBlock = some g → V.heap.size ≤ g) : GlI V p0 p1 vl v L S R (andB dn 6) (updV val 6 (u)) (Y) :=
  ⟨h.s0, h.s1, h.s2, h.s3, h.s4, h.s5, h.s9, h.s10, (fun n => (h.bel n).trans (hb.mono (h.bel n).size)), (fun _ _ => ⟨hu, hg⟩), (fun d => f_t n7 d), (fun d => f_t n8 d), (fun d => f_t n11 d)⟩
theorem GlI.op7 (h : GlI V p0 p1 vl v L S R dn val X) (y6 : dn 6 = true) (n8 : dn 8 = false) (n11 : dn 11 = false) : GlI V p0 p1 vl v L S R (andB dn 7) (updV val 7 (.slice (some ⟨X.heap.size, 0, none⟩) 1 1)) (X.alloc (.cells #[val 6] 22)) :=
  ⟨h.s0, h.s1, h.s2, h.s3, h.s4, h.s5, h.s9, h.s10, (fun n => (h.bel n).alloc (h.bel n).size _), (fun _ n => ⟨(h.e6 y6 n).1.step (below_new _), (h.e6 y6 n).2⟩), (fun _ _ => ⟨_, rfl, World.alloc_heap_new X _⟩), (fun d => f_t n8 d), (fun d => f_t n11 d)⟩
theorem GlI.op8 (h : GlI V p0 p1 vl v L S R dn val X) (n11 : dn 11 = false) {v8 : Value} (hS : S v8 Y) : GlI V p0 p1 vl v L S R (andB dn 8) (updV val 8 (v8)) (Y) :=
  ⟨h.s0, h.s1, h.s2, h.s3, h.s4, h.s5, h.s9, h.s10, (fun n => nomatch n), (fun _ n => nomatch n), (fun _ n => nomatch n), (fun _ _ => hS), (fun d => f_t n11 d)⟩
theorem GlI.op11 (h : GlI V p0 p1 vl v L S R dn val X) (y8 : dn 8 = true) {v8 : Value} (hR : R Y) : GlI V p0 p1 vl v L S R (andB dn 11) (updV val 11 (v8)) (Y) :=
  ⟨h.s0, h.s1, h.s2, h.s3, h.s4, h.s5, h.s9, h.s10, (fun n => f_t n y8), (fun _ n => f_t n y8), (fun _ n => f_t n y8), (fun _ n => nomatch n), (fun _ => hR)⟩
end
section
variable {o : Oper} {a : Act} {w : World} {K : Act → World → Prop} {Q : Exit → Act → World → Prop}
theorem opNil (q g : Nat) (ho : o.op = .nilCheck (.tmp q)) (hq : a.tmps.getD q undef = .pointer (some ⟨g, 0, none⟩)) (h : K (a.put o.dst (.pointer (some ⟨g, 0, none⟩))) w) : o.wp Tryd.prog a w K Q := by
  unfold Oper.wp execOp
  have he : a.eval (.tmp q) = .pointer (some ⟨g, 0, none⟩) := hq
  simp only [ho, he]
  go_simp
  exact h
set_option maxRecDepth 100000 in
theorem opCallNm (q : Nat) (v1 : Value) (R : Ending → World → Prop) (ho : o.op = .call { callee := .value (.func 73), args := #[.tmp q], argTypes := #[23] }) (h1 : a.tmps.getD q undef = v1)
    (hc : Calls Tryd.prog 73 #[v1] w R) (h : ∀ e w', R e w' → ∃ v, e = .returned v ∧ K (a.put o.dst v) w') : o.wp Tryd.prog a w K Q := by
  unfold Oper.wp execOp
  have e1 : a.eval (.tmp q) = v1 := h1
  simp only [ho]
  go_simp
  refine hc.mono ?_
  intro e w' hR
  obtain ⟨v, rfl, hK⟩ := h e w' hR
  exact hK
theorem run_app_own {W : World} {n : Nat} {vals : List Value} {vs : Value} (s x : Operand) (ho : o.op = .call { callee := .builtin .append, args := #[s, x], argTypes := #[51, 51] })
    {r : Value} (hs : a.eval s = vs) (h : w.ownsRow W.heap.size 22 1 vs n vals) (hb : W.heap.size ≤ w.heap.size) (g : Nat) (hx : a.eval x = .slice (some ⟨g, 0, none⟩) 1 1) (hc : w.heap[g]? = some (.cells #[r] 22)) (h1 : r.oneCell' = true) (hn : n ≤ 100000)
    (hK : ∀ v' w', w'.ownsRow W.heap.size 22 1 v' (n + 1) (vals ++ [r]) → w.grownBy w' vs.ownBlock → (v'.ownBlock = vs.ownBlock ∨ v'.ownBlock = some w.heap.size) → K (a.put o.dst v') w') : o.wp Tryd.prog a w K Q := by
  obtain ⟨i0, hi0, hz0, hz1, hz2⟩ := infoS
  obtain ⟨v', w', hr', h2, h3, _, h5⟩ := run_append_own_at (P := Tryd.prog) (w := w) W.heap.size 51 o.type 22 i0 (.slice none 0 0) 1 24 Tryd.underlying51 hi0 hz0 hz1 hz2 rfl (by decide) vs n vals h ⟨g, 0, none⟩ 1 1 [r] rfl
    (fun j u hj => by
      rw [add_zero_k]
      simpa [World.cell?, hc] using hj) (fun u hu => by simp at hu; subst hu; exact h1) (by unfold maxLen; omega) (by omega) hb
  unfold Oper.wp execOp
  simp only [ho, resolve, invoke, builtin, Sem.run_bind, Sem.run_pure, Result.andThen_ok, List.map_toArray, List.map_cons, List.map_nil, hs, hx, hr']
  exact hK _ _ h2 h3 h5
theorem opStoreT1 (q r g : Nat) (A1 : Option Addr) (n1 d1 : Nat) (u1 u2 : Value) (ho : o.op = .store 51 (.tmp q) (.tmp r)) (hq : a.tmps.getD q undef = .pointer (some ⟨g, 1, none⟩)) (hr : a.tmps.getD r undef = .slice A1 n1 d1) (hg : w.heap[g]? = some (.cells #[u1, u2] 53)) (h : ∀ u, K (a.put o.dst u) (w.setCell ⟨g, 1, none⟩ (.slice A1 n1 d1))) : o.wp Tryd.prog a w K Q := by
  unfold Oper.wp execOp
  have he : a.eval (.tmp q) = .pointer (some ⟨g, 1, none⟩) := hq
  have he2 : a.eval (.tmp r) = .slice A1 n1 d1 := hr
  obtain ⟨c0, c1⟩ := cells_two hg
  have f1 := frozen_cells hg 1
  simp only [ho, he, he2]
  go_simp
  exact h _
end
theorem own_slice_form {w : World} {base n z : Nat} {t : TypeId} {v : Value} {xs : List Value} (h : w.ownsRow base t z v n xs) : ∃ A c, v = .slice A n c := by
  rcases h.2 with ⟨e, h0⟩ | ⟨g, cap, cur, e, _⟩
  · subst h0; exact ⟨none, 0, e⟩
  · exact ⟨_, _, e⟩
set_option maxRecDepth 100000 in
set_option maxHeartbeats 8000000 in
theorem growLeaf_any {R : Nat → Prop} {W X : World} {gk : Nat} {k : Kx} {vn vl : Value} (v : Value) (L : List Rw) (h : KgS R W gk k vn vl X) (hv : IlSl X X.heap.size v L) (hn : L.length ≤ 1000) (hlv : k.lv.length ≤ 1000) (hR : ∀ g, R g → g < X.heap.size) :
    Calls Tryd.prog 123 #[.pointer (some ⟨gk, 0, none⟩), v] X fun e Y =>
      (k.lv.length = 1000 ∧ e = .returned (.tuple #[.int .i64 0, .int .i64 2]) ∧ X = Y) ∨ (k.lv.length ≠ 1000 ∧ e = .returned (.tuple #[.int .i64 (-1 - (k.lv.length : Int)), .int .i64 0]) ∧ ∃ vl', KgS R W gk ⟨k.nd, k.lv ++ [L.map (·.nm)]⟩ vn vl' Y ∧ Chg (Ob gk vn.ownBlock vl.ownBlock) X Y ∧ Fro (Ob gk vn.ownBlock vl.ownBlock) (Ob gk vn.ownBlock vl'.ownBlock) X) := by
  obtain ⟨lvals, lo, lE⟩ := h.lwn
  obtain ⟨Al, cl, e⟩ := own_slice_form lo
  subst e
  have HL := Lib.hid lo
  obtain ⟨Av, cv, rfl⟩ := hv.form
  have HV := Lib.hid hv
  obtain ⟨n, hnn⟩ : ∃ n, k.lv.length = n := ⟨_, rfl⟩
  have HN := Lib.hid hnn
  have HK := Lib.hid (show KgS R W gk k vn (.slice Al n cl) X from by rw [← hnn]; exact h)
  obtain ⟨nr, hnr⟩ : ∃ n, L.length = n := ⟨_, rfl⟩
  have HNr := Lib.hid hnr
  obtain ⟨b0, b1⟩ := cells_two h.box
  have hw : IntKind.i64.wrap (-1 - (n : Int)) = -1 - (n : Int) := by rw [IntKind.wrap_i64]; omega
  rw [hnn] at b1 hlv ⊢
  rw [hnr] at hn HV ⊢
  by_cases hq : n = 1000
  · subst hq
    clear h lo lE hv hnn hnr hR
    go_enter Tryd.func123, Tryd.ntmps123
    go_wp2_with fail
    go_ret2
    first
      | exact .inl ⟨rfl, rfl, rfl⟩
      | exact .inl ⟨trivial, rfl, rfl⟩
  have hqi : ((n : Int) == 1000) = false := by simp; omega
  have hq2 : ¬ (n : Int) = 1000 := by omega
  have HQ := Lib.hid hq
  have hlt : gk < X.heap.size := (Array.getElem?_eq_some_iff.1 h.box).1
  have HRl := Lib.hid hR
  have HO := Lib.hid (show ∀ g, Ob gk vn.ownBlock (Value.ownBlock (.slice Al n cl)) g → g < X.heap.size from fun g hg => by
    obtain ⟨nv, n1, _⟩ := h.own
    rcases hg with h1 | h1 | h1
    · omega
    · exact (n1.lt g h1).2
    · rw [hnn] at lo; exact (lo.lt g h1).2)
  clear h lo lE hv hnn hnr hq hlt hR
  go_enter Tryd.func123, Tryd.ntmps123
  go_wp2_with fail
  refine wp_opaque ?_
  intro t0 ht0
  have hsz0 : t0.size = 27 := by rw [ht0]; rfl
  have q0 : t0.getD 0 undef = .pointer (some ⟨gk, 0, none⟩) := by rw [ht0]; rfl
  have q1 : t0.getD 1 undef = .slice Av nr cv := by rw [ht0]; rfl
  have HT0 := Lib.hid ht0
  clear ht0 b0 b1
  have HBd := Lib.hid (fun Z (hI : Below X.drew.heap.size X.drew Z) => (Below.refl X.heap.size X).drew.trans hI)
  have HKx := Lib.hid (fun Z (h : Below X.heap.size X Z) => HK.out.step h)
  refine wp_region_vals [some 14, some 15, some 16, some 17, some 18, some 19, some 20, some 21, some 22, some 23, some 24, none] (GlI X.drew (.pointer (some ⟨gk, 0, none⟩)) (.pointer (some ⟨gk, 1, none⟩)) (.slice Al n cl) (.slice Av nr cv) (L.map (·.nm))
    (fun v Z => ∃ V2 u lv, Below X.heap.size X V2 ∧ KgS R W gk k vn (.slice Al n cl) V2 ∧ LvE (fun l u => Apt V2 (Orr R (Ob gk vn.ownBlock (Value.ownBlock (.slice Al n cl)))) u l) k.lv lv ∧ V2.grownBy Z (Value.ownBlock (.slice Al n cl)) ∧ Z.ownsRow W.heap.size 22 1 v (k.lv.length + 1) (lv ++ [u]) ∧ (v.ownBlock = Value.ownBlock (.slice Al n cl) ∨ v.ownBlock = some V2.heap.size) ∧ Apt V2 (Orr R (Ob gk vn.ownBlock (Value.ownBlock (.slice Al n cl)))) u (L.map (·.nm)))
    (fun Z => ∃ vl', KgS R W gk ⟨k.nd, k.lv ++ [L.map (·.nm)]⟩ vn vl' Z ∧ Chg (Ob gk vn.ownBlock (Value.ownBlock (.slice Al n cl))) X Z ∧ Fro (Ob gk vn.ownBlock (Value.ownBlock (.slice Al n cl))) (Ob gk vn.ownBlock vl'.ownBlock) X)) (by kernel_rfl) (by kernel_rfl) rfl rfl (by simp [hsz0]) (by kernel_rfl) ?_ ?_ ?_
  · intro val
    exact ⟨(fun h => nomatch h), (fun h => nomatch h), (fun h => nomatch h), (fun h => nomatch h), (fun h => nomatch h), (fun h => nomatch h), (fun h => nomatch h), (fun h => nomatch h), fun _ => Below.refl _ _, (fun h => nomatch h), (fun h => nomatch h), (fun h => nomatch h), (fun h => nomatch h)⟩
  · intro dn q o hi hd hp hc val Z a ha hn' hI K hK
    have hq : q < 12 := by
      have := (Array.getElem?_eq_some_iff.1 hi).1
      simpa using this
    have c11 : dn 11 = true → dn 8 = true := fun h => hc 11 _ rfl h ⟨8, .data⟩ (by simp) rfl
    have c8 : dn 8 = true → dn 4 = true ∧ dn 7 = true := fun h => ⟨hc 8 _ rfl h ⟨4, .data⟩ (by simp) rfl, hc 8 _ rfl h ⟨7, .data⟩ (by simp) rfl⟩
    have c7 : dn 7 = true → dn 6 = true := fun h => hc 7 _ rfl h ⟨6, .data⟩ (by simp) rfl
    have bf : ∀ {q : Bool}, (q = true → False) → q = false := fun {q} h => by cases q; rfl; exact (h rfl).elim
    have hB := fun n8 => HBd.out Z (hI.bel n8)
    rcases (show q = 0 ∨ q = 1 ∨ q = 2 ∨ q = 3 ∨ q = 4 ∨ q = 5 ∨ q = 6 ∨ q = 7 ∨ q = 8 ∨ q = 9 ∨ q = 10 ∨ q = 11 by omega) with rfl | rfl | rfl | rfl | rfl | rfl | rfl | rfl | rfl | rfl | rfl | rfl
    · obtain rfl := Option.some.inj hi
      exact opMove 0 _ rfl ((ha 0).trans q0) (hK _ _ hI.op0)
    · obtain rfl := Option.some.inj hi
      exact opMove 0 _ rfl ((ha 0).trans q0) (hK _ _ hI.op1)
    · obtain rfl := Option.some.inj hi
      have y1 := hp ⟨1, .data⟩ (by simp) rfl
      exact opNil 15 _ rfl ((ha 15).trans (hI.s1 y1)) (hK _ _ hI.op2)
    · obtain rfl := Option.some.inj hi
      have y2 := hp ⟨2, .data⟩ (by simp) rfl
      exact opFieldK 1 16 _ (by decide) rfl ((ha 16).trans (hI.s2 y2)) (hK _ _ hI.op3)
    · obtain rfl := Option.some.inj hi
      have y3 := hp ⟨3, .data⟩ (by simp) rfl
      have n8 : dn 8 = false := bf fun h => f_t hd (c8 h).1
      exact opLdT 17 _ _ rfl ((ha 17).trans (hI.s3 y3)) (cells_two (HKx.out Z (hB n8)).box).2 (hK _ _ hI.op4)
    · obtain rfl := Option.some.inj hi
      exact opMove 1 _ rfl ((ha 1).trans q1) (hK _ _ hI.op5)
    · obtain rfl := Option.some.inj hi
      have y5 := hp ⟨5, .data⟩ (by simp) rfl
      have n7 : dn 7 = false := bf fun h => f_t hd (c7 h)
      have n8 : dn 8 = false := bf fun h => f_t n7 (c8 h).2
      have n11 : dn 11 = false := bf fun h => f_t n8 (c11 h)
      refine opCallNm 19 _ _ rfl ((ha 19).trans (hI.s5 y5)) (namesOf_any _ L Z (HV.out.step (hB n8)) (by have := HNr.out; omega)) ?_
      rintro e Y ⟨⟨u, rfl, hu, hg⟩, hb⟩
      exact ⟨u, rfl, hK _ _ (hI.op6 n7 n8 n11 hb hu (fun g e => Nat.le_trans (hB n8).size (hg g e)))⟩
    · obtain rfl := Option.some.inj hi
      have y6 := hp ⟨6, .data⟩ (by simp) rfl
      have n8 : dn 8 = false := bf fun h => f_t hd (c8 h).2
      have n11 : dn 11 = false := bf fun h => f_t n8 (c11 h)
      obtain ⟨A6, d6, e6, _⟩ := (hI.e6 y6 n8).1.form
      have hK2 := hK _ _ (hI.op7 y6 n8 n11)
      rw [e6] at hK2
      exact opBoxS 20 _ _ _ rfl ((ha 20).trans e6) hK2
    · obtain rfl := Option.some.inj hi
      have y4 := hp ⟨4, .data⟩ (by simp) rfl
      have y7 := hp ⟨7, .data⟩ (by simp) rfl
      have n11 : dn 11 = false := bf fun h => f_t hd (c11 h)
      obtain ⟨g, e7, h7⟩ := hI.e7 y7 hd
      have h6 := hI.e6 (c7 y7) hd
      have hKz := HKx.out Z (hB hd)
      obtain ⟨lv, l1, l2⟩ := hKz.lwn
      obtain ⟨A6, d6, e6, _⟩ := h6.1.form
      refine run_app_own (.tmp 18) (.tmp 21) rfl ((ha 18).trans (hI.s4 y4)) l1 hKz.bel.size g ((ha 21).trans e7) h7 (by rw [e6]; rfl) (by rw [HN.out]; omega) ?_
      intro v' w' hL' hg' ho'
      exact hK _ _ (hI.op8 n11 ⟨Z, val 6, lv, hB hd, hKz, l2, hg', hL', ho', h6.1, fun _ g e h => by
        have h1 : X.heap.size ≤ g := h6.2 g e
        rcases h with h | h
        · have h2 := HO.out g h; omega
        · have h2 := HRl.out g h; omega⟩)
    · obtain rfl := Option.some.inj hi
      have y0 := hp ⟨0, .data⟩ (by simp) rfl
      exact opNil 14 _ rfl ((ha 14).trans (hI.s0 y0)) (hK _ _ hI.op9)
    · obtain rfl := Option.some.inj hi
      have y9 := hp ⟨9, .data⟩ (by simp) rfl
      exact opFieldK 1 23 _ (by decide) rfl ((ha 23).trans (hI.s9 y9)) (hK _ _ hI.op10)
    · obtain rfl := Option.some.inj hi
      have y8 := hp ⟨8, .data⟩ (by simp) rfl
      have y10 := hp ⟨10, .data⟩ (by simp) rfl
      obtain ⟨V2, u, lv, hV2, hK2, hE2, hg2, ho2, hob2, hu2⟩ := hI.e8 y8 hd
      obtain ⟨A9, d9, e9⟩ := own_slice_form ho2
      obtain ⟨hYb, hS9, hC9, hF9⟩ := hK2.leaf hE2 hg2 ho2 hob2 hu2
      rw [e9] at hS9 hC9 hF9
      refine opStoreT1 24 22 gk _ _ _ _ _ rfl ((ha 24).trans (hI.s10 y10)) ((ha 22).trans e9) hYb (fun u => hK u _ (hI.op11 (v8 := u) y8 ⟨_, hS9, (Chg.of_below hV2).trans2 (Fro.refl _ _) hC9, (Fro.refl _ _).trans hV2.size hF9⟩))
  · intro dn val Z hdn hI
    have HR := Lib.hid (hI.e11 (hdn 11 (by simp)))
    simp only [wrS, HT0.out]
    simp only [List.setIfInBounds_toArray, List.set_cons_succ, List.set_cons_zero]
    simp only [Exit.then]
    clear hdn hI q0 q1 hsz0 HT0
    generalize val 0 = x0
    generalize val 1 = x1
    generalize val 2 = x2
    generalize val 3 = x3
    generalize val 4 = x4
    generalize val 5 = x5
    generalize val 6 = x6
    generalize val 7 = x7
    generalize val 8 = x8
    generalize val 9 = x9
    generalize val 10 = x10
    go_wp2_with fail
    (try rw [Exit.noGoto_ret])
    go_ret2
    exact .inr ⟨HQ.out, rfl, HR.out⟩
end Go.Proofs.YthfegbcbpeedbaaDoor
