/- copyOf. -/
import Derived.Test.YtplpogonkfnafaaNmNc
import Derived.Test.YtplpogonkfnafaaNmNb
namespace Go.Proofs.Ytplpogonkfnafaa
open Go.RowKit Go.Nm

structure CyI (V : World) (g : Nat) (yv vf vt : Value) (fr to : List Int) (R : World → Prop) (dn : Nat → Bool) (val : Nat → Value) (X : World) : Prop where
  s0 : dn 0 = true → val 0 = .pointer (some ⟨g, 0, none⟩)
  s1 : dn 1 = true → val 1 = yv
  s2 : dn 2 = true → val 2 = .pointer (some ⟨g, 1, none⟩)
  s3 : dn 3 = true → val 3 = vf
  s5 : dn 5 = true → val 5 = .pointer (some ⟨g, 2, none⟩)
  s6 : dn 6 = true → val 6 = vt
  bel : dn 9 = false → Below V.heap.size V X
  e4 : dn 4 = true → dn 9 = false → Fr V.heap.size X (val 4) fr
  e7 : dn 7 = true → dn 9 = false → Fr V.heap.size X (val 7) to
  e8 : dn 8 = true → dn 9 = false → val 8 = .agg #[yv, val 4, val 7]
  e9 : dn 9 = true → R X
section
variable {V : World} {g : Nat} {yv vf vt : Value} {fr to : List Int} {R : World → Prop} {dn : Nat → Bool} {val : Nat → Value} {X Y : World}
theorem CyI.op0 (h : CyI V g yv vf vt fr to R dn val X) : CyI V g yv vf vt fr to R (andB dn 0) (updV val 0 (.pointer (some ⟨g, 0, none⟩))) X :=
  ⟨(fun _ => rfl), h.s1, h.s2, h.s3, h.s5, h.s6, h.bel, h.e4, h.e7, h.e8, h.e9⟩
theorem CyI.op1 (h : CyI V g yv vf vt fr to R dn val X) : CyI V g yv vf vt fr to R (andB dn 1) (updV val 1 (yv)) X :=
  ⟨h.s0, (fun _ => rfl), h.s2, h.s3, h.s5, h.s6, h.bel, h.e4, h.e7, h.e8, h.e9⟩
theorem CyI.op2 (h : CyI V g yv vf vt fr to R dn val X) : CyI V g yv vf vt fr to R (andB dn 2) (updV val 2 (.pointer (some ⟨g, 1, none⟩))) X :=
  ⟨h.s0, h.s1, (fun _ => rfl), h.s3, h.s5, h.s6, h.bel, h.e4, h.e7, h.e8, h.e9⟩
theorem CyI.op3 (h : CyI V g yv vf vt fr to R dn val X) : CyI V g yv vf vt fr to R (andB dn 3) (updV val 3 (vf)) X :=
  ⟨h.s0, h.s1, h.s2, (fun _ => rfl), h.s5, h.s6, h.bel, h.e4, h.e7, h.e8, h.e9⟩
theorem CyI.op5 (h : CyI V g yv vf vt fr to R dn val X) : CyI V g yv vf vt fr to R (andB dn 5) (updV val 5 (.pointer (some ⟨g, 2, none⟩))) X :=
  ⟨h.s0, h.s1, h.s2, h.s3, (fun _ => rfl), h.s6, h.bel, h.e4, h.e7, h.e8, h.e9⟩
theorem CyI.op6 (h : CyI V g yv vf vt fr to R dn val X) : CyI V g yv vf vt fr to R (andB dn 6) (updV val 6 (vt)) X :=
  ⟨h.s0, h.s1, h.s2, h.s3, h.s5, (fun _ => rfl), h.bel, h.e4, h.e7, h.e8, h.e9⟩
theorem CyI.op4 (h : CyI V g yv vf vt fr to R dn val X) (n8 : dn 8 = false) (n9 : dn 9 = false) {u : Value} (hb : Below X.heap.size X Y) (hu : Fr X.heap.size Y u fr) : CyI V g yv vf vt fr to R (andB dn 4) (updV val 4 (u)) (Y) :=
  ⟨h.s0, h.s1, h.s2, h.s3, h.s5, h.s6, (fun n => (h.bel n).trans (hb.mono (h.bel n).size)), (fun _ n => hu.low (h.bel n).size), (fun d n => (h.e7 d n).step hb), (fun d => f_t n8 d), (fun d => f_t n9 d)⟩
theorem CyI.op7 (h : CyI V g yv vf vt fr to R dn val X) (n8 : dn 8 = false) (n9 : dn 9 = false) {u : Value} (hb : Below X.heap.size X Y) (hu : Fr X.heap.size Y u to) : CyI V g yv vf vt fr to R (andB dn 7) (updV val 7 (u)) (Y) :=
  ⟨h.s0, h.s1, h.s2, h.s3, h.s5, h.s6, (fun n => (h.bel n).trans (hb.mono (h.bel n).size)), (fun d n => (h.e4 d n).step hb), (fun _ n => hu.low (h.bel n).size), (fun d => f_t n8 d), (fun d => f_t n9 d)⟩
theorem CyI.op8 (h : CyI V g yv vf vt fr to R dn val X)  : CyI V g yv vf vt fr to R (andB dn 8) (updV val 8 (.agg #[yv, val 4, val 7])) (X) :=
  ⟨h.s0, h.s1, h.s2, h.s3, h.s5, h.s6, h.bel, h.e4, h.e7, (fun _ _ => rfl), h.e9⟩
theorem CyI.op9 (h : CyI V g yv vf vt fr to R dn val X) {u : Value} (hR : R Y) : CyI V g yv vf vt fr to R (andB dn 9) (updV val 9 (u)) (Y) :=
  ⟨h.s0, h.s1, h.s2, h.s3, h.s5, h.s6, (fun n => nomatch n), (fun _ n => nomatch n), (fun _ n => nomatch n), (fun _ n => nomatch n), (fun _ => hR)⟩
end
section
variable {o : Oper} {a : Act} {w : World} {K : Act → World → Prop} {Q : Exit → Act → World → Prop}
set_option maxRecDepth 100000 in
theorem opFieldC (k : Nat) (q g : Nat) (hk : k < 3) (ho : o.op = .fieldAddr 52 (.tmp q) k) (hq : a.tmps.getD q undef = .pointer (some ⟨g, 0, none⟩)) (h : K (a.put o.dst (.pointer (some ⟨g, k, none⟩))) w) : o.wp Try.prog a w K Q := by
  unfold Oper.wp execOp
  have he : a.eval (.tmp q) = .pointer (some ⟨g, 0, none⟩) := hq
  simp only [ho, he]
  rcases (show k = 0 ∨ k = 1 ∨ k = 2 by omega) with rfl | rfl | rfl <;>
  · go_simp
    exact h
set_option maxRecDepth 100000 in
theorem opCallCl (q : Nat) (v1 : Value) (R : Ending → World → Prop) (ho : o.op = .call { callee := .value (.func 83), args := #[.tmp q], argTypes := #[22] }) (h1 : a.tmps.getD q undef = v1)
    (hc : Calls Try.prog 83 #[v1] w R) (h : ∀ e w', R e w' → ∃ v, e = .returned v ∧ K (a.put o.dst v) w') : o.wp Try.prog a w K Q := by
  unfold Oper.wp execOp
  have e1 : a.eval (.tmp q) = v1 := h1
  simp only [ho]
  go_simp
  refine hc.mono ?_
  intro e w' hR
  obtain ⟨v, rfl, hK⟩ := h e w' hR
  exact hK
theorem opCallCo (q : Nat) (v1 : Value) (R : Ending → World → Prop) (ho : o.op = .call { callee := .value (.func 84), args := #[.tmp q], argTypes := #[52] }) (h1 : a.tmps.getD q undef = v1)
    (hc : Calls Try.prog 84 #[v1] w R) (h : ∀ e w', R e w' → ∃ v, e = .returned v ∧ K (a.put o.dst v) w') : o.wp Try.prog a w K Q := by
  unfold Oper.wp execOp
  have e1 : a.eval (.tmp q) = v1 := h1
  simp only [ho]
  go_simp
  refine hc.mono ?_
  intro e w' hR
  obtain ⟨v, rfl, hK⟩ := h e w' hR
  exact hK
set_option maxRecDepth 100000 in
theorem opBuildC (q r s : Nat) (y : Int) (A1 A2 : Option Addr) (n1 c1 n2 c2 : Nat) (ho : o.op = .build 52 #[(0, .tmp q), (1, .tmp r), (2, .tmp s)]) (h1 : a.tmps.getD q undef = .int .i64 y) (h2 : a.tmps.getD r undef = .slice A1 n1 c1) (h3 : a.tmps.getD s undef = .slice A2 n2 c2) (h : K (a.put o.dst (.agg #[.int .i64 y, .slice A1 n1 c1, .slice A2 n2 c2])) w) : o.wp Try.prog a w K Q := by
  unfold Oper.wp execOp
  have e1 : a.tmps[q]?.getD undef = .int .i64 y := by rw [← h1, Array.getD_eq_getD_getElem?]
  have e2 : a.tmps[r]?.getD undef = .slice A1 n1 c1 := by rw [← h2, Array.getD_eq_getD_getElem?]
  have e3 : a.tmps[s]?.getD undef = .slice A2 n2 c2 := by rw [← h3, Array.getD_eq_getD_getElem?]
  simp only [ho]
  go_simp
  exact h
set_option maxRecDepth 100000 in
theorem opStoreC (q r g : Nat) (y : Int) (A1 A2 : Option Addr) (n1 d1 n2 d2 : Nat) (u1 u2 u3 : Value) (ho : o.op = .store 52 (.tmp q) (.tmp r)) (hq : a.tmps.getD q undef = .pointer (some ⟨g, 0, none⟩)) (hr : a.tmps.getD r undef = .agg #[.int .i64 y, .slice A1 n1 d1, .slice A2 n2 d2]) (hg : w.heap[g]? = some (.cells #[u1, u2, u3] 52)) (h : ∀ u, K (a.put o.dst u) (((w.setCell ⟨g, 0, none⟩ (.int .i64 y)).setCell ⟨g, 1, none⟩ (.slice A1 n1 d1)).setCell ⟨g, 2, none⟩ (.slice A2 n2 d2))) : o.wp Try.prog a w K Q := by
  unfold Oper.wp execOp
  have he : a.eval (.tmp q) = .pointer (some ⟨g, 0, none⟩) := hq
  have he2 : a.eval (.tmp r) = .agg #[.int .i64 y, .slice A1 n1 d1, .slice A2 n2 d2] := hr
  obtain ⟨c0, c1, c2⟩ := cells_three hg
  have f0 := frozen_cells hg 0
  have f1 := frozen_cells hg 1
  have f2 := frozen_cells hg 2
  simp only [ho, he, he2]
  go_simp
  exact h _
end
set_option maxRecDepth 100000 in
set_option maxHeartbeats 8000000 in
theorem copyOf_any (vf vt : Value) (x : Ch) (w : World) (hf : InSl w w.heap.size vf x.fr) (ht : InSl w w.heap.size vt x.to) (hl : x.fr.length ≤ 1000 ∧ x.to.length ≤ 1000) :
    Calls Try.prog 84 #[.agg #[.int .i64 x.yr, vf, vt]] w fun e w' => ∃ rf rt, e = .returned (.agg #[.int .i64 x.yr, rf, rt]) ∧ Fr w.heap.size w' rf x.fr ∧ Fr w.heap.size w' rt x.to ∧ Below w.heap.size w w' := by
  obtain ⟨Af, cf, rfl, _⟩ := hf.form
  obtain ⟨At, ct, rfl, _⟩ := ht.form
  have HF := Lib.hid hf
  have HT := Lib.hid ht
  have HL := Lib.hid hl
  clear hf ht hl
  obtain ⟨nf, hnf⟩ : ∃ n, x.fr.length = n := ⟨_, rfl⟩
  obtain ⟨nt, hnt⟩ : ∃ n, x.to.length = n := ⟨_, rfl⟩
  rw [hnf] at HF
  rw [hnt] at HT
  rw [hnf, hnt]
  rw [hnf, hnt] at HL
  have HNf := Lib.hid hnf
  have HNt := Lib.hid hnt
  clear hnf hnt
  go_enter Try.func84, Try.ntmps84
  go_wp2_with fail
  obtain ⟨V, hV⟩ : ∃ V, ((w.alloc (.cells #[.int .i64 x.yr, .slice Af nf cf, .slice At nt ct] 52)).alloc (.cells #[.int .i64 0, .slice none 0 0, .slice none 0 0] 52)) = V := ⟨_, rfl⟩
  have hE1 := below_new (w := w) (.cells #[.int .i64 x.yr, .slice Af nf cf, .slice At nt ct] 52)
  have hE2 := below_new (w := (w.alloc (.cells #[.int .i64 x.yr, .slice Af nf cf, .slice At nt ct] 52))) (.cells #[.int .i64 0, .slice none 0 0, .slice none 0 0] 52)
  have hsz : (w.alloc (.cells #[.int .i64 x.yr, .slice Af nf cf, .slice At nt ct] 52)).heap.size = w.heap.size + 1 := by simp
  have hn1 : (w.alloc (.cells #[.int .i64 x.yr, .slice Af nf cf, .slice At nt ct] 52)).heap[w.heap.size]? = some (.cells #[.int .i64 x.yr, .slice Af nf cf, .slice At nt ct] 52) := World.alloc_heap_new w _
  have hn2 : ((w.alloc (.cells #[.int .i64 x.yr, .slice Af nf cf, .slice At nt ct] 52)).alloc (.cells #[.int .i64 0, .slice none 0 0, .slice none 0 0] 52)).heap[w.heap.size + 1]? = some (.cells #[.int .i64 0, .slice none 0 0, .slice none 0 0] 52) := by
    have := World.alloc_heap_new (w.alloc (.cells #[.int .i64 x.yr, .slice Af nf cf, .slice At nt ct] 52)) (.cells #[.int .i64 0, .slice none 0 0, .slice none 0 0] 52)
    rw [hsz] at this
    exact this
  have hn1 := (hE2.block _ (by omega)).trans hn1
  have hBV := hE1.trans (hE2.mono hE1.size)
  rw [hV] at hE2 hn1 hn2 hBV ⊢
  have hVs : w.heap.size + 2 ≤ V.heap.size := by rw [← hV]; simp
  have HB := Lib.hid hBV
  have HN := Lib.hid (And.intro hn1 hn2)
  clear hV hE1 hE2 hsz hn1 hn2 hBV
  have HX := Lib.hid (fun Y (h : Below V.heap.size V Y) => cells_three ((h.block w.heap.size (by omega)).trans HN.out.1))
  have HBd := Lib.hid (fun X (hI : Below V.drew.heap.size V.drew X) => (Below.refl V.heap.size V).drew.trans hI)
  refine wp_opaque ?_
  intro t0 ht0
  have hsz0 : t0.size = 12 := by rw [ht0]; rfl
  have t1 : t0.getD 1 undef = .pointer (some ⟨w.heap.size, 0, none⟩) := by rw [ht0]; rfl
  have t2 : t0.getD 2 undef = .pointer (some ⟨w.heap.size + 1, 0, none⟩) := by rw [ht0]; rfl
  have HT0 := Lib.hid ht0
  clear ht0
  refine wp_region_vals [some 3, some 4, some 5, some 6, some 7, some 8, some 9, some 10, some 11, none] (CyI V.drew w.heap.size (.int .i64 x.yr) (.slice Af nf cf) (.slice At nt ct) x.fr x.to (fun X => ∃ rf rt, X.heap[w.heap.size + 1]? = some (.cells #[.int .i64 x.yr, rf, rt] 52) ∧ Fr w.heap.size X rf x.fr ∧ Fr w.heap.size X rt x.to ∧ Below w.heap.size w X)) (by kernel_rfl) (by kernel_rfl) rfl rfl (by simp [hsz0]) (by kernel_rfl) ?_ ?_ ?_
  · intro val
    exact ⟨(fun h => nomatch h), (fun h => nomatch h), (fun h => nomatch h), (fun h => nomatch h), (fun h => nomatch h), (fun h => nomatch h), fun _ => Below.refl _ _, (fun h => nomatch h), (fun h => nomatch h), (fun h => nomatch h), (fun h => nomatch h)⟩
  · intro dn q o hi hd hp hc val X a ha hn hI K hK
    have hq : q < 10 := by
      have := (Array.getElem?_eq_some_iff.1 hi).1
      simpa using this
    have c8 : dn 8 = true → dn 1 = true ∧ dn 4 = true ∧ dn 7 = true := fun h => ⟨hc 8 _ rfl h ⟨1, .data⟩ (by simp) rfl, hc 8 _ rfl h ⟨4, .data⟩ (by simp) rfl, hc 8 _ rfl h ⟨7, .data⟩ (by simp) rfl⟩
    have c9 : dn 9 = true → dn 8 = true := fun h => hc 9 _ rfl h ⟨8, .data⟩ (by simp) rfl
    have c1 : dn 1 = true → dn 0 = true := fun h => hc 1 _ rfl h ⟨0, .data⟩ (by simp) rfl
    have c4 : dn 4 = true → dn 3 = true := fun h => hc 4 _ rfl h ⟨3, .data⟩ (by simp) rfl
    have c7 : dn 7 = true → dn 6 = true := fun h => hc 7 _ rfl h ⟨6, .data⟩ (by simp) rfl
    have bf : ∀ {q : Bool}, (q = true → False) → q = false := fun {q} h => by cases q; rfl; exact (h rfl).elim
    rcases (show q = 0 ∨ q = 1 ∨ q = 2 ∨ q = 3 ∨ q = 4 ∨ q = 5 ∨ q = 6 ∨ q = 7 ∨ q = 8 ∨ q = 9 by omega) with rfl | rfl | rfl | rfl | rfl | rfl | rfl | rfl | rfl | rfl
    · obtain rfl := Option.some.inj hi
      exact opFieldC 0 1 _ (by decide) rfl ((ha 1).trans t1) (hK _ _ hI.op0)
    · obtain rfl := Option.some.inj hi
      have y0 := hp ⟨0, .data⟩ (by simp) rfl
      have n9 : dn 9 = false := bf fun h => f_t hd (c8 (c9 h)).1
      exact opLd 3 _ _ rfl ((ha 3).trans (hI.s0 y0)) (HX.out X (HBd.out X (hI.bel n9))).1 (hK _ _ hI.op1)
    · obtain rfl := Option.some.inj hi
      exact opFieldC 1 1 _ (by decide) rfl ((ha 1).trans t1) (hK _ _ hI.op2)
    · obtain rfl := Option.some.inj hi
      have y2 := hp ⟨2, .data⟩ (by simp) rfl
      have n9 : dn 9 = false := bf fun h => f_t hd (c4 (c8 (c9 h)).2.1)
      exact opLdS 5 _ _ rfl ((ha 5).trans (hI.s2 y2)) (HX.out X (HBd.out X (hI.bel n9))).2.1 (hK _ _ hI.op3)
    · obtain rfl := Option.some.inj hi
      have y3 := hp ⟨3, .data⟩ (by simp) rfl
      have n8 : dn 8 = false := bf fun h => f_t hd (c8 h).2.1
      have n9 : dn 9 = false := bf fun h => f_t n8 (c9 h)
      have hB := HBd.out X (hI.bel n9)
      refine opCallCl 6 _ _ rfl ((ha 6).trans (hI.s3 y3)) (clone_any _ x.fr X ((HF.out.step HB.out).step hB) (by have := HL.out.1; have := HNf.out; omega)) ?_
      rintro e Y ⟨r, rfl, hO⟩
      exact ⟨r, rfl, hK _ _ (hI.op4 n8 n9 hO.bel hO.fr)⟩
    · obtain rfl := Option.some.inj hi
      exact opFieldC 2 1 _ (by decide) rfl ((ha 1).trans t1) (hK _ _ hI.op5)
    · obtain rfl := Option.some.inj hi
      have y5 := hp ⟨5, .data⟩ (by simp) rfl
      have n9 : dn 9 = false := bf fun h => f_t hd (c7 (c8 (c9 h)).2.2)
      exact opLdS 8 _ _ rfl ((ha 8).trans (hI.s5 y5)) (HX.out X (HBd.out X (hI.bel n9))).2.2 (hK _ _ hI.op6)
    · obtain rfl := Option.some.inj hi
      have y6 := hp ⟨6, .data⟩ (by simp) rfl
      have n8 : dn 8 = false := bf fun h => f_t hd (c8 h).2.2
      have n9 : dn 9 = false := bf fun h => f_t n8 (c9 h)
      have hB := HBd.out X (hI.bel n9)
      refine opCallCl 9 _ _ rfl ((ha 9).trans (hI.s6 y6)) (clone_any _ x.to X ((HT.out.step HB.out).step hB) (by have := HL.out.2; have := HNt.out; omega)) ?_
      rintro e Y ⟨r, rfl, hO⟩
      exact ⟨r, rfl, hK _ _ (hI.op7 n8 n9 hO.bel hO.fr)⟩
    · obtain rfl := Option.some.inj hi
      have y1 := hp ⟨1, .data⟩ (by simp) rfl
      have y4 := hp ⟨4, .data⟩ (by simp) rfl
      have y7 := hp ⟨7, .data⟩ (by simp) rfl
      have n9 : dn 9 = false := bf fun h => f_t hd (c9 h)
      obtain ⟨A5, d5, e5, _⟩ := (hI.e4 y4 n9).1.form
      obtain ⟨A6, d6, e6, _⟩ := (hI.e7 y7 n9).1.form
      have hK2 := hK _ _ hI.op8
      rw [e5, e6] at hK2
      exact opBuildC 4 7 10 _ _ _ _ _ _ _ rfl ((ha 4).trans (hI.s1 y1)) ((ha 7).trans e5) ((ha 10).trans e6) hK2
    · obtain rfl := Option.some.inj hi
      have y8 := hp ⟨8, .data⟩ (by simp) rfl
      obtain ⟨y1, y4, y7⟩ := c8 y8
      have h8 := hI.e8 y8 hd
      have h4 := hI.e4 y4 hd
      have h7 := hI.e7 y7 hd
      have hB := HBd.out X (hI.bel hd)
      obtain ⟨A5, d5, e5, _⟩ := h4.1.form
      obtain ⟨A6, d6, e6, _⟩ := h7.1.form
      rw [e5, e6] at h8
      rw [e5] at h4
      rw [e6] at h7
      have hg := (hB.block (w.heap.size + 1) (by omega)).trans HN.out.2
      refine opStoreC 2 11 (w.heap.size + 1) _ _ _ _ _ _ _ _ _ _ rfl ((ha 2).trans t2) ((ha 11).trans h8) hg (fun u => hK u _ (hI.op9 (u := u) ?_))
      have hg1 := heap_setCell_same X (w.heap.size + 1) 0 _ _ (.int .i64 x.yr) hg
      have hg2 := heap_setCell_same _ (w.heap.size + 1) 1 _ _ (.slice A5 x.fr.length d5) hg1
      have hg3 := heap_setCell_same _ (w.heap.size + 1) 2 _ _ (.slice A6 x.to.length d6) hg2
      have hfr : ∀ {u : Value} {M : List Int} {v : Value} {k : Nat} {Z : World}, Fr V.heap.size Z u M → Fr V.heap.size (Z.setCell ⟨w.heap.size + 1, k, none⟩ v) u M := fun {u M v k Z} h => by
        have hst := setCell_grown' Z (w.heap.size + 1) k v
        exact ⟨(h.1.keepOwn (w' := Z.setCell ⟨w.heap.size + 1, k, none⟩ v) fun p hp => by
          have := h.2 _ hp
          exact World.cell?_of_block (hst.block _ this.2 fun e => by injection e with e; omega)).mono hst.size, fun g e => ⟨(h.2 g e).1, Nat.lt_of_lt_of_le (h.2 g e).2 hst.size⟩⟩
      refine ⟨_, _, hg3, (hfr (hfr (hfr h4))).low (by omega), (hfr (hfr (hfr h7))).low (by omega), ?_⟩
      exact (((HB.out.trans (hB.mono HB.out.size)).setCell (by simp) _).setCell (by simp) _).setCell (by simp) _
  · intro dn val X hdn hI
    obtain ⟨rf, rt, h1, h2, h3, h4⟩ := hI.e9 (hdn 9 (by simp))
    obtain ⟨c0, c1, c2⟩ := cells_three h1
    simp only [wrS, HT0.out]
    simp only [List.setIfInBounds_toArray, List.set_cons_succ, List.set_cons_zero]
    simp only [Exit.then]
    clear hdn hI t1 t2 hsz0 HT0
    have HR := Lib.hid (And.intro h2 (And.intro h3 h4))
    clear h1 h2 h3 h4
    go_wp2_with fail
    (try rw [Exit.noGoto_ret])
    exact bodyPost_ret (v := .agg #[.int .i64 x.yr, rf, rt]) (by simp [results, Try.results84, go_sem, c0, c1, c2]) rfl ⟨_, _, rfl, HR.out.1, HR.out.2.1, HR.out.2.2⟩
end Go.Proofs.Ytplpogonkfnafaa
