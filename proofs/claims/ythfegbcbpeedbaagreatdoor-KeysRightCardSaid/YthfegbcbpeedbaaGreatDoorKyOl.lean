
/- misleads. -/
import Derived.Test.YthfegbcbpeedbaaGreatDoorKyOj
import Derived.Laws.EntriesVeiled
namespace Go.Proofs.YthfegbcbpeedbaaGreatDoor
open Go.RowKit Go.Nm Go.Ky Go.Maps

theorem reach_start (w : World) (k : Kx) (A1 A2 As : Option Addr) (c1 c2 cs nn nl ns : Nat) (Y : World) (hY : (((((w.alloc (.cells #[.slice A1 nn c1, .slice A2 nl c2] 29)).alloc (.cells #[.slice As ns cs] 22)).alloc (.cells #[.slice none 0 0] 27)).alloc (.map #[] 0)).alloc (.cells #[.map (some (w.heap.size + 1 + 1 + 1))] 123)).alloc (.cells #[.func (.func 87) #[] #[.pointer (some ⟨w.heap.size + 1 + 1 + 1 + 1, 0, none⟩), .pointer (some ⟨w.heap.size + 1 + 1, 0, none⟩), .pointer (some ⟨w.heap.size, 0, none⟩), .pointer (some ⟨w.heap.size + 1, 0, none⟩), .pointer (some ⟨w.heap.size + 1 + 1 + 1 + 1 + 1, 0, none⟩)]] 124) = Y) : WkB w (w.heap.size + 6) w.heap.size (w.heap.size + 1) (w.heap.size + 1 + 1) (w.heap.size + 1 + 1 + 1) (w.heap.size + 1 + 1 + 1 + 1) (w.heap.size + 1 + 1 + 1 + 1 + 1) ∧
    WkS w (w.heap.size + 6) w.heap.size (w.heap.size + 1) (w.heap.size + 1 + 1) (w.heap.size + 1 + 1 + 1) (w.heap.size + 1 + 1 + 1 + 1) (w.heap.size + 1 + 1 + 1 + 1 + 1) k (.slice A1 nn c1) (.slice A2 nl c2) (.slice As ns cs) [] [] none Y ∧ Below w.heap.size w Y := by
  obtain ⟨W1, hW1⟩ : ∃ W, w.alloc (.cells #[.slice A1 nn c1, .slice A2 nl c2] 29) = W := ⟨_, rfl⟩
  have hb1 := below_new (w := w) (.cells #[.slice A1 nn c1, .slice A2 nl c2] 29)
  have hn1 := World.alloc_heap_new w (.cells #[.slice A1 nn c1, .slice A2 nl c2] 29)
  rw [hW1] at hb1 hn1
  have hz1 : W1.heap.size = w.heap.size + 1 := by rw [← hW1]; simp
  obtain ⟨W2, hW2⟩ : ∃ W, W1.alloc (.cells #[.slice As ns cs] 22) = W := ⟨_, rfl⟩
  have hb2 := below_new (w := W1) (.cells #[.slice As ns cs] 22)
  have hn2 := World.alloc_heap_new W1 (.cells #[.slice As ns cs] 22)
  rw [hW2] at hb2 hn2
  rw [hz1] at hn2
  have hz2 : W2.heap.size = w.heap.size + 1 + 1 := by rw [← hW2]; simp [hz1]
  have hn1 := (hb2.block _ (by omega)).trans hn1
  obtain ⟨W3, hW3⟩ : ∃ W, W2.alloc (.cells #[.slice none 0 0] 27) = W := ⟨_, rfl⟩
  have hb3 := below_new (w := W2) (.cells #[.slice none 0 0] 27)
  have hn3 := World.alloc_heap_new W2 (.cells #[.slice none 0 0] 27)
  rw [hW3] at hb3 hn3
  rw [hz2] at hn3
  have hz3 : W3.heap.size = w.heap.size + 1 + 1 + 1 := by rw [← hW3]; simp [hz2]
  have hn1 := (hb3.block _ (by omega)).trans hn1
  have hn2 := (hb3.block _ (by omega)).trans hn2
  obtain ⟨W4, hW4⟩ : ∃ W, W3.alloc (.map #[] 0) = W := ⟨_, rfl⟩
  have hb4 := below_new (w := W3) (.map #[] 0)
  have hn4 := World.alloc_heap_new W3 (.map #[] 0)
  rw [hW4] at hb4 hn4
  rw [hz3] at hn4
  have hz4 : W4.heap.size = w.heap.size + 1 + 1 + 1 + 1 := by rw [← hW4]; simp [hz3]
  have hn1 := (hb4.block _ (by omega)).trans hn1
  have hn2 := (hb4.block _ (by omega)).trans hn2
  have hn3 := (hb4.block _ (by omega)).trans hn3
  obtain ⟨W5, hW5⟩ : ∃ W, W4.alloc (.cells #[.map (some (w.heap.size + 1 + 1 + 1))] 123) = W := ⟨_, rfl⟩
  have hb5 := below_new (w := W4) (.cells #[.map (some (w.heap.size + 1 + 1 + 1))] 123)
  have hn5 := World.alloc_heap_new W4 (.cells #[.map (some (w.heap.size + 1 + 1 + 1))] 123)
  rw [hW5] at hb5 hn5
  rw [hz4] at hn5
  have hz5 : W5.heap.size = w.heap.size + 1 + 1 + 1 + 1 + 1 := by rw [← hW5]; simp [hz4]
  have hn1 := (hb5.block _ (by omega)).trans hn1
  have hn2 := (hb5.block _ (by omega)).trans hn2
  have hn3 := (hb5.block _ (by omega)).trans hn3
  have hn4 := (hb5.block _ (by omega)).trans hn4
  obtain ⟨W6, hW6⟩ : ∃ W, W5.alloc (.cells #[.func (.func 87) #[] #[.pointer (some ⟨w.heap.size + 1 + 1 + 1 + 1, 0, none⟩), .pointer (some ⟨w.heap.size + 1 + 1, 0, none⟩), .pointer (some ⟨w.heap.size, 0, none⟩), .pointer (some ⟨w.heap.size + 1, 0, none⟩), .pointer (some ⟨w.heap.size + 1 + 1 + 1 + 1 + 1, 0, none⟩)]] 124) = W := ⟨_, rfl⟩
  have hb6 := below_new (w := W5) (.cells #[.func (.func 87) #[] #[.pointer (some ⟨w.heap.size + 1 + 1 + 1 + 1, 0, none⟩), .pointer (some ⟨w.heap.size + 1 + 1, 0, none⟩), .pointer (some ⟨w.heap.size, 0, none⟩), .pointer (some ⟨w.heap.size + 1, 0, none⟩), .pointer (some ⟨w.heap.size + 1 + 1 + 1 + 1 + 1, 0, none⟩)]] 124)
  have hn6 := World.alloc_heap_new W5 (.cells #[.func (.func 87) #[] #[.pointer (some ⟨w.heap.size + 1 + 1 + 1 + 1, 0, none⟩), .pointer (some ⟨w.heap.size + 1 + 1, 0, none⟩), .pointer (some ⟨w.heap.size, 0, none⟩), .pointer (some ⟨w.heap.size + 1, 0, none⟩), .pointer (some ⟨w.heap.size + 1 + 1 + 1 + 1 + 1, 0, none⟩)]] 124)
  rw [hW6] at hb6 hn6
  rw [hz5] at hn6
  have hz6 : W6.heap.size = w.heap.size + 1 + 1 + 1 + 1 + 1 + 1 := by rw [← hW6]; simp [hz5]
  have hn1 := (hb6.block _ (by omega)).trans hn1
  have hn2 := (hb6.block _ (by omega)).trans hn2
  have hn3 := (hb6.block _ (by omega)).trans hn3
  have hn4 := (hb6.block _ (by omega)).trans hn4
  have hn5 := (hb6.block _ (by omega)).trans hn5
  have hB := hb1
  have hB := hB.trans (hb2.mono hB.size)
  have hB := hB.trans (hb3.mono hB.size)
  have hB := hB.trans (hb4.mono hB.size)
  have hB := hB.trans (hb5.mono hB.size)
  have hB := hB.trans (hb6.mono hB.size)
  have hm := (((MB.made w W3 (hb1.trans ((hb2.mono hb1.size).trans (hb3.mono (by omega)))))))
  rw [hW4, hz3] at hm
  have hm := (hm.step hb5).step hb6
  rw [hW1, hW2, hW3, hW4, hW5, hW6] at hY
  subst hY
  refine ⟨⟨by omega, by omega, by omega, by omega⟩, ⟨hn1, hn2, ⟨[], _, hn3, LvI.start w W6 hB, rfl, fun g e => nomatch e⟩, hm, hn5, hn6, by simp, fun z hz => by simp at hz, by omega⟩, hB⟩
structure RdI (V : World) (fv kv bv : Value) (R : World → Prop) (dn : Nat → Bool) (val : Nat → Value) (X : World) : Prop where
  s2 : dn 2 = true → val 2 = bv
  s0 : dn 0 = true → val 0 = fv
  s1 : dn 1 = true → val 1 = kv
  bel : dn 3 = false → Below V.heap.size V X
  e3 : dn 3 = true → R X
section
variable {V : World} {fv kv bv : Value} {R : World → Prop} {dn : Nat → Bool} {val : Nat → Value} {X Y : World}
theorem RdI.op0 (h : RdI V fv kv bv R dn val X) : RdI V fv kv bv R (andB dn 0) (updV val 0 (fv)) X :=
  ⟨h.s2, (fun _ => rfl), h.s1, h.bel, h.e3⟩
theorem RdI.op1 (h : RdI V fv kv bv R dn val X) : RdI V fv kv bv R (andB dn 1) (updV val 1 (kv)) X :=
  ⟨h.s2, h.s0, (fun _ => rfl), h.bel, h.e3⟩
theorem RdI.op2 (h : RdI V fv kv bv R dn val X) (n3 : dn 3 = false) (hb : Below X.heap.size X Y) : RdI V fv kv bv R (andB dn 2) (updV val 2 (bv)) (Y) :=
  ⟨(fun _ => rfl), h.s0, h.s1, (fun n => (h.bel n).trans (hb.mono (h.bel n).size)), (fun d => f_t n3 d)⟩
theorem RdI.op3 (h : RdI V fv kv bv R dn val X) {v : Value} (hR : R Y) : RdI V fv kv bv R (andB dn 3) (updV val 3 (v)) (Y) :=
  ⟨h.s2, h.s0, h.s1, (fun n => nomatch n), (fun _ => hR)⟩
end
section
variable {o : Oper} {a : Act} {w : World} {K : Act → World → Prop} {Q : Exit → Act → World → Prop}
theorem opLdFn (q : Nat) (ad : Addr) (v : Value) (ho : o.op = .load 124 (.tmp q)) (hq : a.tmps.getD q undef = .pointer (some ad)) (hc : w.cell? ad = some v) (h : K (a.put o.dst v) w) : o.wp Tryz.prog a w K Q := by
  unfold Oper.wp execOp
  have he : a.eval (.tmp q) = .pointer (some ad) := hq
  simp only [ho, he]
  go_simp
  exact h
set_option maxRecDepth 100000 in
theorem opLdKey (q g : Nat) (v1 v2 : Value) (ho : o.op = .load 29 (.tmp q)) (hq : a.tmps.getD q undef = .pointer (some ⟨g, 0, none⟩)) (hg : w.heap[g]? = some (.cells #[v1, v2] 29)) (h : K (a.put o.dst (.agg #[v1, v2])) w) : o.wp Tryz.prog a w K Q := by
  unfold Oper.wp execOp
  have he : a.eval (.tmp q) = .pointer (some ⟨g, 0, none⟩) := hq
  obtain ⟨c0, c1⟩ := cells_two hg
  simp only [ho, he]
  go_simp
  exact h
set_option maxRecDepth 100000 in
theorem opCallBg (q : Nat) (v1 : Value) (R : Ending → World → Prop) (ho : o.op = .call { callee := .value (.func 48), args := #[.tmp q], argTypes := #[29] }) (h1 : a.tmps.getD q undef = v1)
    (hc : Calls Tryz.prog 48 #[v1] w R) (h : ∀ e w', R e w' → ∃ v, e = .returned v ∧ K (a.put o.dst v) w') : o.wp Tryz.prog a w K Q := by
  unfold Oper.wp execOp
  have e1 : a.eval (.tmp q) = v1 := h1
  simp only [ho]
  go_simp
  refine hc.mono ?_
  intro e w' hR
  obtain ⟨v, rfl, hK⟩ := h e w' hR
  exact hK
set_option maxRecDepth 100000 in
theorem opCallWk (q r : Nat) (p1 p2 p3 p4 p5 : Value) (z : Int) (R : Ending → World → Prop) (ho : o.op = .call { callee := .value (.tmp q), args := #[.tmp r], argTypes := #[3] }) (h1 : a.tmps.getD q undef = .func (.func 87) #[] #[p1, p2, p3, p4, p5]) (h2 : a.tmps.getD r undef = .int .i64 z)
    (hc : Calls Tryz.prog 87 #[.int .i64 z, p1, p2, p3, p4, p5] w R) (h : ∀ e w', R e w' → ∃ v, e = .returned v ∧ K (a.put o.dst v) w') : o.wp Tryz.prog a w K Q := by
  unfold Oper.wp execOp
  have e1 : a.eval (.tmp q) = .func (.func 87) #[] #[p1, p2, p3, p4, p5] := h1
  have e2 : a.eval (.tmp r) = .int .i64 z := h2
  have e3 : a.tmps[q]?.getD undef = .func (.func 87) #[] #[p1, p2, p3, p4, p5] := by rw [← h1, Array.getD_eq_getD_getElem?]
  have e4 : a.tmps[r]?.getD undef = .int .i64 z := by rw [← h2, Array.getD_eq_getD_getElem?]
  simp only [ho]
  go_simp
  (try simp only [e1, e2])
  (try go_simp)
  refine hc.mono ?_
  intro e w' hR
  obtain ⟨v, rfl, hK⟩ := h e w' hR
  exact hK
end
set_option maxRecDepth 100000 in
set_option maxHeartbeats 8000000 in
theorem reached_any (u v : Value) (k : Kx) (seen st : List Int) (w : World) (hu : KyV w u k) (hv : InSl w w.heap.size v seen) (hk : KSm k) (hok : KOk st k) (hss : seen.length = st.length) (hl : 1 ≤ k.lv.length) :
    Calls Tryz.prog 57 #[u, v] w fun e w' => (∃ r, e = .returned r ∧ VsSl w' w'.heap.size r (reachF k seen)) ∧ Below w.heap.size w w' := by
  obtain ⟨v1, v2, rfl, h1, h2⟩ := hu
  obtain ⟨A1, c1, rfl⟩ := h1.form
  obtain ⟨A2, c2, rfl⟩ := h2.form
  obtain ⟨As, cs, rfl, _⟩ := hv.form
  obtain ⟨nn, hnn⟩ : ∃ n, k.nd.length = n := ⟨_, rfl⟩
  obtain ⟨nl, hnl⟩ : ∃ n, k.lv.length = n := ⟨_, rfl⟩
  obtain ⟨ns, hns⟩ : ∃ n, seen.length = n := ⟨_, rfl⟩
  have hky : KyV w (.agg #[.slice A1 k.nd.length c1, .slice A2 k.lv.length c2]) k := ⟨_, _, rfl, h1, h2⟩
  have HBg := Lib.hid (fun Y (h : Below w.heap.size w Y) => begin_any _ k Y (hky.step h) hk)
  rw [hnn] at h1
  rw [hnl] at h2
  rw [hns] at hv
  have HR := Lib.hid (show reachF k seen = lvsF k (walkF k seen (nn + 1) [] (begF k)) from by unfold reachF; rw [hnn])
  rw [HR.out]
  obtain ⟨bg, hbg⟩ : ∃ b, begF k = b := ⟨_, rfl⟩
  have HBgr := Lib.hid (show -(nl : Int) ≤ bg ∧ bg < nn ∧ (0 ≤ bg → (nn : Int) + 1 ≤ bg + ((nn + 1 : Nat) : Int)) from by
    rw [← hbg]; unfold begF; rw [hnn]; split <;> omega)
  rw [hnn, hnl, hbg] at HBg
  rw [hbg, hnn, hnl, hns]
  have HWk := Lib.hid (fun (hG : WkB w (w.heap.size + 6) w.heap.size (w.heap.size + 1) (w.heap.size + 1 + 1) (w.heap.size + 1 + 1 + 1) (w.heap.size + 1 + 1 + 1 + 1) (w.heap.size + 1 + 1 + 1 + 1 + 1)) => walk_any hG hnn hnl hns h1 h2 hv hk hok (by rw [← hns]; exact hss) (nn + 1) bg [] none)
  have hmm := @run_makeMap Tryz.prog
  clear h1 h2 hv hk hok hss hl hky hnn hnl hns hbg HR
  go_enter Tryz.func57, Tryz.ntmps57
  go_wp2_with fail
  obtain ⟨V, hV⟩ : ∃ V, (((((w.alloc (.cells #[.slice A1 nn c1, .slice A2 nl c2] 29)).alloc (.cells #[.slice As ns cs] 22)).alloc (.cells #[.slice none 0 0] 27)).alloc (.map #[] 0)).alloc (.cells #[.map (some (w.heap.size + 1 + 1 + 1))] 123)).alloc (.cells #[.func (.func 87) #[] #[.pointer (some ⟨w.heap.size + 1 + 1 + 1 + 1, 0, none⟩), .pointer (some ⟨w.heap.size + 1 + 1, 0, none⟩), .pointer (some ⟨w.heap.size, 0, none⟩), .pointer (some ⟨w.heap.size + 1, 0, none⟩), .pointer (some ⟨w.heap.size + 1 + 1 + 1 + 1 + 1, 0, none⟩)]] 124) = V := ⟨_, rfl⟩
  obtain ⟨hG, hI, hB⟩ := reach_start w k A1 A2 As c1 c2 cs nn nl ns V hV
  rw [hV]
  have HI := Lib.hid hI
  have HB := Lib.hid hB
  have HW1 := Lib.hid (HWk.out hG)
  have HGg := Lib.hid hG
  clear hV hI hB hG hmm HWk
  refine wp_opaque ?_
  intro t0 ht0
  have hsz0 : t0.size = 15 := by rw [ht0]; rfl
  have q2 : t0.getD 2 undef = .pointer (some ⟨w.heap.size, 0, none⟩) := by rw [ht0]; rfl
  have q7 : t0.getD 7 undef = .pointer (some ⟨w.heap.size + 1 + 1 + 1 + 1 + 1, 0, none⟩) := by rw [ht0]; rfl
  have HT0 := Lib.hid ht0
  clear ht0
  have HBd := Lib.hid (fun X (hI : Below V.drew.heap.size V.drew X) => (Below.refl V.heap.size V).drew.trans hI)
  refine wp_region_vals [some 10, some 11, some 12, some 13] (RdI V.drew (.func (.func 87) #[] #[.pointer (some ⟨w.heap.size + 1 + 1 + 1 + 1, 0, none⟩), .pointer (some ⟨w.heap.size + 1 + 1, 0, none⟩), .pointer (some ⟨w.heap.size, 0, none⟩), .pointer (some ⟨w.heap.size + 1, 0, none⟩), .pointer (some ⟨w.heap.size + 1 + 1 + 1 + 1 + 1, 0, none⟩)]) (.agg #[.slice A1 nn c1, .slice A2 nl c2]) (.int .i64 bg) (fun X => ∃ rb, WkS w (w.heap.size + 6) w.heap.size (w.heap.size + 1) (w.heap.size + 1 + 1) (w.heap.size + 1 + 1 + 1) (w.heap.size + 1 + 1 + 1 + 1) (w.heap.size + 1 + 1 + 1 + 1 + 1) k (.slice A1 nn c1) (.slice A2 nl c2) (.slice As ns cs) (walkF k seen (nn + 1) [] bg) (lvsF k (walkF k seen (nn + 1) [] bg)) rb X)) (by kernel_rfl) (by kernel_rfl) rfl rfl (by simp [hsz0]) (by kernel_rfl) ?_ ?_ ?_
  · intro val
    exact ⟨(fun h => nomatch h), (fun h => nomatch h), (fun h => nomatch h), fun _ => Below.refl _ _, (fun h => nomatch h)⟩
  · intro dn q o hi hd hp hc val X a ha hn hI K hK
    have hq : q < 4 := by
      have := (Array.getElem?_eq_some_iff.1 hi).1
      simpa using this
    have k3 : dn 3 = true → dn 0 = true ∧ dn 2 = true := fun h => ⟨hc 3 _ rfl h ⟨0, .data⟩ (by simp) rfl, hc 3 _ rfl h ⟨2, .data⟩ (by simp) rfl⟩
    have k2 : dn 2 = true → dn 1 = true := fun h => hc 2 _ rfl h ⟨1, .data⟩ (by simp) rfl
    have bf : ∀ {q : Bool}, (q = true → False) → q = false := fun {q} h => by cases q; rfl; exact (h rfl).elim
    have hB := fun n3 => HBd.out X (hI.bel n3)
    rcases (show q = 0 ∨ q = 1 ∨ q = 2 ∨ q = 3 by omega) with rfl | rfl | rfl | rfl
    · obtain rfl := Option.some.inj hi
      have n3 : dn 3 = false := bf fun h => f_t hd (k3 h).1
      exact opLdFn 7 _ _ rfl ((ha 7).trans q7) (cell_one (HI.out.step (hB n3)).wb) (hK _ _ hI.op0)
    · obtain rfl := Option.some.inj hi
      have n3 : dn 3 = false := bf fun h => f_t hd (k2 (k3 h).2)
      exact opLdKey 2 _ _ _ rfl ((ha 2).trans q2) (HI.out.step (hB n3)).kb (hK _ _ hI.op1)
    · obtain rfl := Option.some.inj hi
      have y1 := hp ⟨1, .data⟩ (by simp) rfl
      have n3 : dn 3 = false := bf fun h => f_t hd (k3 h).2
      refine opCallBg 11 _ _ rfl ((ha 11).trans (hI.s1 y1)) (HBg.out X (HI.out.step (hB n3)).bel) ?_
      rintro e Y ⟨rfl, hb⟩
      exact ⟨_, rfl, hK _ _ (hI.op2 n3 hb)⟩
    · obtain rfl := Option.some.inj hi
      have y0 := hp ⟨0, .data⟩ (by simp) rfl
      have y2 := hp ⟨2, .data⟩ (by simp) rfl
      refine opCallWk 10 12 _ _ _ _ _ bg _ rfl ((ha 10).trans (hI.s0 y0)) ((ha 12).trans (hI.s2 y2)) (HW1.out X (HI.out.step (hB hd)) HBgr.out.1 HBgr.out.2.1 (by omega) HBgr.out.2.2) ?_
      rintro e Y ⟨rfl, rb, hS, _⟩
      exact ⟨_, rfl, hK _ _ (hI.op3 ⟨rb, hS⟩)⟩
  · intro dn val X hdn hI
    obtain ⟨rb, hS⟩ := hI.e3 (hdn 3 (by simp))
    obtain ⟨vals, vs, l1, l2, _⟩ := hS.lb
    obtain ⟨Av, nv, cv, rfl⟩ := l2.slice
    have HS := Lib.hid (And.intro l2.sl hS.bel)
    have l0 := cell_one l1
    simp only [wrS, HT0.out]
    simp only [List.setIfInBounds_toArray, List.set_cons_succ, List.set_cons_zero]
    simp only [Exit.then]
    clear hdn hI hS l1 l2 HT0 hsz0 q2 q7
    generalize val 0 = x0
    generalize val 1 = x1
    generalize val 2 = x2
    generalize val 3 = x3
    go_wp2_with fail
    (try rw [Exit.noGoto_ret])
    go_ret
    exact ⟨⟨_, rfl, HS.out.1⟩, HS.out.2⟩
end Go.Proofs.YthfegbcbpeedbaaGreatDoor
namespace Go.Ky
open Go.Nm
theorem any_take_false {α : Type} {g : α → Bool} {a : List α} {i : Nat} {x : α} (hx : a[i]? = some x) (h : (a.take i).any g = false) (hg : g x = false) : (a.take (i + 1)).any g = false := by
  rw [show a.take (i + 1) = a.take i ++ [x] from by rw [List.take_add_one, hx]; rfl, List.any_append, h]
  simp [hg]
theorem any_true {α : Type} {g : α → Bool} {a : List α} {i : Nat} {x : α} (hx : a[i]? = some x) (h : g x = true) : a.any g = true := List.any_eq_true.2 ⟨x, List.mem_of_getElem? hx, h⟩
theorem any_end {α : Type} {g : α → Bool} {a : List α} {n : Nat} (hn : a.length = n) (h : (a.take n).any g = false) : a.any g = false := by
  rwa [show a.take n = a from List.take_of_length_le (by omega)] at h
theorem leaves_nms {LL : List (List Int)} (h : leavesF LL = true) : 1 ≤ LL.length ∧ LL.length ≤ 1000 ∧ ∀ l ∈ LL, Nms l := by
  unfold leavesF at h
  rw [Bool.and_eq_true] at h
  have h1 := of_decide_eq_true h.2
  exact ⟨h1.1, h1.2, fun l hl => of_decide_eq_true ((List.all_eq_true.1 h.1) l hl)⟩
theorem reach_mem {k : Kx} {B : List Int} {l : List Int} (h : l ∈ lvsF k B) : l = [] ∨ l ∈ k.lv := by
  unfold lvsF at h
  obtain ⟨z, hz, rfl⟩ := List.mem_map.1 h
  rw [List.getD_eq_getElem?_getD]
  cases hl : k.lv[(-1 - z).toNat]? with
  | none => exact .inl rfl
  | some l => exact .inr (List.mem_of_getElem? hl)
end Go.Ky
namespace Go.Proofs.YthfegbcbpeedbaaGreatDoor
open Go.RowKit Go.Nm Go.Ky

set_option maxRecDepth 100000 in
set_option maxHeartbeats 4000000 in
theorem mis1_any (g : Nat) (name : Int) (u : Value) (L : List Int) (w : World) (hu : InSl w w.heap.size u L) (hs : Inc L) (hn : L.length ≤ 1000000) (hg : w.heap[g]? = some (.cells #[.int .i64 name] 3)) :
    Calls Tryz.prog 58 #[u, .pointer (some ⟨g, 0, none⟩)] w fun e w' => e = .returned (.bool (!decide (name ∈ L))) ∧ w = w' := by
  have HS := Lib.hid (search_any u L name w hu hs hn)
  have c0 := cell_one hg
  obtain ⟨A, c, rfl, _⟩ := hu.form
  generalize L.length = n at *
  obtain ⟨b, hb⟩ : ∃ b, decide (name ∈ L) = b := ⟨_, rfl⟩
  rw [hb] at HS ⊢
  clear hu hs hg hb
  go_enter Tryz.func58, Tryz.ntmps58
  go_wp2_with fail
  (with_reducible refine HS.out.mono ?_)
  rintro e w1 ⟨⟨p, rfl⟩, rfl⟩
  clear HS
  go_wp2_with fail
  go_ret
  exact ⟨by cases b <;> rfl, rfl⟩
set_option maxRecDepth 100000 in
set_option maxHeartbeats 4000000 in
theorem IndexMis_any (g : Nat) (name : Int) (v : Value) (LL : List (List Int)) (w : World) (hv : VsSl w w.heap.size v LL) (hg : w.heap[g]? = some (.cells #[.int .i64 name] 3)) (hs : ∀ l ∈ LL, Inc l ∧ l.length ≤ 1000000) (hn : LL.length ≤ 100000) :
    Calls Tryz.prog 86 #[v, .func (.func 58) #[] #[.pointer (some ⟨g, 0, none⟩)]] w fun e w' =>
      ((∃ i : Nat, e = .returned (.int .i64 (i : Int)) ∧ i < 100000 ∧ LL.any (fun l => !decide (name ∈ l)) = true) ∨ (e = .returned (.int .i64 (-1)) ∧ LL.any (fun l => !decide (name ∈ l)) = false)) ∧ w = w' := by
  have HG := Lib.hid hg
  have HU := Lib.hid hv
  have HSs := Lib.hid hs
  obtain ⟨A, c, rfl⟩ := hv.form
  obtain ⟨n, h⟩ : ∃ n, LL.length = n := ⟨_, rfl⟩
  have HN := Lib.hid h
  rw [h] at HU hn ⊢
  clear hv h hg hs
  go_enter Tryz.func86, Tryz.ntmps86
  go_wp2_with fail
  go_loopw [8] (fun iv wr => ∃ i : Nat, iv = .int .i64 (i : Int) ∧ i ≤ n ∧ w = wr ∧ (LL.take i).any (fun l => !decide (name ∈ l)) = false) (fun iv _ => n - (intOf iv).toNat)
  case atStart => exact ⟨0, rfl, by omega, rfl, rfl⟩
  case round =>
    obtain ⟨i, rfl, hin, rfl, hno⟩ := hrel
    have HNo := Lib.hid hno
    clear hno
    by_cases hlt : i < n
    · obtain ⟨ad, lv, l, rfl, _, hq, hc, hi⟩ := HU.out.at_ hlt
      have HC := Lib.hid (mis1_any g name lv l w hi (HSs.out l (List.mem_of_getElem? hq)).1 (HSs.out l (List.mem_of_getElem? hq)).2 HG.out)
      obtain ⟨Al, cl, rfl, _⟩ := hi.form
      have HQ := Lib.hid hq
      generalize l.length = q at *
      obtain ⟨b, hb⟩ : ∃ b, decide (name ∈ l) = b := ⟨_, rfl⟩
      have HB := Lib.hid hb
      rw [hb] at HC
      clear hq hi hb
      go_wp2_with fail
      (with_reducible refine HC.out.mono ?_)
      rintro e w1 ⟨rfl, rfl⟩
      clear HC
      cases b with
      | false =>
        have HF := Lib.hid (any_true (g := fun l => !decide (name ∈ l)) HQ.out (by simp [HB.out]))
        have hi5 : i < 100000 := by omega
        go_wp2_with fail
        go_ret
        exact ⟨.inl ⟨i, rfl, hi5, HF.out⟩, rfl⟩
      | true =>
        have HT := Lib.hid (any_take_false (g := fun l => !decide (name ∈ l)) HQ.out HNo.out (by simp [HB.out]))
        go_wp2_with fail
        go_roundw
        case rel => exact ⟨i + 1, by go_num, by omega, by first | trivial | rfl, HT.out⟩
        case measure => simp [intOf]; try omega
    · obtain rfl : n = i := by omega
      have HF := Lib.hid (any_end (g := fun l => !decide (name ∈ l)) HN.out HNo.out)
      go_wp2_with fail
      go_ret
      exact ⟨.inr ⟨rfl, HF.out⟩, rfl⟩
set_option maxRecDepth 100000 in
set_option maxHeartbeats 4000000 in
theorem ContainsMis_any (g : Nat) (name : Int) (v : Value) (LL : List (List Int)) (w : World) (hv : VsSl w w.heap.size v LL) (hg : w.heap[g]? = some (.cells #[.int .i64 name] 3)) (hs : ∀ l ∈ LL, Inc l ∧ l.length ≤ 1000000) (hn : LL.length ≤ 100000) :
    Calls Tryz.prog 56 #[v, .func (.func 58) #[] #[.pointer (some ⟨g, 0, none⟩)]] w fun e w' => e = .returned (.bool (LL.any (fun l => !decide (name ∈ l)))) ∧ w = w' := by
  have HC := Lib.hid (IndexMis_any g name v LL w hv hg hs hn)
  obtain ⟨A, c, rfl⟩ := hv.form
  generalize LL.length = n at *
  obtain ⟨b, hb⟩ : ∃ b, LL.any (fun l => !decide (name ∈ l)) = b := ⟨_, rfl⟩
  rw [hb] at HC ⊢
  clear hv hg hs hb
  go_enter Tryz.func56, Tryz.ntmps56
  go_wp2_with fail
  (with_reducible refine HC.out.mono ?_)
  rintro e w1 ⟨hR, rfl⟩
  clear HC
  rcases hR with ⟨i, rfl, hi, rfl⟩ | ⟨rfl, rfl⟩
  · go_wp2_with fail
    go_ret
    exact ⟨by simp, rfl⟩
  · go_wp2_with fail
    go_ret
    exact ⟨by simp, rfl⟩
theorem lvs_len {k : Kx} {B : List Int} : (lvsF k B).length ≤ B.length := by
  unfold lvsF; rw [List.length_map]; exact List.length_filter_le _ _
set_option maxRecDepth 100000 in
set_option maxHeartbeats 8000000 in
theorem misleads_any (u v : Value) (k : Kx) (name : Int) (seen st : List Int) (w : World) (hu : KyV w u k) (hv : InSl w w.heap.size v seen) (hk : KSm k) (hok : KOk st k) (hss : seen.length = st.length) (hl : leavesF k.lv = true) (hr : (reachF k seen).length ≤ 100000) :
    Calls Tryz.prog 28 #[u, .int .i64 name, v] w fun e w' => e = .returned (.bool (misF k name seen)) ∧ Below w.heap.size w w' := by
  obtain ⟨A1, c1, A2, c2, W0, rfl, hW0, hb0, hK, hNd, hV, hX⟩ := ky_box hu
  have hz : W0.heap.size = w.heap.size + 1 := by rw [← hW0]; simp
  have hb1 := below_new (w := W0) (.cells #[.int .i64 name] 3)
  have hn1 := World.alloc_heap_new W0 (.cells #[.int .i64 name] 3)
  obtain ⟨W1, hW1⟩ : ∃ W, W0.alloc (.cells #[.int .i64 name] 3) = W := ⟨_, rfl⟩
  rw [hW1, hz] at hn1
  rw [hW1] at hb1
  have HW := Lib.hid (And.intro hW0 hW1)
  have hB1 := hb0.trans (hb1.mono hb0.size)
  have HB1 := Lib.hid hB1
  obtain ⟨k0, k1⟩ := hX W1 hb1
  have HRe := Lib.hid (reached_any _ v k seen st W1 (hK W1 hb1) (hv.step hB1) hk hok hss (leaves_nms hl).1)
  have HSs := Lib.hid (show ∀ l ∈ reachF k seen, Inc l ∧ l.length ≤ 1000000 from fun l hm => by
    rcases reach_mem hm with rfl | h
    · exact ⟨List.Pairwise.nil, by simp⟩
    · exact ⟨((leaves_nms hl).2.2 l h).1, by have := hk.2.2.2 l h; omega⟩)
  have HN1 := Lib.hid (fun Y (h : Below W1.heap.size W1 Y) => (h.block _ (Array.getElem?_eq_some_iff.1 hn1).1).trans hn1)
  have HF := Lib.hid (show misF k name seen = (reachF k seen).any (fun l => !decide (name ∈ l)) from rfl)
  have HLr := Lib.hid hr
  rw [HF.out]
  obtain ⟨RL, hRL⟩ : ∃ L, reachF k seen = L := ⟨_, rfl⟩
  rw [hRL] at HRe HSs HLr ⊢
  obtain ⟨As, cs, rfl, _⟩ := hv.form
  generalize k.nd.length = n at *
  generalize k.lv.length = nl at *
  generalize seen.length = ns at *
  clear hu hv hk hok hss hl hr hW0 hb0 hK hNd hV hX hz hb1 hn1 hW1 hB1 hRL HF
  go_enter Tryz.func28, Tryz.ntmps28
  go_wp2_with fail
  rw [HW.out.1, HW.out.2]
  (try go_wp2_with fail)
  (with_reducible refine HRe.out.mono ?_)
  rintro e w2 ⟨⟨r, rfl, hr⟩, hb⟩
  have HB2 := Lib.hid (HB1.out.trans (hb.mono HB1.out.size))
  have HC := Lib.hid (ContainsMis_any (w.heap.size + 1) name r RL w2 hr (HN1.out w2 hb) HSs.out HLr.out)
  obtain ⟨Ar, cr, rfl⟩ := hr.form
  generalize RL.length = nr at *
  clear hr hb HRe k0 k1
  go_wp2_with fail
  (with_reducible refine HC.out.mono ?_)
  rintro e w3 ⟨rfl, rfl⟩
  go_wp2_with fail
  go_ret
  exact ⟨rfl, HB2.out⟩
end Go.Proofs.YthfegbcbpeedbaaGreatDoor
