/- Wrong, Right. -/
import Derived.Test.YthfegbcbpeedbaaDoorKyOn
namespace Go.Ky
open Go.Nm
def rightE (m : Mx) (k : Kx) : Int := if wrongE m k = 3 then 0 else wrongE m k
theorem ck_cases (m : Mx) (k : Kx) : ckE m k = 0 ∨ ckE m k = 30 ∨ ckE m k = 31 := by
  unfold ckE
  split
  · split
    · exact .inl rfl
    · exact .inr (.inr rfl)
  · exact .inr (.inl rfl)
theorem wrong_cases (m : Mx) (k : Kx) : wrongE m k = 0 ∨ wrongE m k = 3 ∨ wrongE m k = 30 ∨ wrongE m k = 31 := by
  unfold wrongE
  split
  · split
    · exact .inl rfl
    · exact .inr (.inl rfl)
  · rcases ck_cases m k with h | h | h
    · exact .inl h
    · exact .inr (.inr (.inl h))
    · exact .inr (.inr (.inr h))
end Go.Ky
namespace Go.Proofs.YthfegbcbpeedbaaDoor
open Go.RowKit Go.Nm Go.Ky

structure RwI (V : World) (p0 nv kv rv : Value) (S : Value → World → Prop) (dn : Nat → Bool) (val : Nat → Value) (X : World) : Prop where
  s0 : dn 0 = true → val 0 = p0
  s1 : dn 1 = true → val 1 = nv
  s2 : dn 2 = true → val 2 = kv
  s3 : dn 3 = true → val 3 = rv
  s5 : dn 5 = true → val 5 = nv
  s7 : dn 7 = true → val 7 = .int .i64 0
  bel : dn 4 = false → Below V.heap.size V X
  e4 : dn 4 = true → S (val 4) X
  e6 : dn 6 = true → dn 4 = true ∧ val 6 = val 4
section
variable {V : World} {p0 nv kv rv : Value} {S : Value → World → Prop} {dn : Nat → Bool} {val : Nat → Value} {X Y : World}
theorem RwI.op0 (h : RwI V p0 nv kv rv S dn val X) : RwI V p0 nv kv rv S (andB dn 0) (updV val 0 (p0)) X :=
  ⟨(fun _ => rfl), h.s1, h.s2, h.s3, h.s5, h.s7, h.bel, h.e4, h.e6⟩
theorem RwI.op1 (h : RwI V p0 nv kv rv S dn val X) : RwI V p0 nv kv rv S (andB dn 1) (updV val 1 (nv)) X :=
  ⟨h.s0, (fun _ => rfl), h.s2, h.s3, h.s5, h.s7, h.bel, h.e4, h.e6⟩
theorem RwI.op2 (h : RwI V p0 nv kv rv S dn val X) : RwI V p0 nv kv rv S (andB dn 2) (updV val 2 (kv)) X :=
  ⟨h.s0, h.s1, (fun _ => rfl), h.s3, h.s5, h.s7, h.bel, h.e4, h.e6⟩
theorem RwI.op3 (h : RwI V p0 nv kv rv S dn val X) : RwI V p0 nv kv rv S (andB dn 3) (updV val 3 (rv)) X :=
  ⟨h.s0, h.s1, h.s2, (fun _ => rfl), h.s5, h.s7, h.bel, h.e4, h.e6⟩
theorem RwI.op5 (h : RwI V p0 nv kv rv S dn val X) : RwI V p0 nv kv rv S (andB dn 5) (updV val 5 (nv)) X :=
  ⟨h.s0, h.s1, h.s2, h.s3, (fun _ => rfl), h.s7, h.bel, h.e4, h.e6⟩
theorem RwI.op7 (h : RwI V p0 nv kv rv S dn val X) : RwI V p0 nv kv rv S (andB dn 7) (updV val 7 (.int .i64 0)) X :=
  ⟨h.s0, h.s1, h.s2, h.s3, h.s5, (fun _ => rfl), h.bel, h.e4, h.e6⟩
theorem RwI.op4 (h : RwI V p0 nv kv rv S dn val X) (n6 : dn 6 = false) {v : Value} (hS : S v Y) : RwI V p0 nv kv rv S (andB dn 4) (updV val 4 (v)) (Y) :=
  ⟨h.s0, h.s1, h.s2, h.s3, h.s5, h.s7, (fun n => nomatch n), (fun _ => hS), (fun d => f_t n6 d)⟩
theorem RwI.op6 (h : RwI V p0 nv kv rv S dn val X) (y4 : dn 4 = true) : RwI V p0 nv kv rv S (andB dn 6) (updV val 6 (val 4)) (X) :=
  ⟨h.s0, h.s1, h.s2, h.s3, h.s5, h.s7, h.bel, h.e4, (fun _ => ⟨y4, rfl⟩)⟩
end
section
variable {o : Oper} {a : Act} {w : World} {K : Act → World → Prop} {Q : Exit → Act → World → Prop}
set_option maxRecDepth 100000 in
theorem opLdRow (q g : Nat) (v1 v2 : Value) (ho : o.op = .load 35 (.tmp q)) (hq : a.tmps.getD q undef = .pointer (some ⟨g, 0, none⟩)) (hg : w.heap[g]? = some (.cells #[v1, v2] 35)) (h : K (a.put o.dst (.agg #[v1, v2])) w) : o.wp Tryd.prog a w K Q := by
  unfold Oper.wp execOp
  have he : a.eval (.tmp q) = .pointer (some ⟨g, 0, none⟩) := hq
  obtain ⟨c0, c1⟩ := cells_two hg
  simp only [ho, he]
  go_simp
  exact h
set_option maxRecDepth 100000 in
theorem opCallFm (q r : Nat) (v1 v2 : Value) (R : Ending → World → Prop) (ho : o.op = .call { callee := .value (.func 107), args := #[.tmp q, .tmp r], argTypes := #[53, 35] }) (h1 : a.tmps.getD q undef = v1) (h2 : a.tmps.getD r undef = v2)
    (hc : Calls Tryd.prog 107 #[v1, v2] w R) (h : ∀ e w', R e w' → ∃ v, e = .returned v ∧ K (a.put o.dst v) w') : o.wp Tryd.prog a w K Q := by
  unfold Oper.wp execOp
  have e1 : a.eval (.tmp q) = v1 := h1
  have e2 : a.eval (.tmp r) = v2 := h2
  simp only [ho]
  go_simp
  refine hc.mono ?_
  intro e w' hR
  obtain ⟨v, rfl, hK⟩ := h e w' hR
  exact hK
end
set_option maxRecDepth 100000 in
set_option maxHeartbeats 8000000 in
theorem Wrong_any (v u : Value) (m : Mx) (k : Kx) (w : World) (hv : MxV w v m) (hs : MSm m) (hu : KyV w u k) (hk : KSm k) :
    Calls Tryd.prog 55 #[v, u] w fun e w' => (∃ x, e = .returned (.tuple #[.int .i64 (wrongN m k), x, .int .i64 (wrongE m k)]) ∧ Fr w.heap.size w' x (wrongL m k)) ∧ Below w.heap.size w w' := by
  obtain ⟨A1, c1, A2, c2, W0, rfl, hW0, hb0, hM, hS, hR, hX⟩ := mx_box hv
  have hz : W0.heap.size = w.heap.size + 1 := by rw [← hW0]; simp
  obtain ⟨B1, d1, B2, d2, W1, rfl, hW1, hb1, hK, hNd, hV, hX1⟩ := ky_box (hu.step hb0)
  have hn1 : W1.heap[w.heap.size + 1]? = some (.cells #[.slice B1 k.nd.length d1, .slice B2 k.lv.length d2] 53) := by rw [← hW1, ← hz]; exact World.alloc_heap_new W0 _
  rw [hz] at hX1
  have HW := Lib.hid (And.intro hW0 hW1)
  have HB1 := Lib.hid (hb0.trans (hb1.mono hb0.size))
  have HX := Lib.hid (fun Y (h : Below W1.heap.size W1 Y) => And.intro (And.intro (hX Y (hb1.trans (h.mono hb1.size))) (hX1 Y h)) ((h.block _ (Array.getElem?_eq_some_iff.1 hn1).1).trans hn1))
  have HC := Lib.hid (CheckKey_any _ _ m k W1 (hM W1 hb1) hs (hK W1 (Below.refl _ _)) hk)
  have HFd := Lib.hid (fun (hc : ckE m k = 0) Y (h : Below W1.heap.size W1 Y) => findWr_any (w.heap.size + 1) (fun r => misF k r.nm r.may) _ m.rows Y (hR Y (hb1.trans (h.mono hb1.size))) (by have := hs.2.1; omega) (fun X hX r Am cm hr hm => wrong1_any (w.heap.size + 1) r Am cm k m.st B1 B2 d1 d2 X ((((h.trans (hX.mono h.size))).block _ (Array.getElem?_eq_some_iff.1 hn1).1).trans hn1) (hK X (h.trans (hX.mono h.size))) hm hk (ck_ok hc).2.2 (sets_len' ((mx_all (ck_ok hc).1).2.2 r hr)) (ck_ok hc).2.1))
  have HFm := Lib.hid (fun (hc : ckE m k = 0) Y (h : Below W1.heap.size W1 Y) (r : Rw) (Am : Option Addr) (cm : Nat) (hr : r ∈ m.rows) (hm : InSl Y Y.heap.size (.slice Am r.may.length cm) r.may) => firstMisled_any _ k r Am cm m.st Y (hK Y h) hm hk (ck_ok hc).2.2 (sets_len' ((mx_all (ck_ok hc).1).2.2 r hr)) (chr_ok (mx_all (ck_ok hc).1).1).1 (ck_ok hc).2.1)
  have HE := Lib.hid (show wrongE m k = (if ckE m k = 0 then (if (wrongR m k).isSome = true then 0 else 3) else ckE m k) ∧ wrongN m k = (if wrongE m k = 0 then ((wrongR m k).getD ⟨0, []⟩).nm else 0) ∧ wrongL m k = (if wrongE m k = 0 then firstF k ((wrongR m k).getD ⟨0, []⟩) else []) ∧ wrongR m k = m.rows.find? (fun r => misF k r.nm r.may) from ⟨rfl, rfl, rfl, rfl⟩)
  have HCk := Lib.hid (ck_cases m k)
  obtain ⟨ce, hce⟩ : ∃ c, ckE m k = c := ⟨_, rfl⟩
  obtain ⟨we, hwe⟩ : ∃ c, wrongE m k = c := ⟨_, rfl⟩
  obtain ⟨wn, hwn⟩ : ∃ c, wrongN m k = c := ⟨_, rfl⟩
  obtain ⟨wl, hwl⟩ : ∃ c, wrongL m k = c := ⟨_, rfl⟩
  rw [hce] at HC HFd HFm HE HCk
  rw [hwe, hwn, hwl] at HE
  rw [hwe, hwn, hwl]
  obtain ⟨⟨⟨k0, k1⟩, k2, k3⟩, _⟩ := HX.out W1 (Below.refl _ _)
  have hz1 : w.heap.size + 2 ≤ W1.heap.size := by rw [← hW1]; simp [hz]
  generalize k.nd.length = n at *
  generalize k.lv.length = nl at *
  generalize m.st.length = ns at *
  generalize m.rows.length = nr at *
  clear hv hu hs hk hW0 hb0 hM hS hR hX hz hW1 hb1 hK hNd hV hX1 hce hwe hwn hwl hn1
  go_enter Tryd.func55, Tryd.ntmps55
  go_wp2_with fail
  rw [HW.out.1, HW.out.2]
  (try go_wp2_with fail)
  (with_reducible refine HC.out.mono ?_)
  rintro e w1 ⟨rfl, hb⟩
  have HB2 := Lib.hid hb
  clear k0 k1 k2 k3 HC hb
  obtain ⟨⟨⟨k0, k1⟩, k2, k3⟩, _⟩ := HX.out w1 HB2.out
  have bad : ∀ z : Int, ce = z → z ≠ 0 → we = z ∧ wn = 0 ∧ wl = [] := fun z h h0 => by
    have h1 : we = z := by rw [HE.out.1, h, if_neg h0]
    exact ⟨h1, by rw [HE.out.2.1, h1, if_neg h0], by rw [HE.out.2.2.1, h1, if_neg h0]⟩
  rcases HCk.out with h0 | h0 | h0
  rotate_left
  · subst h0
    have HF := Lib.hid (bad 30 rfl (by decide))
    clear bad HFd HFm HE HCk
    go_wp2_with fail
    refine bodyPost_ret (v := .tuple #[.int .i64 0, .slice none 0 0, .int .i64 30]) (by simp [results, Tryd.results55, go_sem]) rfl ?_
    exact ⟨⟨_, by rw [HF.out.1, HF.out.2.1], by rw [HF.out.2.2]; exact Fr.nil _ _⟩, HB1.out.trans (HB2.out.mono HB1.out.size)⟩
  · subst h0
    have HF := Lib.hid (bad 31 rfl (by decide))
    clear bad HFd HFm HE HCk
    go_wp2_with fail
    refine bodyPost_ret (v := .tuple #[.int .i64 0, .slice none 0 0, .int .i64 31]) (by simp [results, Tryd.results55, go_sem]) rfl ?_
    exact ⟨⟨_, by rw [HF.out.1, HF.out.2.1], by rw [HF.out.2.2]; exact Fr.nil _ _⟩, HB1.out.trans (HB2.out.mono HB1.out.size)⟩
  · subst h0
    have HFd1 := Lib.hid (HFd.out rfl w1 HB2.out)
    have HFm1 := Lib.hid (HFm.out rfl)
    clear bad HFd HFm HCk
    go_wp2_with fail
    (with_reducible refine HFd1.out.mono ?_)
    rintro e w2 ⟨hR, hb⟩
    have HB3 := Lib.hid (HB2.out.trans (hb.mono HB2.out.size))
    clear hb k0 k1 k2 k3 HFd1
    rcases hR with ⟨r, Am, cm, hf, rfl, hi⟩ | ⟨hf, rfl⟩
    · have HF := Lib.hid (show we = 0 ∧ wn = r.nm ∧ wl = firstF k r from by
        have h1 : we = 0 := by rw [HE.out.1, HE.out.2.2.2, hf]; rfl
        exact ⟨h1, by rw [HE.out.2.1, h1, if_pos rfl, HE.out.2.2.2, hf]; rfl, by rw [HE.out.2.2.1, h1, if_pos rfl, HE.out.2.2.2, hf]; rfl⟩)
      have HMr := Lib.hid (List.mem_of_find?_eq_some hf)
      have hbV := below_new (w := w2) (.cells #[.int .i64 r.nm, .slice Am r.may.length cm] 35)
      have hnV := World.alloc_heap_new w2 (.cells #[.int .i64 r.nm, .slice Am r.may.length cm] 35)
      have HIm := Lib.hid (hi.step hbV)
      have HBV := Lib.hid (HB3.out.trans (hbV.mono HB3.out.size))
      have HNV := Lib.hid hnV
      obtain ⟨V, hV⟩ : ∃ V, w2.alloc (.cells #[.int .i64 r.nm, .slice Am r.may.length cm] 35) = V := ⟨_, rfl⟩
      have HV := Lib.hid hV
      obtain ⟨rl, hrl⟩ : ∃ x, r.may.length = x := ⟨_, rfl⟩
      have HRl := Lib.hid hrl
      rw [hV] at HIm HBV HNV
      rw [hrl] at HV HIm HNV ⊢
      clear hf hi hbV hnV hV hrl
      go_wp2_with fail
      rw [HV.out]
      refine wp_opaque ?_
      intro t0 ht0
      have hsz0 : t0.size = 30 := by rw [ht0]; rfl
      have q3 : t0.getD 3 undef = .pointer (some ⟨w.heap.size + 1, 0, none⟩) := by rw [ht0]; rfl
      have q8 : t0.getD 8 undef = .pointer (some ⟨w2.heap.size, 0, none⟩) := by rw [ht0]; rfl
      have HT0 := Lib.hid ht0
      clear ht0
      have HBd := Lib.hid (fun X (hI : Below V.drew.heap.size V.drew X) => (Below.refl V.heap.size V).drew.trans hI)
      have HY := Lib.hid (fun X (h : Below V.heap.size V X) => And.intro (HX.out X (HBV.out.trans (h.mono HBV.out.size))).2 ((h.block _ (Array.getElem?_eq_some_iff.1 HNV.out).1).trans HNV.out))
      refine wp_region_vals [some 25, some 26, some 27, some 28, some 29, some 4, some 5, some 6] (RwI V.drew (.pointer (some ⟨w2.heap.size, 0, none⟩)) (.int .i64 r.nm) (.agg #[.slice B1 n d1, .slice B2 nl d2]) (.agg #[.int .i64 r.nm, .slice Am rl cm]) (fun u X => Fr w.heap.size X u (firstF k r) ∧ Below w.heap.size w X ∧ X.heap[w2.heap.size]? = some (.cells #[.int .i64 r.nm, .slice Am rl cm] 35))) (by kernel_rfl) (by kernel_rfl) rfl rfl (by simp [hsz0]) (by kernel_rfl) ?_ ?_ ?_
      · intro val
        exact ⟨(fun h => nomatch h), (fun h => nomatch h), (fun h => nomatch h), (fun h => nomatch h), (fun h => nomatch h), (fun h => nomatch h), fun _ => Below.refl _ _, (fun h => nomatch h), (fun h => nomatch h)⟩
      · intro dn q o hi hd hp hc val X a ha hn hI K hK
        have hq : q < 8 := by
          have := (Array.getElem?_eq_some_iff.1 hi).1
          simpa using this
        have k4 : dn 4 = true → dn 2 = true ∧ dn 3 = true := fun h => ⟨hc 4 _ rfl h ⟨2, .data⟩ (by simp) rfl, hc 4 _ rfl h ⟨3, .data⟩ (by simp) rfl⟩
        have k6 : dn 6 = true → dn 4 = true := fun h => hc 6 _ rfl h ⟨4, .data⟩ (by simp) rfl
        have bf : ∀ {q : Bool}, (q = true → False) → q = false := fun {q} h => by cases q; rfl; exact (h rfl).elim
        have hB : Below V.heap.size V X ∨ dn 4 = true := by
          cases h4 : dn 4 with
          | false => exact .inl (HBd.out X (hI.bel h4))
          | true => exact .inr rfl
        rcases (show q = 0 ∨ q = 1 ∨ q = 2 ∨ q = 3 ∨ q = 4 ∨ q = 5 ∨ q = 6 ∨ q = 7 by omega) with rfl | rfl | rfl | rfl | rfl | rfl | rfl | rfl
        · obtain rfl := Option.some.inj hi
          exact opFieldR 0 8 _ (by decide) rfl ((ha 8).trans q8) (hK _ _ hI.op0)
        · obtain rfl := Option.some.inj hi
          have y0 := hp ⟨0, .data⟩ (by simp) rfl
          have hc0 : X.cell? ⟨w2.heap.size, 0, none⟩ = some (.int .i64 r.nm) := by
            rcases hB with h | h
            · exact (cells_two (HY.out X h).2).1
            · exact (cells_two (hI.e4 h).2.2).1
          exact opLd 25 _ _ rfl ((ha 25).trans (hI.s0 y0)) hc0 (hK _ _ hI.op1)
        · obtain rfl := Option.some.inj hi
          have n4 : dn 4 = false := bf fun h => f_t hd (k4 h).1
          exact opLdKey 3 _ _ _ rfl ((ha 3).trans q3) (HY.out X (HBd.out X (hI.bel n4))).1 (hK _ _ hI.op2)
        · obtain rfl := Option.some.inj hi
          have n4 : dn 4 = false := bf fun h => f_t hd (k4 h).2
          exact opLdRow 8 _ _ _ rfl ((ha 8).trans q8) (HY.out X (HBd.out X (hI.bel n4))).2 (hK _ _ hI.op3)
        · obtain rfl := Option.some.inj hi
          have y2 := hp ⟨2, .data⟩ (by simp) rfl
          have y3 := hp ⟨3, .data⟩ (by simp) rfl
          have n6 : dn 6 = false := bf fun h => f_t hd (k6 h)
          have hB4 := HBd.out X (hI.bel hd)
          have hBX := HBV.out.trans (hB4.mono HBV.out.size)
          have hcl := HFm1.out X hBX r Am cm HMr.out (by rw [HRl.out]; exact HIm.out.step hB4)
          rw [HRl.out] at hcl
          refine opCallFm 27 28 _ _ _ rfl ((ha 27).trans (hI.s2 y2)) ((ha 28).trans (hI.s3 y3)) hcl ?_
          rintro e Y ⟨⟨u, rfl, hF⟩, hb⟩
          have hsz := Nat.le_trans HB1.out.size hBX.size
          exact ⟨u, rfl, hK _ _ (hI.op4 n6 ⟨hF.low hsz, HB1.out.trans ((hBX.trans (hb.mono hBX.size)).mono HB1.out.size), (hb.block _ (Array.getElem?_eq_some_iff.1 (HY.out X hB4).2).1).trans (HY.out X hB4).2⟩)⟩
        · obtain rfl := Option.some.inj hi
          have y1 := hp ⟨1, .data⟩ (by simp) rfl
          exact opAssign 26 _ rfl ((ha 26).trans (hI.s1 y1)) (hK _ _ hI.op5)
        · obtain rfl := Option.some.inj hi
          have y4 := hp ⟨4, .data⟩ (by simp) rfl
          exact opAssign 29 _ rfl (ha 29) (hK _ _ (hI.op6 y4))
        · obtain rfl := Option.some.inj hi
          exact opAssignK _ rfl (hK _ _ hI.op7)
      · intro dn val X hdn hI
        have h4 := hI.e4 (hdn 4 (by simp))
        have h5 := hI.s5 (hdn 5 (by simp))
        have h6 := (hI.e6 (hdn 6 (by simp))).2
        have h7 := hI.s7 (hdn 7 (by simp))
        obtain ⟨A4, d4, e4, _⟩ := h4.1.1.form
        rw [e4] at h4 h6
        have HR := Lib.hid h4
        simp only [wrS, HT0.out]
        simp only [List.setIfInBounds_toArray, List.set_cons_succ, List.set_cons_zero]
        rw [h5, h6, h7]
        simp only [Exit.then]
        generalize (firstF k r).length = fl at *
        clear hdn hI h4 h5 h6 h7 e4 HT0 hsz0 q3 q8
        (try go_wp2_with fail)
        (try rw [Exit.noGoto_ret])
        refine bodyPost_ret (v := .tuple #[.int .i64 r.nm, .slice A4 fl d4, .int .i64 0]) (by simp [results, Tryd.results55, go_sem]) rfl ?_
        exact ⟨⟨_, by rw [HF.out.1, HF.out.2.1], by rw [HF.out.2.2]; exact HR.out.1⟩, HR.out.2.1⟩
    · have HF := Lib.hid (show we = 3 ∧ wn = 0 ∧ wl = [] from by
        have h1 : we = 3 := by rw [HE.out.1, HE.out.2.2.2, hf]; rfl
        exact ⟨h1, by rw [HE.out.2.1, h1]; rfl, by rw [HE.out.2.2.1, h1]; rfl⟩)
      have HB4 := Lib.hid (HB3.out.trans ((below_new (w := w2) (.cells #[.int .i64 0, .slice none 0 0] 35)).mono HB3.out.size))
      clear hf
      go_wp2_with fail
      refine bodyPost_ret (v := .tuple #[.int .i64 0, .slice none 0 0, .int .i64 3]) (by simp [results, Tryd.results55, go_sem]) rfl ?_
      exact ⟨⟨_, by rw [HF.out.1, HF.out.2.1], by rw [HF.out.2.2]; exact Fr.nil _ _⟩, HB1.out.trans (HB4.out.mono HB1.out.size)⟩
end Go.Proofs.YthfegbcbpeedbaaDoor
