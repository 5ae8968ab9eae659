
/- Depth. -/
import Derived.Test.YthfegbcbpeedbaaGreatDoorKyOo
namespace Go.Ky
open Go.Nm
def dpS (i : Nat) (f : Int → Int) (x : Int) : Int → Int := fun k => if k = (i : Int) then max (f i) (1 + f x) else f k
def dpN (i : Nat) (r : Rw) (f : Int → Int) (j : Nat) : Int → Int := (r.may.take j).foldl (dpS i) f
/-- the depths, from the last node back -/
def dpM (nd : List Rw) : Nat → Int → Int
  | 0 => fun _ => 0
  | t + 1 => dpN (nd.length - 1 - t) (nd.getD (nd.length - 1 - t) ⟨0, []⟩) (dpM nd t) (nd.getD (nd.length - 1 - t) ⟨0, []⟩).may.length
def depC (m : Mx) (k : Kx) : Int := if ckE m k = 0 then dpM k.nd k.nd.length 0 else 0
theorem dpN_next {i : Nat} {r : Rw} {f : Int → Int} {j : Nat} {x : Int} (h : r.may[j]? = some x) : dpN i r f (j + 1) = dpS i (dpN i r f j) x := by
  unfold dpN; rw [fold_next h]
theorem dpM_next {nd : List Rw} {t i : Nat} {r : Rw} (hi : i + t + 1 = nd.length) (hr : nd[i]? = some r) : dpM nd (t + 1) = dpN i r (dpM nd t) r.may.length := by
  have e : nd.length - 1 - t = i := by omega
  conv => lhs; unfold dpM
  rw [e, List.getD_eq_getElem?_getD, hr]
  rfl
theorem dpS_bd {i : Nat} {f : Int → Int} {x b : Int} (h : ∀ k, 0 ≤ f k ∧ f k ≤ b) : ∀ k, 0 ≤ dpS i f x k ∧ dpS i f x k ≤ b + 1 := fun k => by
  unfold dpS
  have h1 := h i; have h2 := h x; have h3 := h k
  split <;> omega
theorem dpN_bd {i : Nat} {r : Rw} {f : Int → Int} {b : Int} (h : ∀ k, 0 ≤ f k ∧ f k ≤ b) (hb : 0 ≤ b) : ∀ j, ∀ k, 0 ≤ dpN i r f j k ∧ dpN i r f j k ≤ b + j
  | 0, k => by have := h k; show 0 ≤ f k ∧ f k ≤ b + 0; omega
  | j + 1, k => by
    have ih := dpN_bd (i := i) (r := r) h hb j
    cases hx : r.may[j]? with
    | none =>
      have e : dpN i r f (j + 1) = dpN i r f j := by unfold dpN; rw [show r.may.take (j + 1) = r.may.take j from by rw [List.take_add_one, hx]; simp]
      rw [e]; have := ih k; omega
    | some x =>
      rw [dpN_next hx]
      have := dpS_bd (i := i) (x := x) ih k
      omega
theorem dpM_bd {nd : List Rw} (h : ∀ r ∈ nd, r.may.length ≤ 1000) : ∀ t, t ≤ nd.length → ∀ k, 0 ≤ dpM nd t k ∧ dpM nd t k ≤ (t : Int) * 1000
  | 0, _, k => by show 0 ≤ (0 : Int) ∧ (0 : Int) ≤ 0 * 1000; omega
  | t + 1, ht, k => by
    have ih := dpM_bd h t (by omega)
    obtain ⟨r, hr⟩ : ∃ r, nd[nd.length - 1 - t]? = some r := ⟨_, List.getElem?_eq_getElem (by omega)⟩
    rw [dpM_next (by omega) hr]
    have h1 := dpN_bd (i := nd.length - 1 - t) (r := r) ih (by omega) r.may.length k
    have h2 := h r (List.mem_of_getElem? hr)
    omega
end Go.Ky
namespace Go.Proofs.YthfegbcbpeedbaaGreatDoor
open Go.RowKit Go.Nm Go.Ky Go.Maps Go.Shelf
attribute [local go_sem] Oper.semAt_some

theorem arr44 {t : Array Value} (h : t.size = 44) : ∃ f : Nat → Value, t = #[f 0, f 1, f 2, f 3, f 4, f 5, f 6, f 7, f 8, f 9, f 10, f 11, f 12, f 13, f 14, f 15, f 16, f 17, f 18, f 19, f 20, f 21, f 22, f 23, f 24, f 25, f 26, f 27, f 28, f 29, f 30, f 31, f 32, f 33, f 34, f 35, f 36, f 37, f 38, f 39, f 40, f 41, f 42, f 43] := by
  refine ⟨fun k => t.getD k undef, ?_⟩
  apply Array.ext
  · simpa using h
  · intro i h1 h2
    have : i < 44 := by omega
    have hi : i = 0 ∨ i = 1 ∨ i = 2 ∨ i = 3 ∨ i = 4 ∨ i = 5 ∨ i = 6 ∨ i = 7 ∨ i = 8 ∨ i = 9 ∨ i = 10 ∨ i = 11 ∨ i = 12 ∨ i = 13 ∨ i = 14 ∨ i = 15 ∨ i = 16 ∨ i = 17 ∨ i = 18 ∨ i = 19 ∨ i = 20 ∨ i = 21 ∨ i = 22 ∨ i = 23 ∨ i = 24 ∨ i = 25 ∨ i = 26 ∨ i = 27 ∨ i = 28 ∨ i = 29 ∨ i = 30 ∨ i = 31 ∨ i = 32 ∨ i = 33 ∨ i = 34 ∨ i = 35 ∨ i = 36 ∨ i = 37 ∨ i = 38 ∨ i = 39 ∨ i = 40 ∨ i = 41 ∨ i = 42 ∨ i = 43 := by omega
    rcases hi with rfl | rfl | rfl | rfl | rfl | rfl | rfl | rfl | rfl | rfl | rfl | rfl | rfl | rfl | rfl | rfl | rfl | rfl | rfl | rfl | rfl | rfl | rfl | rfl | rfl | rfl | rfl | rfl | rfl | rfl | rfl | rfl | rfl | rfl | rfl | rfl | rfl | rfl | rfl | rfl | rfl | rfl | rfl | rfl <;> simp [Array.getD, h1]
theorem MI.made (W X : World) (hb : Below W.heap.size W X) : MI W X.heap.size 0 (fun _ => 0) (X.alloc (.map #[] 0)) :=
  ⟨hb.alloc hb.size _, hb.size, ⟨.map [], World.ownsMap_made _ _ _ _, fun _ => rfl⟩, fun _ => by decide⟩
theorem MI.lt {W X : World} {mb n : Nat} {f : Int → Int} (h : MI W mb n f X) : mb < X.heap.size := by
  obtain ⟨_, _, ⟨D, h, _⟩, _⟩ := h; exact h.lt
section
variable {F : Fence} {nF : Nat} {ops : Array Oper} {rest : List Oper} {o : Oper} {a : Act} {Q : Exit → Act → World → Prop} {W w : World} {mb n : Nat} {f : Int → Int}
theorem wpListIn_lookup_mi (hg : o.guard = none) (m x : Operand) (hop : o.op = Op.lookup 75 m x false) (hM : MI W mb n f w) (hm : a.eval m = .map (some mb)) (z : Int) (hx : a.eval x = .int .i64 z) (hz : (Lit.int .i64 z).wf = true)
    (hK : wpListIn F nF Tryz.prog ops Q rest (a.put o.dst (.int .i64 (f z))) w) : wpListIn F nF Tryz.prog ops Q (o :: rest) a w := by
  obtain ⟨_, _, ⟨D, h1, h2⟩, _⟩ := hM
  refine wpListIn_lookup_own_int w hg m x 75 hop 3 3 .i64 keyI Tryz.underlying75 Tryz.underlying3 (zeroI _) mb n D hm h1 _ _ hx (keyOf_int_mk Tryz.underlying3 hz) ?_
  intro c hat _
  have := (h2 z).symm.trans hat
  injection this with h; injection h with _ h
  rw [← h]; exact hK
theorem wpListIn_put_mi (hg : o.guard = none) (m x v : Operand) (hop : o.op = Op.mapUpdate 75 m x v) (hM : MI W mb n f w) (hn : n < maxLen) (hm : a.eval m = .map (some mb)) (z : Int) (hx : a.eval x = .int .i64 z) (hz : (Lit.int .i64 z).wf = true) (c : Int) (hv : a.eval v = .int .i64 c) (hc : (Lit.int .i64 c).wf = true)
    (hK : ∀ w', MI W mb (n + 1) (fun k => if k = z then c else f k) w' → w.grownBy w' (some mb) → wpListIn F nF Tryz.prog ops Q rest (a.put o.dst undef) w') : wpListIn F nF Tryz.prog ops Q (o :: rest) a w := by
  obtain ⟨hb, hw, ⟨D, h1, h2⟩, h3⟩ := hM
  refine wpListIn_mapUpdate_in w hg m x v 75 hop 3 3 keyI Tryz.underlying75 _ mb n D hm h1 hn _ _ _ hx hv (keyOf_int_mk Tryz.underlying3 hz) _ [] (plainElem_int Tryz.underlying3 hc) ?_
  intro w' h4 h5
  refine hK w' ⟨hb.grown h5.grown hb.size (fun k e => by cases e; exact hw), hw, ⟨_, h4, fun k => ?_⟩, fun k => by (try dsimp only); split; exact hc; exact h3 k⟩ h5.grown
  by_cases hk : k = z
  · subst hk; rw [atKey_put_same h1.isMap (isK _), if_pos rfl]
  · rw [atKey_put_other (ne_lit hk), h2, if_neg hk]
end
/-- what is known at each node; w1 is the world behind the check -/
structure DpI (w1 : World) (nd : List Rw) (A : Option Addr) (n c : Nat) (pre : List Bx3) (Y : World) : Prop where
  mi : MI w1 w1.heap.size (pre.length * 1000) (dpM nd pre.length) Y
  mbx : Y.heap[w1.heap.size + 1]? = some (.cells #[.map (some w1.heap.size)] 75)
  bbx : Y.heap[w1.heap.size + 2]? = some (.cells #[.slice A n c] 26)
theorem DpI.grown {w : World} {nd : List Rw} {A : Option Addr} {n c : Nat} {pre : List Bx3} {X Y : World} {row : Option Nat} (h : DpI w nd A n c pre X) (hg : X.grownBy Y row) (hr : ∀ r, row = some r → w.heap.size + 3 ≤ r) : DpI w nd A n c pre Y := by
  have hne : ∀ k, k < w.heap.size + 3 → some k ≠ row := fun k hk e => by have := hr k e.symm; omega
  exact ⟨h.mi.kept hg (fun r e => by have := hr r e; omega),
    (hg.block _ (Array.getElem?_eq_some_iff.1 h.mbx).1 (hne _ (by omega))).trans h.mbx, (hg.block _ (Array.getElem?_eq_some_iff.1 h.bbx).1 (hne _ (by omega))).trans h.bbx⟩
theorem dp_start (w : World) (nd : List Rw) (A : Option Addr) (n c : Nat) (Y : World) (hY : ((w.alloc (.map #[] 0)).alloc (.cells #[.map (some w.heap.size)] 75)).alloc (.cells #[.slice A n c] 26) = Y) : DpI w nd A n c [] Y ∧ Y.heap.size = w.heap.size + 3 := by
  have m2 := MI.made w w (Below.refl _ _)
  obtain ⟨X2, hX2⟩ : ∃ X, w.alloc (.map #[] 0) = X := ⟨_, rfl⟩
  have z2 : X2.heap.size = w.heap.size + 1 := by rw [← hX2]; simp
  rw [hX2] at m2 hY
  have n3 := World.alloc_heap_new X2 (.cells #[.map (some w.heap.size)] 75)
  have b3 := below_new (w := X2) (.cells #[.map (some w.heap.size)] 75)
  obtain ⟨X3, hX3⟩ : ∃ X, X2.alloc (.cells #[.map (some w.heap.size)] 75) = X := ⟨_, rfl⟩
  have z3 : X3.heap.size = w.heap.size + 2 := by rw [← hX3]; simp [z2]
  rw [hX3] at n3 b3 hY
  rw [z2] at n3
  have n4 := World.alloc_heap_new X3 (.cells #[.slice A n c] 26)
  have b4 := below_new (w := X3) (.cells #[.slice A n c] 26)
  rw [hY] at n4 b4
  rw [z3] at n4
  have z4 : Y.heap.size = w.heap.size + 3 := by rw [← hY]; simp [z3]
  have n3 := (b4.block _ (by omega)).trans n3
  have m4 := (m2.step b3).step b4
  exact ⟨⟨m4, n3, n4⟩, z4⟩
set_option maxRecDepth 100000 in
set_option maxHeartbeats 8000000 in
theorem Depth_any (v u : Value) (m : Mx) (k : Kx) (w : World) (hv : MxV w v m) (hs : MSm m) (hu : KyV w u k) (hk : KSm k) :
    Calls Tryz.prog 13 #[v, u] w fun e w' => e = .returned (.tuple #[.int .i64 (depC m k), .int .i64 (ckE m k)]) ∧ Below w.heap.size w w' := by
  obtain ⟨A1, c1, A2, c2, W0, rfl, hW0, hb0, hM, hS, hR, hX⟩ := mx_box hv
  have hz : W0.heap.size = w.heap.size + 1 := by rw [← hW0]; simp
  obtain ⟨B1, d1, B2, d2, W1, rfl, hW1, hb1, hK, hNd, hV, hX1⟩ := ky_box (hu.step hb0)
  rw [hz] at hX1
  have HW := Lib.hid (And.intro hW0 hW1)
  have hB1 := hb0.trans (hb1.mono hb0.size)
  have HB1 := Lib.hid hB1
  have HX := Lib.hid (fun Y (h : Below W1.heap.size W1 Y) => And.intro (hX Y (hb1.trans (h.mono hb1.size))) (hX1 Y h))
  have HC := Lib.hid (CheckKey_any _ _ m k W1 (hM W1 hb1) hs (hK W1 (Below.refl _ _)) hk)
  have HNd := Lib.hid hNd
  have HCk := Lib.hid (ck_cases m k)
  have HOk := Lib.hid (fun h : ckE m k = 0 => (ck_ok h).2.2)
  have HE := Lib.hid (show depC m k = (if ckE m k = 0 then dpM k.nd k.nd.length 0 else 0) from rfl)
  have HBd := Lib.hid (dpM_bd (nd := k.nd) hk.2.2.1)
  have HKr := Lib.hid hk.2.2.1
  obtain ⟨ce, hce⟩ : ∃ c, ckE m k = c := ⟨_, rfl⟩
  obtain ⟨de, hde⟩ : ∃ c, depC m k = c := ⟨_, rfl⟩
  rw [hce] at HC HE HCk HOk
  rw [hde] at HE
  rw [hde, hce]
  obtain ⟨n, hn⟩ : ∃ n, k.nd.length = n := ⟨_, rfl⟩
  have HN := Lib.hid hn
  have hn1 : n ≤ 2000 := by have := hk.1; omega
  rw [hn] at HX HW HC HNd HE HBd
  rw [hn]
  obtain ⟨⟨k0, k1⟩, k2, k3⟩ := HX.out W1 (Below.refl _ _)
  obtain ⟨nl, hnl⟩ : ∃ n, k.lv.length = n := ⟨_, rfl⟩
  rw [hnl] at HW HX HC k3
  rw [hnl]
  have HLv := Lib.hid hk.2.1
  generalize m.rows.length = nr at *
  generalize m.st.length = ns at *
  clear hv hu hs hk hW0 hb0 hM hS hR hX hz hW1 hb1 hK hNd hV hX1 hce hde hn hB1 hnl
  have hmm := @run_makeMap Tryz.prog
  obtain ⟨nn, hnn⟩ : ∃ nn : Nat, 20 ≤ nn := ⟨20, by omega⟩
  refine (callsIn_wide (n := nn)).1 ?_
  refine callsIn_of_wp_marks Tryz.func13 rfl trivial ?_ rfl
  simp only [Tryz.ntmps13, List.size_toArray, List.length_cons, List.length_nil, Nat.reduceAdd, Nat.reduceSub, Array.replicate_succ, Array.replicate_zero, List.push_toArray, List.append_toArray, List.nil_append, List.cons_append]
  gi_wp2_with fail
  rw [HW.out.1, HW.out.2]
  (try gi_wp2_with fail)
  refine ⟨trivial, fun h => (by first | omega | cases h), (callsIn_wide.2 HC.out).mono ?_⟩
  rintro e w1 ⟨rfl, hb⟩
  have HB2 := Lib.hid hb
  clear k0 k1 k2 k3 HC hb
  obtain ⟨⟨k0, k1⟩, k2, k3⟩ := HX.out w1 HB2.out
  rcases HCk.out with h0 | h0 | h0
  rotate_left
  · subst h0
    have HF := Lib.hid (show de = 0 from by rw [HE.out]; simp)
    gi_wp2_with fail
    refine ⟨.tuple #[.int .i64 0, .int .i64 30], by simp [results, Tryz.results13, go_sem], by rw [HF.out], ?_⟩
    exact HB1.out.trans (HB2.out.mono HB1.out.size)
  · subst h0
    have HF := Lib.hid (show de = 0 from by rw [HE.out]; simp)
    gi_wp2_with fail
    refine ⟨.tuple #[.int .i64 0, .int .i64 31], by simp [results, Tryz.results13, go_sem], by rw [HF.out], ?_⟩
    exact HB1.out.trans (HB2.out.mono HB1.out.size)
  · subst h0
    have hbx : Below w1.heap.size w1 ((w1.alloc (.map #[] 0)).alloc (.cells #[.map (some w1.heap.size)] 75)) := (below_new _).trans ((below_new _).mono (by simp))
    have k2' := (HX.out _ (HB2.out.trans (hbx.mono HB2.out.size))).2.1
    clear hbx
    gi_wp2_with fail
    refine ⟨trivial, fun h => (by first | omega | cases h), (callsIn_wide.2 (Backward_any B1 n d1 _)).mono ?_⟩
    rintro e w2 ⟨rfl, hw2⟩
    obtain ⟨hI0, hz0⟩ := dp_start w1 k.nd B1 n d1 w2 hw2
    simp only [World.size_alloc]
    clear hw2 hmm k0 k1 k2 k3 k2'
    gi_wp2_with fail
    refine wp_rangeG (by omega) (gf := 71) (lb := #[.pointer (some ⟨w1.heap.size + 1 + 1, 0, none⟩)]) rfl (enters_of Tryz.func71 (by kernel_rfl) rfl) (encs := bxv) (fun _ => rfl)
      (fun pre ow Y => DpI w1 k.nd B1 n d1 pre Y ∧ pre.length ≤ n ∧ ow = none)
      (fun _ _ _ => False)
      (fun ow pre P Q row h hg hr => ⟨h.1.grown hg (fun r e => by have := (hr r e).1; omega), h.2⟩)
      (fun cd pre P Q row h hg hr => h)
      (fun pre ow P h k e => by rw [h.2.2] at e; cases e) none ⟨hI0, by simp, rfl⟩
      (back_iter w1 w2.heap.size (nn - 1) (w1.heap.size + 2) (by omega) k.nd B1 n d1 (HNd.out w1 HB2.out) HN.out hn1 _ (fun pre ow P h => ⟨h.1.mi.bel, h.1.bbx⟩))
      (fun x a' P => ∃ Bx, w2.heap.size ≤ Bx ∧ P.heap[Bx]? = some (.cells #[.int .i64 x.2.1.nm, .slice x.2.2.1 x.2.1.may.length x.2.2.2] 55) ∧ a'.tmps.size = 44 ∧ a'.tmps.getD 7 undef = .pointer (some ⟨w1.heap.size + 1, 0, none⟩) ∧ a'.tmps.getD 8 undef = .int .i64 (x.1 : Int) ∧ a'.tmps.getD 9 undef = .pointer (some ⟨Bx, 0, none⟩) ∧ a'.defers = [])
      (fun x a' _ P Q row h hg hr => by
        obtain ⟨Bx, k0, k1, k2⟩ := h
        refine ⟨Bx, k0, (hg.block _ (Array.getElem?_eq_some_iff.1 k1).1 (fun e => ?_)).trans k1, k2⟩
        obtain ⟨_, o, ho, hc⟩ := hr Bx e.symm
        rw [k1] at ho; cases ho; cases hc)
      ?assign ?body ?done ?stop
    case stop => rintro D cd pre P hD hSp h; exact h.elim
    case assign =>
      intro lr pre x ow P K' hI' hK'
      obtain ⟨i, r, Am, cm⟩ := x
      unfold bxv
      simp only
      gi_wp2_with fail
      exact hK' _ _ (.inr ⟨_, rfl⟩) ⟨P.heap.size, by have := (Array.getElem?_eq_some_iff.1 hI'.1.bbx).1; omega, World.alloc_heap_new P _, rfl, rfl, rfl, rfl, rfl⟩
    case body =>
      rintro lr pre x ow ⟨t, ds⟩ P hl ⟨rr, hrr⟩ ⟨hI, hpl, rfl⟩ ⟨Bx, hBx, hx, hsz, h2, h3, h4, hd⟩ ⟨hpi, hpr, hpY⟩
      obtain ⟨i, r, Am, cm⟩ := x
      simp only at hpi hpr hpY hx h3
      obtain ⟨f', hf'⟩ := arr44 hsz
      subst hf'
      have h2' : f' 7 = .pointer (some ⟨w1.heap.size + 1, 0, none⟩) := h2
      have h3' : f' 8 = .int .i64 (i : Int) := h3
      have h4' : f' 9 = .pointer (some ⟨Bx, 0, none⟩) := h4
      have hd' : ds = [] := hd
      subst hd'
      rw [h2', h3', h4']
      have hrm := List.mem_of_getElem? hpr
      obtain ⟨x0, x1⟩ := cells_two hx
      have HP := Lib.hid hI
      have HA := Lib.hid (fun Y (h : Below w1.heap.size w1 Y) => show InA Y Y.heap.size Am r.may from by obtain ⟨_, _, e, _, _, h⟩ := hpY Y h; cases e; exact h)
      obtain ⟨q, hq⟩ : ∃ q, r.may.length = q := ⟨_, rfl⟩
      have HQ := Lib.hid hq
      have hq1 : q ≤ 1000 := by rw [← hq]; exact HKr.out r hrm
      have hi1 : i < n := by have := HN.out; omega
      have HI1 := Lib.hid (show (pre ++ [((i, r, Am, cm) : Bx3)]).length = pre.length + 1 from by simp)
      have HPl := Lib.hid (show pre.length + 1 ≤ n from by have := HN.out; omega)
      have HMx := Lib.hid (show ∀ x ∈ r.may, -2000 ≤ x ∧ x ≤ 2000 from fun x hx => by
        have h5 := ((HOk.out (by first | rfl | trivial)).nd i r hpr).2.2.2 x hx
        have := HN.out; have := HLv.out
        omega)
      have HNx := Lib.hid (dpM_next (nd := k.nd) (t := pre.length) (by omega) hpr)
      obtain ⟨f, hf⟩ : ∃ f, dpM k.nd pre.length = f := ⟨_, rfl⟩
      have HM0 := Lib.hid (show MI w1 w1.heap.size (pre.length * 1000) f P from by rw [← hf]; exact HP.out.mi)
      have HBf := Lib.hid (show ∀ k, 0 ≤ f k ∧ f k ≤ (pre.length : Int) * 1000 from by rw [← hf]; exact HBd.out _ (by omega))
      rw [hf, hq] at HNx
      have HNN := Lib.hid (show ∀ Y, P.grownBy Y (some w1.heap.size) → Y.cell? ⟨w1.heap.size + 1, 0, none⟩ = some (.map (some w1.heap.size)) from fun Y hg => cell_one ((hg.block _ (Array.getElem?_eq_some_iff.1 HP.out.mbx).1 (by simp)).trans HP.out.mbx))
      rw [hq] at x1
      clear h2 h3 h4 hd h2' h3' h4' hsz hx hI hpi hpr hpY hrm hq hBx hf HE
      gi_wp2_with fail
      gi_loopw [27] (fun jv wq => ∃ j : Nat, jv = .int .i64 (j : Int) ∧ j ≤ q ∧ P.grownBy wq (some w1.heap.size) ∧ MI w1 w1.heap.size (pre.length * 1000 + j) (dpN i r f j) wq) (fun jv _ => q - (intOf jv).toNat)
      case atStart => exact ⟨0, rfl, by omega, World.grownBy.refl _ _, HM0.out⟩
      case round =>
        obtain ⟨j, rfl, hjq, hgb, hmi⟩ := hrel
        have HG := Lib.hid hgb
        have HM := Lib.hid hmi
        clear hgb hmi
        by_cases hlt : j < q
        · have m0 := HNN.out wr HG.out
          obtain ⟨x, ad, hx, rfl, _, hcx⟩ := (HA.out wr HM.out.bel).at_ HQ.out hlt
          have hxr := HMx.out x (List.mem_of_getElem? hx)
          have HWx := Lib.hid (show (Lit.int .i64 x).wf = true from WalkArith.wf_i64 (by omega))
          have HWi := Lib.hid (show (Lit.int .i64 (i : Int)).wf = true from WalkArith.wf_i64 (by omega))
          obtain ⟨g, hg⟩ : ∃ g, dpN i r f j = g := ⟨_, rfl⟩
          have HBg := Lib.hid (show ∀ k, 0 ≤ g k ∧ g k ≤ (pre.length : Int) * 1000 + j from by rw [← hg]; exact dpN_bd HBf.out (by omega) j)
          obtain ⟨vi, hvi⟩ : ∃ v, g (i : Int) = v := ⟨_, rfl⟩
          obtain ⟨vx, hvx⟩ : ∃ v, g x = v := ⟨_, rfl⟩
          have hb1 := HBg.out (i : Int)
          have hb2 := HBg.out x
          rw [hvi] at hb1
          rw [hvx] at hb2
          have HV := Lib.hid (And.intro hvi hvx)
          have HS := Lib.hid (show dpN i r f (j + 1) = fun k => if k = (i : Int) then max vi (1 + vx) else g k from by
            rw [dpN_next hx, hg]; unfold dpS; rw [hvi, hvx])
          rw [hg] at HM
          have HLn := Lib.hid (show pre.length * 1000 + j < maxLen from by unfold maxLen; have := HPl.out; omega)
          have hbb : vi ≤ 3000000 ∧ vx ≤ 3000000 := by have := HPl.out; omega
          have hwx : IntKind.i64.wrap (1 + vx) = 1 + vx := by rw [IntKind.wrap_i64]; omega
          have HBB := Lib.hid (And.intro hb1.1 (And.intro hb2.1 hbb))
          clear hx hg hvi hvx hxr hb1 hb2 hbb
          gi_wp2_with (first
            | (gi_at_lookup; first
              | (refine wpListIn_lookup_mi rfl _ _ rfl HM.out rfl (i : Int) rfl HWi.out ?_; rw [HV.out.1])
              | (refine wpListIn_lookup_mi rfl _ _ rfl HM.out rfl x rfl HWx.out ?_; rw [HV.out.2]))
            | (gi_at_mapUpdate; refine wpListIn_put_mi rfl _ _ _ rfl HM.out HLn.out rfl (i : Int) rfl HWi.out _ rfl (WalkArith.wf_i64 (by have := HBB.out; omega)) ?_; intro w5 hM5 hg5; have HM5 := Lib.hid hM5; have HG5 := Lib.hid hg5; clear hM5 hg5))
          go_roundw
          case rel => exact ⟨j + 1, by go_num, by omega, HG.out.trans HG5.out, by
            rw [HS.out]
            have e : (if vi < 1 + vx then 1 + vx else vi) = max vi (1 + vx) := by split <;> omega
            have h := HM5.out
            rw [e] at h
            exact h⟩
          case measure => simp [intOf]; try omega
        · obtain rfl : q = j := by omega
          gi_wp2_with fail
          refine ⟨KA.of_grown HG.out (by omega), none, ⟨⟨?_, ?_, ?_⟩, by rw [HI1.out]; exact HPl.out, rfl⟩, .inl rfl⟩
          · rw [HI1.out, HNx.out]; exact HM.out.mono (by omega)
          · exact (HG.out.block _ (Array.getElem?_eq_some_iff.1 HP.out.mbx).1 (by simp)).trans HP.out.mbx
          · exact (HG.out.block _ (Array.getElem?_eq_some_iff.1 HP.out.bbx).1 (by simp)).trans HP.out.bbx
    case done =>
      rintro D xs ow P hD hxl ⟨hI, hlen, rfl⟩ hKd
      have hxn : xs.length = n := hxl
      have HM := Lib.hid (show MI w1 w1.heap.size (n * 1000) (dpM k.nd n) P from by have := hI.mi; rwa [hxn] at this)
      have HF := Lib.hid (show dpM k.nd n 0 = de from by rw [HE.out]; simp)
      have m0 : P.cell? ⟨w1.heap.size + 1, 0, none⟩ = some (.map (some w1.heap.size)) := cell_one hI.mbx
      have HKd := Lib.hid hKd
      have HD := Lib.hid (show w1.heap.size ≤ D by omega)
      clear hI hKd hxn hxl
      gi_wp2_with (gi_at_lookup; refine wpListIn_lookup_mi rfl _ _ rfl HM.out rfl 0 rfl (by decide) ?_; rw [HF.out])
      refine ⟨by simp, .inl ⟨_, _, rfl, run_takeDeferred HKd.out, ?_⟩⟩
      refine ⟨.tuple #[.int .i64 de, .int .i64 0], by simp [results, Tryz.results13, go_sem], rfl, ?_⟩
      exact HB1.out.trans ((HB2.out.trans ((HM.out.bel.grown (grownBy_putObj' P D (.deferred none)) HM.out.bel.size (fun r e => by cases e; exact HD.out)).mono HB2.out.size)).mono HB1.out.size)
end Go.Proofs.YthfegbcbpeedbaaGreatDoor
