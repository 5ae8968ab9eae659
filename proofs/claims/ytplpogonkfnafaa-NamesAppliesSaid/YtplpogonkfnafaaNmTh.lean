/- Through. -/
import Derived.Test.YtplpogonkfnafaaNmBf
import Derived.Test.YtplpogonkfnafaaNmBg
namespace Go.Proofs.Ytplpogonkfnafaa
open Go.RowKit Go.Nm Go.Shelf
attribute [local go_sem] Oper.semAt_some

/-- the fates that have a name at a version, by their numbers -/
def thr (n : Nat) (x : Int) (fs : List (List Int)) : List Int := ((List.range fs.length).filter fun i => decide ((fs[i]?.bind fun f => f[n]?) = some x)).map fun i : Nat => (i : Int)
theorem thr_snoc (n : Nat) (x : Int) (fs : List (List Int)) (f : List Int) : thr n x (fs ++ [f]) = thr n x fs ++ (if f[n]? = some x then [(fs.length : Int)] else []) := by
  unfold thr
  rw [List.length_append, List.length_singleton, List.range_succ, List.filter_append, List.map_append]
  congr 1
  · congr 1
    refine List.filter_congr fun i hi => ?_
    rw [List.getElem?_append_left (List.mem_range.1 hi)]
  · rw [List.filter_cons, List.filter_nil]
    simp only [List.getElem?_append_right (Nat.le_refl _), Nat.sub_self, List.getElem?_cons_zero, Option.bind_some]
    by_cases h : f[n]? = some x <;> simp [h]
theorem thr_len (n : Nat) (x : Int) (fs : List (List Int)) : (thr n x fs).length ≤ fs.length := by
  unfold thr
  rw [List.length_map]
  exact Nat.le_trans (List.length_filter_le _ _) (by simp)
/-- what the loop of Through keeps -/
structure ThI (V0 : World) (n : Nat) (x : Int) (hv : Array Value) (g : Nat) (pre : List (List Int × Value)) (ow : Option Nat) (X : World) : Prop where
  bel0 : Below V0.heap.size V0 X
  row : ∃ v, Boxed X V0.heap.size 22 v ∧ X.ownsRow (V0.heap.size + 3) 3 1 v (thr n x (pre.map (·.1))).length (intsV (thr n x (pre.map (·.1)))) ∧ ow = v.ownBlock
  cnt : Boxed X (V0.heap.size + 1) 3 (.int .i64 (pre.length : Int))
  hist : X.heap[V0.heap.size + 2]? = some (.cells hv 67)
  ng : ∀ k, ow = some k → k ≠ g
theorem ThI.cellsAt {V0 : World} {n : Nat} {x : Int} {hv : Array Value} {g : Nat} {pre : List (List Int × Value)} {ow : Option Nat} {X : World} (h : ThI V0 n x hv g pre ow X) : ∀ k, ow = some k → ∃ cs t fr, X.heap[k]? = some (.cells cs t fr) := by
  intro k hk
  obtain ⟨v, h1, h2, h3⟩ := h.row
  rcases h2.2 with ⟨rfl, _⟩ | ⟨g', cap, cur, rfl, _, hg', _⟩
  · rw [h3] at hk; simp [Value.ownBlock] at hk
  · rw [h3] at hk; simp [Value.ownBlock] at hk
    subst hk; exact ⟨_, _, _, hg'⟩
theorem own_low {X : World} {B B' n z : Nat} {t : TypeId} {v : Value} {xs : List Value} (h : X.ownsRow B t z v n xs) (hb : B' ≤ B) : X.ownsRow B' t z v n xs :=
  ⟨h.1, h.2.imp id fun ⟨g, cap, cur, e, h1, h2⟩ => ⟨g, cap, cur, e, by omega, h2⟩⟩
theorem heap_al3 (X : World) (o : Obj) : (X.alloc o).heap = X.heap.push o := rfl
theorem ThI.own {V0 : World} {n : Nat} {x : Int} {hv : Array Value} (g : Nat) (pre : List (List Int × Value)) (ow : Option Nat) (X X' : World) (row : Option Nat) (h : ThI V0 n x hv g pre ow X) (hg : X.grownBy X' row) (hr : ∀ r, row = some r → V0.heap.size + 3 ≤ r ∧ (r = g ∨ ∃ o : Obj, X.heap[r]? = some o ∧ o.isCells = false)) : ThI V0 n x hv g pre ow X' := by
  have hc := h.cellsAt
  obtain ⟨v, h1, h2, h3⟩ := h.row
  refine ⟨h.bel0.grown hg h.bel0.size (fun k e => by have := (hr k e).1; omega), ⟨v, h1.kept hg (fun e => by have := (hr _ e.symm).1; omega), h2.kept hg ?_, h3⟩, h.cnt.kept hg (fun e => by have := (hr _ e.symm).1; omega),
    (hg.block _ (Array.getElem?_eq_some_iff.1 h.hist).1 (fun e => by have := (hr _ e.symm).1; omega)).trans h.hist, h.ng⟩
  cases ho : v.ownBlock with
  | none => exact .inl rfl
  | some k =>
    refine .inr (fun e => ?_)
    rcases (hr k e.symm).2 with h' | ⟨o, ho2, hcl⟩
    · exact h.ng k (h3.trans ho) h'
    · obtain ⟨cs, t, fr, h4⟩ := hc k (h3.trans ho)
      rw [h4] at ho2; cases ho2; cases hcl
def throughOut (b : Bk) (n x : Int) : List Int × Int := if openAtE b [] n x = 0 then (if rich b then ([], 2) else (thr n.toNat x (fatesF b (b.chs.length + 1) []), 0)) else ([], openAtE b [] n x)
set_option maxRecDepth 100000 in
set_option maxHeartbeats 8000000 in
theorem through_in (m : Nat) (hm : 4 ≤ m) (v vc : Value) (b : Bk) (n x : Int) (w : World) (hv : BkV w v b vc) (hs : Sm b) (hM : Val b → rich b = false → (fatesF b (b.chs.length + 1) []).length ≤ 100000) :
    CallsIn Fence.wide m Try.prog 33 #[v, .int .i64 n, .int .i64 x] w (OutN (throughOut b n x).1 (throughOut b n x).2 w) := by
  have hv0 := hv
  obtain ⟨v1, rfl, h1, h2⟩ := hv
  obtain ⟨A1, c1, rfl, _⟩ := h1.form
  obtain ⟨A2, c2, rfl⟩ := h2.form
  obtain ⟨W0, hW0⟩ : ∃ W0, ((w.alloc (.cells #[.slice A1 b.first.length c1, .slice A2 b.chs.length c2] 25)).alloc (.cells #[.int .i64 n] 3)).alloc (.cells #[.int .i64 x] 3) = W0 := ⟨_, rfl⟩
  have hb0 : Below w.heap.size w W0 := by rw [← hW0]; exact ((((Below.refl _ _).alloc (by simp) _).alloc (by simp; try omega) _).alloc (by simp; try omega) _)
  have g0 : W0.heap[w.heap.size]? = some (.cells #[.slice A1 b.first.length c1, .slice A2 b.chs.length c2] 25) := by rw [← hW0]; simp only [heap_al3, Array.getElem?_push, Array.size_push]; (repeat rw [if_neg (by omega)]); exact if_pos trivial
  have g1 : W0.heap[w.heap.size + 1]? = some (.cells #[.int .i64 n] 3) := by rw [← hW0]; simp only [heap_al3, Array.getElem?_push, Array.size_push]; (repeat rw [if_neg (by omega)]); exact if_pos trivial
  have g2 : W0.heap[w.heap.size + 1 + 1]? = some (.cells #[.int .i64 x] 3) := by rw [← hW0]; simp only [heap_al3, Array.getElem?_push, Array.size_push]; exact if_pos trivial
  have hn1 : W0.cell? ⟨w.heap.size + 1, 0, none⟩ = some (.int .i64 n) := by simp [World.cell?, g1]
  have hn2 : W0.cell? ⟨w.heap.size + 1 + 1, 0, none⟩ = some (.int .i64 x) := by simp [World.cell?, g2]
  obtain ⟨k0, k1⟩ := cells_two g0
  have HO := Lib.hid (callsIn_wide.2 (openAt_any W0 W0 _ _ (.slice none 0 0) n x [] b (hv0.step hb0) hs (Below.refl _ _) (World.ownsRow_nil _ _ _ _) (by simp)) : CallsIn Fence.wide (m - 1) Try.prog 73 _ W0 _)
  have HM := Lib.hid (show throughOut b n x = if openAtE b [] n x = 0 then (if rich b then ([], 2) else (thr n.toNat x (fatesF b (b.chs.length + 1) []), 0)) else ([], openAtE b [] n x) from rfl)
  have HZ := Lib.hid (openAtE_zero (b := b) (V := []) (n := n) (x := x))
  have HS := Lib.hid hs
  have HMx := Lib.hid hM
  have HB0 := Lib.hid hb0
  have HNx := Lib.hid (And.intro hn1 hn2)
  have hWs := hb0.size
  have HNs := Lib.hid (show w.heap.size + 1 + 1 < W0.heap.size from (Array.getElem?_eq_some_iff.1 g2).1)
  clear hv0 h1 h2 hb0 hs hM g0 g1 g2
  generalize throughOut b n x = o at *
  obtain ⟨oR, oE⟩ := o
  dsimp only
  generalize openAtE b [] n x = er at *
  refine callsIn_of_wp_marks Try.func33 rfl trivial ?_ rfl
  simp only [Try.ntmps33, List.size_toArray, List.length_cons, List.length_nil, Nat.reduceAdd, Nat.reduceSub, Array.replicate_succ, Array.replicate_zero, List.push_toArray, List.append_toArray, List.nil_append, List.cons_append]
  gi_wp2_with fail
  refine ⟨trivial, (fun h => nomatch h), ?_⟩
  (with_reducible refine HO.out.mono ?_)
  rintro e w1 ⟨u, rfl, hu0, hu1, hb⟩
  have HB := Lib.hid (HB0.out.trans (hb.mono HB0.out.size))
  have HN1 := Lib.hid (show (w1.cell? ⟨w.heap.size + 1, 0, none⟩ = some (.int .i64 n) ∧ w1.cell? ⟨w.heap.size + 1 + 1, 0, none⟩ = some (.int .i64 x)) ∧ w.heap.size + 1 + 1 < w1.heap.size from
    ⟨⟨(hb.cell (p := ⟨w.heap.size + 1, 0, none⟩) (by show w.heap.size + 1 < W0.heap.size; have := HNs.out; omega)).trans hn1, (hb.cell (p := ⟨w.heap.size + 1 + 1, 0, none⟩) HNs.out).trans hn2⟩, by have := HNs.out; have := hb.size; omega⟩)
  clear k0 k1 hn1 hn2 HNs hb
  by_cases he : er = 0
  · subst he
    obtain ⟨hval, hV, hx⟩ := HZ.out rfl
    obtain ⟨n0, n1⟩ := hV n (by simp)
    obtain ⟨n', rfl⟩ : ∃ k : Nat, n = (k : Int) := ⟨n.toNat, by omega⟩
    rw [if_pos rfl] at HM
    simp only [Int.toNat_natCast] at HM
    have hH := hu0 rfl
    obtain ⟨Av, cv, rfl, hvs⟩ := vers_sl hH
    have hb2 := below_new (w := w1) (.cells #[.slice Av (vers b).length cv, .slice A2 b.chs.length c2] 67)
    have HH := Lib.hid (hH.step hb2)
    have HB2 := Lib.hid (HB.out.trans (hb2.mono HB.out.size))
    have HRi := Lib.hid (callsIn_wide.2 (rich_val _ _ b _ HH.out HS.out hval) : CallsIn Fence.wide (m - 1) Try.prog 68 _ _ _)
    have HMv := Lib.hid (HMx.out hval)
    have hlen := val_len hval
    have h64 : b.chs.length ≤ 64 := hval.1
    have HVal := Lib.hid hval
    have HN2 := Lib.hid (World.alloc_heap_new w1 (.cells #[.slice Av (vers b).length cv, .slice A2 b.chs.length c2] 67))
    clear hH hvs hb2 hu0 hu1 hval HZ
    obtain ⟨W8, hW8⟩ : ∃ W8, w1.alloc (.cells #[.slice Av (vers b).length cv, .slice A2 b.chs.length c2] 67) = W8 := ⟨_, rfl⟩
    rw [hW8] at HH HB2 HRi HN2
    generalize hvq : (vers b).length = vl at *
    have HVq := Lib.hid (And.intro hvq hlen)
    clear hvq hlen
    obtain ⟨k0, k1⟩ := cells_two HN2.out
    obtain ⟨rr, hrr⟩ : ∃ rr, rich b = rr := ⟨_, rfl⟩
    rw [hrr] at HM HRi HMv
    clear hrr HMx
    have HN1 := Lib.hid (show (W8.cell? ⟨w.heap.size + 1, 0, none⟩ = some (.int .i64 (n' : Int)) ∧ W8.cell? ⟨w.heap.size + 1 + 1, 0, none⟩ = some (.int .i64 x)) ∧ w.heap.size + 1 + 1 < w1.heap.size ∧ w1.heap.size < W8.heap.size from by
      have h := HN1.out
      have hb : Below w1.heap.size w1 W8 := by rw [← hW8]; exact below_new _
      exact ⟨⟨(hb.cell (p := ⟨w.heap.size + 1, 0, none⟩) (by show w.heap.size + 1 < w1.heap.size; omega)).trans h.1.1, (hb.cell (p := ⟨w.heap.size + 1 + 1, 0, none⟩) h.2).trans h.1.2⟩, h.2, (Array.getElem?_eq_some_iff.1 HN2.out).1⟩)
    gi_wp2_with fail
    refine ⟨trivial, (fun h => nomatch h), ?_⟩
    (with_reducible refine HRi.out.mono ?_)
    rintro e w3 ⟨rfl, hb⟩
    have HB3 := Lib.hid (And.intro hb (HB2.out.trans (hb.mono HB2.out.size)))
    have j0 : w3.cell? ⟨w1.heap.size, 0, none⟩ = some (.slice Av vl cv) := (hb.cell (p := ⟨w1.heap.size, 0, none⟩) (Array.getElem?_eq_some_iff.1 HN2.out).1).trans k0
    have j1 : w3.cell? ⟨w1.heap.size, 1, none⟩ = some (.slice A2 b.chs.length c2) := (hb.cell (p := ⟨w1.heap.size, 1, none⟩) (Array.getElem?_eq_some_iff.1 HN2.out).1).trans k1
    have HN3 := Lib.hid (show (w3.cell? ⟨w.heap.size + 1, 0, none⟩ = some (.int .i64 (n' : Int)) ∧ w3.cell? ⟨w.heap.size + 1 + 1, 0, none⟩ = some (.int .i64 x)) ∧ w.heap.size + 1 + 1 < w3.heap.size from by
      have h := HN1.out
      exact ⟨⟨(hb.cell (p := ⟨w.heap.size + 1, 0, none⟩) (by show w.heap.size + 1 < W8.heap.size; omega)).trans h.1.1, (hb.cell (p := ⟨w.heap.size + 1 + 1, 0, none⟩) (by show w.heap.size + 1 + 1 < W8.heap.size; omega)).trans h.1.2⟩, by have := hb.size; omega⟩)
    have HH3 := Lib.hid (HH.out.step hb)
    clear hb k0 k1 HN1 HN2 HH HRi
    cases rr with
    | true =>
      have hM := HM.out
      rw [if_pos rfl] at hM
      injection hM with hM1 hM2
      subst hM1; subst hM2
      clear HM
      gi_wp2_with fail
      exact ⟨_, results_tmp2 rfl _ _ _, OutN.nil HB3.out.2⟩
    | false =>
      have hM := HM.out
      rw [if_neg (by decide)] at hM
      injection hM with hM1 hM2
      subst hM2
      have HT := Lib.hid hM1
      clear HM hM1
      obtain ⟨W9, hW9⟩ : ∃ X, (w3.alloc (.cells #[.slice none 0 0] 22)).alloc (.cells #[.int .i64 0] 3) = X := ⟨_, rfl⟩
      have hb9 : Below w3.heap.size w3 W9 := by rw [← hW9]; exact (((Below.refl _ _).alloc (by simp) _).alloc (by simp) _)
      have s9 : W9.heap.size = w3.heap.size + 2 := by rw [← hW9]; simp
      have g0 : W9.heap[w3.heap.size]? = some (.cells #[.slice none 0 0] 22) := by rw [← hW9]; simp only [heap_al3, Array.getElem?_push, Array.size_push]; (repeat rw [if_neg (by omega)]); exact if_pos trivial
      have g1 : W9.heap[w3.heap.size + 1]? = some (.cells #[.int .i64 0] 3) := by rw [← hW9]; simp only [heap_al3, Array.getElem?_push, Array.size_push]; exact if_pos trivial
      have k0 := (hb9.cell (p := ⟨w1.heap.size, 0, none⟩) (World.block_lt_of_cell? _ _ j0)).trans j0
      have k1 := (hb9.cell (p := ⟨w1.heap.size, 1, none⟩) (World.block_lt_of_cell? _ _ j1)).trans j1
      have HFa := Lib.hid (callsIn_wide.2 (fates_any Av A2 vl cv b.chs.length c2 W9) : CallsIn Fence.wide (m - 1) Try.prog 70 _ _ _)
      have H9 := Lib.hid (And.intro hb9 (And.intro s9 (And.intro g0 g1)))
      rw [← hW9] at k0 k1 HFa
      have HW9 := Lib.hid hW9
      clear hb9 s9 g0 g1 hW9 hW8 hW0
      gi_wp2_with fail
      refine ⟨trivial, (fun h => nomatch h), ?_⟩
      (with_reducible refine HFa.out.mono ?_)
      rintro e W10 ⟨rfl, rfl⟩
      rw [HW9.out]
      clear j0 j1
      have HbA := Lib.hid (below_new (w := W9) (.cells #[.slice Av vl cv, .slice A2 b.chs.length c2] 67))
      have HNA := Lib.hid (World.alloc_heap_new W9 (.cells #[.slice Av vl cv, .slice A2 b.chs.length c2] 67))
      have HsA := Lib.hid (World.size_alloc W9 (.cells #[.slice Av vl cv, .slice A2 b.chs.length c2] 67))
      clear HFa k0 k1
      gi_wp2_with fail
      obtain ⟨WA, hWA⟩ : ∃ X, W9.alloc (.cells #[.slice Av vl cv, .slice A2 b.chs.length c2] 67) = X := ⟨_, rfl⟩
      rw [hWA] at HbA HNA HsA ⊢
      have hsA : WA.heap.size = w3.heap.size + 3 := by have := HsA.out; have := H9.out.2.1; omega
      have hs9 : W9.heap.size = w3.heap.size + 2 := H9.out.2.1
      have hb3A : Below w3.heap.size w3 WA := H9.out.1.trans (HbA.out.mono H9.out.1.size)
      have h0 : ∀ g, w3.heap.size + 3 ≤ g → ThI w3 n' x #[.slice Av vl cv, .slice A2 b.chs.length c2] g [] none WA := fun g hg =>
        ⟨hb3A, ⟨.slice none 0 0, (HbA.out.block _ (by omega)).trans H9.out.2.2.1, World.ownsRow_nil _ _ _ _, rfl⟩, (HbA.out.block _ (by omega)).trans H9.out.2.2.2, by rw [← hs9]; exact HNA.out, fun k e => by cases e⟩
      have hNl : n' < b.chs.length + 1 := by omega
      have HMl := Lib.hid (HMv.out (by first | trivial | rfl))
      have h64' : b.chs.length + 1 ≤ 1000 := by omega
      have hm1 : 1 ≤ m := by omega
      have HvlE := Lib.hid (show (vers b).length = b.chs.length + 1 from by rw [HVq.out.1]; exact HVq.out.2)
      obtain ⟨i0, hi, hz0, hz1, hz2⟩ := infoI
      have HIt := Lib.hid ((fates_iter w3 _ _ #[.slice Av vl cv, .slice A2 b.chs.length c2] b WA.heap.size (b.chs.length + 1) 100000 (m - 1) W9.heap.size HH3.out HS.out HVal.out HvlE.out h64' HMl.out rfl).mono (I := ThI w3 n' x #[.slice Av vl cv, .slice A2 b.chs.length c2])
        fun g pre ow X hg h => ⟨h.bel0, fun k e => ⟨by obtain ⟨cs, t, fr, hc⟩ := h.cellsAt k e; exact (Array.getElem?_eq_some_iff.1 hc).1, h.ng k e⟩, by rw [hs9]; exact h.hist⟩)
      rw [hs9]
      rw [hs9] at HIt
      have HsA2 := Lib.hid hsA
      clear hs9
      clear hsA hWA HsA HNA HbA H9 HW9 hb3A HMv HVq HVal HH3
      refine wp_rangeP hm1 (gf := 100) (lb := #[.pointer (some ⟨w3.heap.size + 2, 0, none⟩)]) rfl (enters_of Try.func100 (by kernel_rfl) rfl) (encs := fun x : List Int × Value => #[x.2]) (fun _ => rfl)
        (ThI w3 n' x #[.slice Av vl cv, .slice A2 b.chs.length c2]) (fun g pre ow X X' row hg h hgr hr => ThI.own g pre ow X X' row h hgr (by rw [HsA2.out] at hr; exact hr)) (fun g pre ow W _ h => h.cellsAt) none (fun g hg => h0 g (by have := HsA2.out; omega)) (PxF.own WA.heap.size (b.chs.length + 1) 100000)
        HIt.out
        (fun x1 a' W => a' = { tmps := #[.agg #[.slice A1 b.first.length c1, .slice A2 b.chs.length c2], .int .i64 (n' : Int), .int .i64 x, .pointer (some ⟨w.heap.size, 0, none⟩), .pointer (some ⟨w.heap.size + 1, 0, none⟩), .pointer (some ⟨w.heap.size + 1 + 1, 0, none⟩), .slice none 0 0, .int .i64 0, .pointer (some ⟨w1.heap.size, 0, none⟩), .int .i64 0, .pointer (some ⟨w3.heap.size, 0, none⟩), .pointer (some ⟨w3.heap.size + 1, 0, none⟩), x1.2, .tuple #[.agg #[.slice Av vl cv, .slice A2 b.chs.length c2], .int .i64 0], .agg #[.slice A1 b.first.length c1, .slice A2 b.chs.length c2], .int .i64 (n' : Int), .int .i64 x, .tuple #[.agg #[.slice Av vl cv, .slice A2 b.chs.length c2], .int .i64 0], .agg #[.slice Av vl cv, .slice A2 b.chs.length c2], .int .i64 0, .int .i64 0, .bool false, undef, .agg #[.slice Av vl cv, .slice A2 b.chs.length c2], .bool false, .agg #[.slice Av vl cv, .slice A2 b.chs.length c2], .func (.func 100) #[] #[.pointer (some ⟨w3.heap.size + 2, 0, none⟩)], x1.2, undef, undef, undef, undef, undef, undef, undef, undef, undef, undef, undef, undef, undef], defers := [] })
        (fun x a' _ X Y row hs hg hr => hs)
        ?assign ?body ?done
      case assign =>
        rintro l g pre ⟨f, u⟩ ow W K hgb hI hK
        gi_wp2_with fail
        exact hK _ _ (.inl rfl) rfl
      case body =>
        rintro l g pre ⟨f, u⟩ ow a' W hl ⟨r, hr⟩ hgb hI rfl ⟨hfl, hpl, hglt, hin⟩
        obtain ⟨Au, cu, e, _⟩ := hin.form
        dsimp only at e hin hfl
        subst e
        have hnf : n' < f.length := by omega
        obtain ⟨ad, hea, _, _, _, _, hcy⟩ := (show ∃ ad, Au = some ad ∧ ad.block < W.heap.size ∧ WA.heap.size ≤ ad.block ∧ ad.block ≠ g ∧ some ad.block ≠ ow ∧ W.cell? (ad.add n') = some (.int .i64 f[n']) from by
          obtain ⟨A', c', e', _, _, h⟩ := hin
          injection e' with e1 _ _
          subst e1
          exact h n' _ (List.getElem?_eq_getElem hnf))
        subst hea
        obtain ⟨y, hy⟩ : ∃ y, f[n'] = y := ⟨_, rfl⟩
        rw [hy] at hcy
        have HY := Lib.hid (show f[n']? = some y from by rw [List.getElem?_eq_getElem hnf, hy])
        have HI := Lib.hid hI
        obtain ⟨v', h1, h2, rfl⟩ := hI.row
        have hb := hI.bel0
        have n1' : W.cell? ⟨w.heap.size + 1, 0, none⟩ = some (.int .i64 (n' : Int)) := (hb.cell (p := ⟨w.heap.size + 1, 0, none⟩) (by show w.heap.size + 1 < w3.heap.size; have := HN3.out.2; omega)).trans HN3.out.1.1
        have n2' : W.cell? ⟨w.heap.size + 1 + 1, 0, none⟩ = some (.int .i64 x) := (hb.cell (p := ⟨w.heap.size + 1 + 1, 0, none⟩) HN3.out.2).trans HN3.out.1.2
        have c1' := h1.cell
        have f1' := h1.frozen
        have c2' := hI.cnt.cell
        have f2' := hI.cnt.frozen
        clear hin hI hy hb
        obtain ⟨nf, hnfl⟩ : ∃ nf, f.length = nf := ⟨_, rfl⟩
        rw [hnfl] at hnf
        rw [hnfl]
        clear hfl hnfl
        obtain ⟨q, hq⟩ : ∃ q, (y == x) = q := ⟨_, rfl⟩
        have HQ := Lib.hid hq
        have HNn := Lib.hid (show (n' : Int) < (nf : Int) from by omega)
        have HPl := Lib.hid hpl
        gi_wp2_with fail
        refine wpIn_mono (Q := fun e a' w' => e = .normal ∧ a' = { tmps := #[.agg #[.slice A1 b.first.length c1, .slice A2 b.chs.length c2], .int .i64 (n' : Int), .int .i64 x, .pointer (some ⟨w.heap.size, 0, none⟩), .pointer (some ⟨w.heap.size + 1, 0, none⟩), .pointer (some ⟨w.heap.size + 1 + 1, 0, none⟩), .slice none 0 0, .int .i64 0, .pointer (some ⟨w1.heap.size, 0, none⟩), .int .i64 0, .pointer (some ⟨w3.heap.size, 0, none⟩), .pointer (some ⟨w3.heap.size + 1, 0, none⟩), .slice (some ad) nf cu, .tuple #[.agg #[.slice Av vl cv, .slice A2 b.chs.length c2], .int .i64 0], .agg #[.slice A1 b.first.length c1, .slice A2 b.chs.length c2], .int .i64 (n' : Int), .int .i64 x, .tuple #[.agg #[.slice Av vl cv, .slice A2 b.chs.length c2], .int .i64 0], .agg #[.slice Av vl cv, .slice A2 b.chs.length c2], .int .i64 0, .int .i64 0, .bool false, undef, .agg #[.slice Av vl cv, .slice A2 b.chs.length c2], .bool false, .agg #[.slice Av vl cv, .slice A2 b.chs.length c2], .func (.func 100) #[] #[.pointer (some ⟨w3.heap.size + 2, 0, none⟩)], .slice (some ad) nf cu, .slice (some ad) nf cu, .int .i64 (n' : Int), .pointer (some (ad.add n')), .int .i64 y, .int .i64 x, .bool q, undef, undef, undef, undef, undef, undef, undef], defers := [] } ∧ w' = W.drew) ?_ ?_
        · gi_region
          all_goals exact ⟨rfl, rfl, rfl⟩
        · rintro e a' w' ⟨rfl, rfl, rfl⟩
          simp only [Exit.then]
          have hgd : W.grownBy W.drew none := ⟨rfl, rfl, rfl, Nat.le_refl _, fun _ _ _ => rfl⟩
          have HId := Lib.hid (ThI.own g pre v'.ownBlock W W.drew none HI.out hgd (fun r e => by cases e))
          have HKd := Lib.hid (KA.of_below (B := WA.heap.size) (ow := v'.ownBlock) (W := W) (W' := W.drew) (Below.refl _ _).drew)
          have HSd := Lib.hid (show W.heap.size ≤ W.drew.heap.size from Nat.le_refl _)
          have h1d : Boxed W.drew w3.heap.size 22 v' := h1
          have h2d := h2.drew
          clear h1 h2 n1' n2' c1' f1' c2' f2' hcy hgd HI hr
          obtain ⟨Wd, hWd⟩ : ∃ X, W.drew = X := ⟨_, rfl⟩
          rw [hWd] at HId HKd HSd h1d h2d ⊢
          clear hWd
          have c1' := h1d.cell
          have f1' := h1d.frozen
          have c2' := HId.out.cnt.cell
          have f2' := HId.out.cnt.frozen
          obtain ⟨cnt, hcnt⟩ : ∃ cnt, pre.length = cnt := ⟨_, rfl⟩
          rw [hcnt] at c2'
          have HCn := Lib.hid hcnt
          have hpl' : cnt < 100000 := by omega
          clear hcnt
          have HTl := Lib.hid (thr_snoc n' x (pre.map (·.1)) f)
          have HTn := Lib.hid (thr_len n' x (pre.map (·.1)))
          obtain ⟨T, hT⟩ : ∃ T, thr n' x (pre.map (·.1)) = T := ⟨_, rfl⟩
          rw [hT] at HTl HTn h2d
          clear hT
          have hlow : ∀ k, k < w3.heap.size + 3 → some k ≠ v'.ownBlock := fun k hk e => by have := (h2d.lt k e.symm).1; omega
          have HLo := Lib.hid hlow
          have hsA' : WA.heap.size = w3.heap.size + 3 := HsA2.out
          have HsA3 := Lib.hid hsA'
          have hgNe : ∀ k, v'.ownBlock = some k → k ≠ g := HId.out.ng
          have HNg := Lib.hid hgNe
          have HgW := Lib.hid (show g < Wd.heap.size from by have := HSd.out; omega)
          clear hlow hsA' hgNe hglt
          cases q with
          | true =>
            have HT2 := Lib.hid (show thr n' x ((pre ++ [(f, Value.slice (some ad) nf cu)]).map (·.1)) = T ++ [(cnt : Int)] from by
              rw [List.map_append]
              have h := HTl.out
              have hyx : y = x := by simpa using HQ.out
              rw [HY.out, hyx, if_pos rfl, List.length_map, HCn.out] at h
              exact h)
            have HN := Lib.hid (cell_one_new Wd (.int .i64 (cnt : Int)) 3)
            have H2 := Lib.hid (h2d.alloc (.cells #[.int .i64 (cnt : Int)] 3))
            have HC := Lib.hid (show T.length + 1 ≤ maxLen ∧ (T.length + 1) * 8 ≤ 140737488355328 ∧ w3.heap.size + 3 ≤ (Wd.alloc (.cells #[.int .i64 (cnt : Int)] 3)).heap.size from by
              have := HTn.out
              rw [List.length_map, HCn.out] at this
              have := HId.out.cnt.lt
              have := (Array.getElem?_eq_some_iff.1 HId.out.hist).1
              exact ⟨by unfold maxLen; omega, by omega, by simp; omega⟩)
            have HBx := Lib.hid (show ∀ w4, (Wd.alloc (.cells #[.int .i64 (cnt : Int)] 3)).grownBy w4 v'.ownBlock → Boxed w4 w3.heap.size 22 v' ∧ Boxed w4 (w3.heap.size + 1) 3 (.int .i64 (cnt : Int)) from fun w4 hg =>
              ⟨(h1d.alloc _).kept hg (HLo.out _ (by omega)), (show Boxed Wd (w3.heap.size + 1) 3 (.int .i64 (cnt : Int)) from by rw [← HCn.out]; exact HId.out.cnt).alloc _ |>.kept hg (HLo.out _ (by omega))⟩)
            gi_wp2_with (gi_at_builtin; refine wpListIn_append_own_at _ rfl _ _ 22 rfl (w3.heap.size + 3) 3 i0 (.int .i64 0) 1 8 Try.underlying22 hi hz0 hz1 hz2 rfl (by decide) v' T.length (intsV T) rfl H2.out ⟨Wd.heap.size, 0, none⟩ 1 1 [.int .i64 (cnt : Int)] rfl rfl HN.out (by intro x hx; simp at hx; subst hx; rfl) HC.out.1 HC.out.2.1 HC.out.2.2 ?_; intro v3 w4 hown hg1 hnn hob; obtain ⟨g', cap', rfl⟩ := ownsRow_succ hown; obtain ⟨hv1, hv2⟩ := HBx.out w4 hg1; have c3 := hv1.cell; have f3 := hv1.frozen; have c4 := hv2.cell; have f4 := hv2.frozen)
            have hI := HId.out
            have hgro : Grows v'.ownBlock (Value.slice (some ⟨g', 0, none⟩) (T.length + 1) cap').ownBlock Wd := by
              rcases hob with e | e
              · exact .inl e
              · exact .inr ⟨_, e, by simp⟩
            have hs1 : Wd.heap.size + 1 ≤ w4.heap.size := by have := hg1.size; simpa using this
            have hbz := hI.bel0.size
            have hlt0 := hI.cnt.lt
            have hb4 : Below w3.heap.size w3 w4 := ((hI.bel0).alloc hbz _).grown hg1 (by simp; omega) (fun k e => by have := (h2d.lt k e).1; omega)
            have hx1 := hv1.set (.slice (some ⟨g', 0, none⟩) (T.length + 1) cap')
            have hx2 := hv2.kept (grownBy_setCell' w4 w3.heap.size (.slice (some ⟨g', 0, none⟩) (T.length + 1) cap')) (by intro e; injection e with e; omega)
            have ho1 := hown.kept (grownBy_setCell' w4 w3.heap.size (.slice (some ⟨g', 0, none⟩) (T.length + 1) cap')) (.inr (fun e => by have := (hown.lt _ e).1; omega))
            refine ⟨HKd.out.trans ((KA.alloc _ _ _ _).trans ((KA.grown hg1).trans ((KA.set _ _ _ (by have := HsA3.out; omega)).trans (KA.set _ _ _ (by have := HsA3.out; omega))))), (Value.slice (some ⟨g', 0, none⟩) (T.length + 1) cap').ownBlock, ⟨?_, ⟨_, hx1.kept (grownBy_setCell' _ _ _) (by intro e; injection e with e; omega), ?_, rfl⟩, ?_, ?_, ?_⟩, ?_⟩
            · exact (hb4.setCell (p := ⟨_, _, none⟩) (Nat.le_refl _) _).setCell (p := ⟨_, _, none⟩) (by show w3.heap.size ≤ w3.heap.size + 1; omega) _
            · rw [HT2.out, List.length_append, intsV_append]
              exact ho1.kept (grownBy_setCell' _ _ _) (.inr (fun e => by have := (ho1.lt _ e).1; omega))
            · rw [List.length_append, HCn.out]
              exact hx2.set _
            · have k1 : (Wd.alloc (.cells #[.int .i64 (cnt : Int)] 3)).heap[w3.heap.size + 2]? = some (.cells #[.slice Av vl cv, .slice A2 b.chs.length c2] 67) := (Below.heap_alloc _ _ _ (Array.getElem?_eq_some_iff.1 hI.hist).1).trans hI.hist
              have k2 := (hg1.block _ (Array.getElem?_eq_some_iff.1 k1).1 (HLo.out _ (by omega))).trans k1
              exact (Below.heap_setCell _ _ _ _ (by show w3.heap.size + 2 ≠ w3.heap.size + 1; omega)).trans ((Below.heap_setCell _ _ _ _ (by show w3.heap.size + 2 ≠ w3.heap.size; omega)).trans k2)
            · intro k e
              rcases hob with h | h
              · exact HNg.out k (h.symm.trans e)
              · rw [h] at e
                injection e with e
                have := HgW.out
                simp at e
                omega
            · rcases hgro with h | ⟨k, h, hk⟩
              · exact .inl h
              · exact .inr ⟨k, h, by have := HSd.out; omega⟩
          | false =>
            gi_wp2_with fail
            have hI := HId.out
            have hT2 : thr n' x ((pre ++ [(f, Value.slice (some ad) nf cu)]).map (·.1)) = T := by
              rw [List.map_append]
              have h := HTl.out
              have hyx : ¬ y = x := by have := HQ.out; simpa using this
              rw [HY.out, if_neg (fun e => hyx (by injection e)), List.append_nil] at h
              exact h
            have hx2 : Boxed Wd (w3.heap.size + 1) 3 (.int .i64 (cnt : Int)) := by rw [← HCn.out]; exact hI.cnt
            have hbz := hI.bel0
            refine ⟨HKd.out.trans (KA.set _ _ _ (by have := HsA3.out; omega)), v'.ownBlock, ⟨?_, ⟨v', h1d.kept (grownBy_setCell' _ _ _) (by intro e; injection e with e; omega), ?_, rfl⟩, ?_, ?_, ?_⟩, Grows.refl _ _⟩
            · exact hbz.setCell (p := ⟨_, _, none⟩) (by show w3.heap.size ≤ w3.heap.size + 1; omega) _
            · rw [hT2]
              exact h2d.kept (grownBy_setCell' _ _ _) (.inr (fun e => by have := (h2d.lt _ e).1; omega))
            · rw [List.length_append, HCn.out]
              exact hx2.set _
            · exact (Below.heap_setCell _ _ _ _ (by show w3.heap.size + 2 ≠ w3.heap.size + 1; omega)).trans hI.hist
            · exact HNg.out
      case done =>
        rintro D g xs ow W hD hgb hS hI hK
        obtain ⟨v', h1, h2, rfl⟩ := hI.row
        have c1 := h1.cell
        have hsl : InSl W W.heap.size v' (thr n' x (xs.map (·.1))) := (show OwN w3 v' (thr n' x (xs.map (·.1))) W from ⟨hI.bel0, own_low h2 (by omega)⟩).sl
        have hsl2 : InSl (W.putObj D (.deferred none)) (W.putObj D (.deferred none)).heap.size v' (thr n' x (xs.map (·.1))) := by
          have h3 := (show OwN w3 v' (thr n' x (xs.map (·.1))) (W.putObj D (.deferred none)) from ⟨hI.bel0.trans (belowK_b (w := w3) (Nat.le_refl _) W D _ _ (by have := HsA2.out; omega) hK rfl rfl), own_low (ownsRow_putObj h2 (.deferred none) hK rfl) (by omega)⟩)
          exact h3.sl
        rw [hS] at hsl hsl2
        obtain ⟨A, c, rfl, _⟩ := hsl.form
        have HSl := Lib.hid hsl2
        have HBz := Lib.hid (show Below w.heap.size w (W.putObj D (.deferred none)) from HB3.out.2.trans ((hI.bel0.trans (belowK_b (w := w3) (Nat.le_refl _) W D _ _ (by have := HsA2.out; omega) hK rfl rfl)).mono HB3.out.2.size))
        clear hsl hsl2 hI h2
        gi_wp2_with fail
        refine ⟨by simp, .inl ⟨_, _, rfl, run_takeDeferred hK, ?_⟩⟩
        exact ⟨_, results_tmp2 rfl _ _ _, OutN.mk (by have e := HT.out; subst e; exact HSl.out) HBz.out⟩
  · rw [if_neg he] at HM
    have hM := HM.out
    injection hM with hM1 hM2
    subst hM1; subst hM2
    clear HM
    obtain rfl := hu1 he
    have HB2 := Lib.hid (HB.out.trans ((below_new (w := w1) (.cells #[.slice none 0 0, .slice none 0 0] 67)).mono HB.out.size))
    unfold nilH at *
    clear hu0 hu1 HZ
    gi_wp2_with fail
    exact ⟨_, results_tmp2 rfl _ _ _, OutN.nil HB2.out⟩
theorem Through_any (v vc : Value) (b : Bk) (n x : Int) (w : World) (hv : BkV w v b vc) (hs : Sm b) (hM : Val b → rich b = false → (fatesF b (b.chs.length + 1) []).length ≤ 100000) :
    Calls Try.prog 33 #[v, .int .i64 n, .int .i64 x] w (OutN (throughOut b n x).1 (throughOut b n x).2 w) := (callsIn_wide (n := 4)).1 (through_in 4 (Nat.le_refl _) v vc b n x w hv hs hM)
end Go.Proofs.Ytplpogonkfnafaa
