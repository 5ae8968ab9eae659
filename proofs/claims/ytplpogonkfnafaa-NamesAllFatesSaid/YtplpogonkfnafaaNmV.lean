/- Chain. -/
import Derived.Test.YtplpogonkfnafaaNmU
namespace Go.Proofs.Ytplpogonkfnafaa
open Go.RowKit Go.Nm

theorem arr45 {t : Array Value} (h : t.size = 45) : ∃ f : Nat → Value, t = #[f 0, f 1, f 2, f 3, f 4, f 5, f 6, f 7, f 8, f 9, f 10, f 11, f 12, f 13, f 14, f 15, f 16, f 17, f 18, f 19, f 20, f 21, f 22, f 23, f 24, f 25, f 26, f 27, f 28, f 29, f 30, f 31, f 32, f 33, f 34, f 35, f 36, f 37, f 38, f 39, f 40, f 41, f 42, f 43, f 44] := by
  refine ⟨fun k => t.getD k undef, ?_⟩
  apply Array.ext
  · simpa using h
  · intro i h1 h2
    have : i < 45 := by omega
    have hi : i = 0 ∨ i = 1 ∨ i = 2 ∨ i = 3 ∨ i = 4 ∨ i = 5 ∨ i = 6 ∨ i = 7 ∨ i = 8 ∨ i = 9 ∨ i = 10 ∨ i = 11 ∨ i = 12 ∨ i = 13 ∨ i = 14 ∨ i = 15 ∨ i = 16 ∨ i = 17 ∨ i = 18 ∨ i = 19 ∨ i = 20 ∨ i = 21 ∨ i = 22 ∨ i = 23 ∨ i = 24 ∨ i = 25 ∨ i = 26 ∨ i = 27 ∨ i = 28 ∨ i = 29 ∨ i = 30 ∨ i = 31 ∨ i = 32 ∨ i = 33 ∨ i = 34 ∨ i = 35 ∨ i = 36 ∨ i = 37 ∨ i = 38 ∨ i = 39 ∨ i = 40 ∨ i = 41 ∨ i = 42 ∨ i = 43 ∨ i = 44 := by omega
    rcases hi with rfl | rfl | rfl | rfl | rfl | rfl | rfl | rfl | rfl | rfl | rfl | rfl | rfl | rfl | rfl | rfl | rfl | rfl | rfl | rfl | rfl | rfl | rfl | rfl | rfl | rfl | rfl | rfl | rfl | rfl | rfl | rfl | rfl | rfl | rfl | rfl | rfl | rfl | rfl | rfl | rfl | rfl | rfl | rfl | rfl <;> simp [Array.getD, h1]
/-- while a change is looked at: what holds, by which operations are done -/
structure ChG (W : World) (n x i len : Int) (gh gx : Nat) (vc o hv vf : Value) (F : List Int) (q : Bool) (f0 : Nat → Value) (dn : Nat → Bool) (a : Act) (X : World) : Prop where
  sz : a.tmps.size = 45
  t0 : a.tmps.getD 0 undef = f0 0
  t1 : a.tmps.getD 1 undef = .int .i64 n
  t2 : a.tmps.getD 2 undef = .int .i64 x
  t3 : a.tmps.getD 3 undef = f0 3
  t4 : a.tmps.getD 4 undef = f0 4
  t5 : a.tmps.getD 5 undef = f0 5
  t6 : a.tmps.getD 6 undef = .slice none 0 0
  t7 : a.tmps.getD 7 undef = .int .i64 0
  t8 : a.tmps.getD 8 undef = .pointer (some ⟨gh, 0, none⟩)
  t9 : a.tmps.getD 9 undef = f0 9
  t10 : a.tmps.getD 10 undef = o
  t11 : a.tmps.getD 11 undef = .int .i64 i
  t12 : a.tmps.getD 12 undef = .pointer (some ⟨gx, 0, none⟩)
  t13 : a.tmps.getD 13 undef = f0 13
  t14 : a.tmps.getD 14 undef = f0 14
  t15 : a.tmps.getD 15 undef = f0 15
  t16 : a.tmps.getD 16 undef = f0 16
  t17 : a.tmps.getD 17 undef = f0 17
  t18 : a.tmps.getD 18 undef = f0 18
  t19 : a.tmps.getD 19 undef = f0 19
  t20 : a.tmps.getD 20 undef = f0 20
  t21 : a.tmps.getD 21 undef = f0 21
  t22 : a.tmps.getD 22 undef = f0 22
  t23 : a.tmps.getD 23 undef = f0 23
  t24 : a.tmps.getD 24 undef = vc
  t25 : a.tmps.getD 25 undef = .int .i64 len
  t26 : a.tmps.getD 26 undef = .int .i64 i
  t44 : a.tmps.getD 44 undef = undef
  ds : a.defers = []
  bel : Below W.heap.size W X
  e0 : dn 0 = true → a.tmps.getD 31 undef = .pointer (some ⟨gx, 1, none⟩)
  e1 : dn 1 = true → a.tmps.getD 32 undef = vf
  e2 : dn 2 = true → a.tmps.getD 33 undef = hv
  e3 : dn 3 = true → a.tmps.getD 34 undef = .int .i64 n
  e4 : dn 4 = true → a.tmps.getD 35 undef = .int .i64 x
  e5 : dn 5 = true → a.tmps.getD 36 undef = .int .i64 i
  e6 : dn 6 = true → InSl X X.heap.size (a.tmps.getD 37 undef) F
  e7 : dn 7 = true → a.tmps.getD 38 undef = .bool q
  o6 : dn 6 = true → dn 2 = true ∧ dn 3 = true ∧ dn 4 = true ∧ dn 5 = true
  o7 : dn 7 = true → dn 1 = true ∧ dn 6 = true
theorem ChG.all {W : World} {n x i len : Int} {gh gx : Nat} {vc o hv vf : Value} {F : List Int} {q : Bool} {f0 : Nat → Value} {dn : Nat → Bool} {a : Act} {X : World} (h : ChG W n x i len gh gx vc o hv vf F q f0 dn a X) (hd : ∀ j, j < 8 → dn j = true) : ChG W n x i len gh gx vc o hv vf F q f0 (fun _ => true) a X :=
  ⟨h.sz, h.t0, h.t1, h.t2, h.t3, h.t4, h.t5, h.t6, h.t7, h.t8, h.t9, h.t10, h.t11, h.t12, h.t13, h.t14, h.t15, h.t16, h.t17, h.t18, h.t19, h.t20, h.t21, h.t22, h.t23, h.t24, h.t25, h.t26, h.t44, h.ds, h.bel, fun _ => h.e0 (hd 0 (by omega)), fun _ => h.e1 (hd 1 (by omega)), fun _ => h.e2 (hd 2 (by omega)), fun _ => h.e3 (hd 3 (by omega)), fun _ => h.e4 (hd 4 (by omega)), fun _ => h.e5 (hd 5 (by omega)), fun _ => h.e6 (hd 6 (by omega)), fun _ => h.e7 (hd 7 (by omega)), fun _ => ⟨rfl, rfl, rfl, rfl⟩, fun _ => ⟨rfl, rfl⟩⟩
/-- the changes that touch a name, among the first -/
def chainT (chs : List Ch) (n : Nat) (x : Int) (k : Nat) : List Int := ((List.range k).filter fun i => match chs[i]? with | some c => (mns chs n [x] i).any fun z => decide (z ∈ c.fr) | none => false).map fun i : Nat => (i : Int)
def chainOut (b : Bk) (n x : Int) : List Int × Int := if openAtE b [] n x = 0 then (chainT b.chs n.toNat x b.chs.length, 0) else ([], openAtE b [] n x)
theorem chainT_next {chs : List Ch} {n k : Nat} {x : Int} {c : Ch} (h : chs[k]? = some c) : chainT chs n x (k + 1) = chainT chs n x k ++ (if (mns chs n [x] k).any (fun z => decide (z ∈ c.fr)) then [(k : Int)] else []) := by
  unfold chainT
  rw [List.range_succ, List.filter_append, List.map_append]
  congr 1
  rw [List.filter_cons, List.filter_nil, h]
  cases hq : (mns chs n [x] k).any (fun z => decide (z ∈ c.fr)) <;> simp [hq]
theorem meas_next {len k : Nat} (h : k < len) (hl : len ≤ 1000) : len - (wrap64 ((k : Int) + 1)).toNat < len - k := by
  have e1 : wrap64 ((k : Int) + 1) = (k : Int) + 1 := by unfold wrap64; omega
  rw [e1]; omega
theorem chainT_len (chs : List Ch) (n : Nat) (x : Int) (k : Nat) : (chainT chs n x k).length ≤ k := by
  unfold chainT
  rw [List.length_map]
  exact Nat.le_trans (List.length_filter_le _ _) (by simp)
set_option maxRecDepth 100000 in
set_option maxHeartbeats 16000000 in
theorem Chain_any (v vc : Value) (b : Bk) (n x : Int) (w : World) (hv : BkV w v b vc) (hs : Sm b) :
    Calls Try.prog 46 #[v, .int .i64 n, .int .i64 x] w (OutN (chainOut b n x).1 (chainOut b n x).2 w) := by
  have hv0 := hv
  obtain ⟨v1, rfl, h1, h2⟩ := hv
  obtain ⟨A1, c1, rfl, _⟩ := h1.form
  obtain ⟨A2, c2, rfl⟩ := h2.form
  have hb0 := below_new (w := w) (.cells #[.slice A1 b.first.length c1, .slice A2 b.chs.length c2] 25)
  have HO := Lib.hid (openAt_any w _ _ _ (.slice none 0 0) n x [] b hv0 hs hb0 (World.ownsRow_nil _ _ _ _) (by simp))
  have HM := Lib.hid (show chainOut b n x = if openAtE b [] n x = 0 then (chainT b.chs n.toNat x b.chs.length, 0) else ([], openAtE b [] n x) from rfl)
  have HZ := Lib.hid (openAtE_zero (b := b) (V := []) (n := n) (x := x))
  have HS := Lib.hid hs
  clear hv0 h1 h2 hb0 hs
  generalize chainOut b n x = o at *
  generalize openAtE b [] n x = er at *
  obtain ⟨oR, oE⟩ := o
  dsimp only
  go_enter Try.func46, Try.ntmps46
  go_wp2_with fail
  (with_reducible refine HO.out.mono ?_)
  rintro e w1 ⟨u, rfl, hu0, hu1, hb⟩
  have HB := Lib.hid hb
  clear hb
  by_cases he : er = 0
  · subst he
    obtain ⟨hval, hV, hx⟩ := HZ.out rfl
    obtain ⟨n0, n1⟩ := hV n (by simp)
    obtain ⟨n', rfl⟩ : ∃ k : Nat, n = (k : Int) := ⟨n.toNat, by omega⟩
    rw [if_pos rfl] at HM
    have hM := HM.out
    injection hM with hM1 hM2
    subst hM2
    have hH := hu0 rfl
    obtain ⟨Av, cv, rfl⟩ := hH.form
    have hb2 := below_new (w := w1) (.cells #[.slice Av (vers b).length cv, .slice A2 b.chs.length c2] 67)
    have HH := Lib.hid (hH.step hb2)
    have HW := Lib.hid (And.intro (HB.out.trans (hb2.mono HB.out.size)) (World.alloc_heap_new w1 (.cells #[.slice Av (vers b).length cv, .slice A2 b.chs.length c2] 67)))
    have HVal := Lib.hid hval
    have HMl := Lib.hid hM1
    have HNx := Lib.hid (And.intro n1 hx)
    obtain ⟨k0, k1⟩ := cells_two HW.out.2
    clear hH hb2 hu0 hu1 hV hx hval n0 n1 HZ hM1 HM
    generalize hlen : b.chs.length = len at *
    have HLen := Lib.hid hlen
    clear hlen
    go_wp2_with fail
    obtain ⟨W, hW⟩ : ∃ W, w1.alloc (.cells #[.slice Av (vers b).length cv, .slice A2 len c2] 67) = W := ⟨_, rfl⟩
    rw [hW] at HH HW k0 k1 ⊢
    have hgh : w1.heap.size < W.heap.size := by rw [← hW]; simp
    clear hW
    go_loopw [10, 26] (fun ov iv wr => ∃ (k : Nat), iv = .int .i64 (k : Int) ∧ k ≤ len ∧ OwN W ov (chainT b.chs n' x k) wr) (fun _ iv _ => len - (intOf iv).toNat)
    case atStart => exact ⟨0, rfl, by omega, by simpa [chainT] using OwN.start W⟩
    case round =>
      obtain ⟨k, rfl, hkl, hO⟩ := hrel
      have HO1 := Lib.hid hO
      clear hO
      by_cases hlt : k < len
      · obtain ⟨c, ad, vf, vt, hc, rfl, hbd, d0, d1, d2, hf, ht⟩ := ((show ChSl W W.heap.size (.slice A2 len c2) b.chs from by obtain ⟨_, _, _, h⟩ := HH.out; exact h).step HO1.out.bel).at_ hlt
        obtain ⟨Af, cf, rfl, _⟩ := hf.form
        obtain ⟨At, ct, rfl, _⟩ := ht.form
        have HX := Lib.hid (chainT_next (n := n') (x := x) hc)
        have HSx := Lib.hid (HS.out.2.2 c (List.mem_of_getElem? hc))
        have HIc := Lib.hid (show Inc c.fr from by obtain ⟨_, _, _, _, g3⟩ := step_data HVal.out hc; exact g3.ifr)
        have HFr := Lib.hid hf
        obtain ⟨q, hq⟩ : ∃ q, (mns b.chs n' [x] k).any (fun z => decide (z ∈ c.fr)) = q := ⟨_, rfl⟩
        have HLm := Lib.hid (show (mns b.chs n' [x] k).length ≤ 400 from by
          obtain ⟨V, hV, _⟩ := vers_at HVal.out (k := n') (by have := HNx.out.1; have := HLen.out; omega)
          have hxV : x ∈ V := by have := HNx.out.2; rw [Int.toNat_natCast, List.getD_eq_getElem?_getD, hV] at this; exact this
          obtain ⟨B, hB, h3, h4⟩ := mns_ok HVal.out hV (l := [x]) (by simp [Inc]) (by simp; exact hxV) (by have := HNx.out.1; have := HLen.out; omega) (w := k) (by have := HLen.out; omega)
          exact Nat.le_trans (inc_sub_len h3 h4) (vers_ok B (List.mem_of_getElem? hB)).2)
        have HMe := Lib.hid (fun Y (hb : Below (wr.alloc (.cells #[.int .i64 c.yr, .slice Af c.fr.length cf, .slice At c.to.length ct] 52)).heap.size (wr.alloc (.cells #[.int .i64 c.yr, .slice Af c.fr.length cf, .slice At c.to.length ct] 52)) Y) =>
          meaning_any _ _ b x n' k Y (((HH.out.step HO1.out.bel).step (below_new _)).step hb) HS.out HVal.out.1 (by have := HNx.out.1; have := HLen.out; omega) (by have := HLen.out; omega))
        have HHs := Lib.hid (fun Y vv (hb : Below (wr.alloc (.cells #[.int .i64 c.yr, .slice Af c.fr.length cf, .slice At c.to.length ct] 52)).heap.size (wr.alloc (.cells #[.int .i64 c.yr, .slice Af c.fr.length cf, .slice At c.to.length ct] 52)) Y) (hv : InSl Y Y.heap.size vv (mns b.chs n' [x] k)) =>
          (show Calls Try.prog 86 #[.slice Af c.fr.length cf, vv] Y fun e w' => e = .returned (.bool q) ∧ Y = w' from by
            rw [← hq]; exact hasSome_any _ vv c.fr _ Y ((HFr.out.step (below_new _)).step hb) hv HIc.out (by have := HLm.out; omega) (by have := HSx.out; omega)))
        have HQ := Lib.hid hq
        have HN8 := Lib.hid (World.alloc_heap_new wr (.cells #[.int .i64 c.yr, .slice Af c.fr.length cf, .slice At c.to.length ct] 52))
        have HB8 := Lib.hid (below_new (w := wr) (.cells #[.int .i64 c.yr, .slice Af c.fr.length cf, .slice At c.to.length ct] 52))
        have hgw : w1.heap.size < wr.heap.size := Nat.lt_of_lt_of_le hgh HO1.out.bound
        have HK := Lib.hid (show wr.cell? ⟨w1.heap.size, 0, none⟩ = some (.slice Av (vers b).length cv) ∧ wr.cell? ⟨w1.heap.size, 1, none⟩ = some (.slice (some ad) len c2) from
          ⟨(HO1.out.bel.cell (p := ⟨w1.heap.size, 0, none⟩) hgh).trans k0, (HO1.out.bel.cell (p := ⟨w1.heap.size, 1, none⟩) hgh).trans k1⟩)
        clear hf ht hc hq hbd
        generalize mns b.chs n' [x] k = F at *
        go_wp2_with fail
        obtain ⟨W8, hW8⟩ : ∃ W8, wr.alloc (.cells #[.int .i64 c.yr, .slice Af c.fr.length cf, .slice At c.to.length ct] 52) = W8 := ⟨_, rfl⟩
        rw [hW8] at HB8 HN8 HMe HHs ⊢
        clear hW8
        obtain ⟨x0, x1, x2⟩ := cells_three HN8.out
        have HG := Lib.hid (show (W8.cell? ⟨w1.heap.size, 0, none⟩ = some (.slice Av (vers b).length cv) ∧ W8.cell? ⟨w1.heap.size, 1, none⟩ = some (.slice (some ad) len c2)) ∧ W8.cell? ⟨wr.heap.size, 1, none⟩ = some (.slice Af c.fr.length cf) ∧ wr.heap.size < W8.heap.size ∧ w1.heap.size < W8.heap.size from
          ⟨⟨(HB8.out.cell (p := ⟨w1.heap.size, 0, none⟩) hgw).trans HK.out.1, (HB8.out.cell (p := ⟨w1.heap.size, 1, none⟩) hgw).trans HK.out.2⟩, x1, (Array.getElem?_eq_some_iff.1 HN8.out).1, Nat.lt_of_lt_of_le hgw HB8.out.size⟩)
        clear x0 x1 x2 d0 d1 d2
        refine wp_mono (Q := onlyN (fun a' Y => ChG W8 (n' : Int) x (k : Int) (len : Int) w1.heap.size wr.heap.size (.slice (some ad) len c2) u10 (.agg #[.slice Av (vers b).length cv, .slice (some ad) len c2]) (.slice Af c.fr.length cf) F q (fun k => (#[.agg #[.slice A1 b.first.length c1, .slice (some ad) len c2], undef, undef, .pointer (some ⟨w.heap.size, 0, none⟩), undef, undef, undef, undef, undef, .int .i64 0, undef, undef, undef, .tuple #[.agg #[.slice Av (vers b).length cv, .slice (some ad) len c2], .int .i64 0], .agg #[.slice A1 b.first.length c1, .slice (some ad) len c2], .int .i64 (n' : Int), .int .i64 x, .tuple #[.agg #[.slice Av (vers b).length cv, .slice (some ad) len c2], .int .i64 0], .agg #[.slice Av (vers b).length cv, .slice (some ad) len c2], .int .i64 0, .int .i64 0, .bool false, undef, .pointer (some ⟨w1.heap.size, 1, none⟩)] : Array Value).getD k undef) (fun _ => true) a' Y)) ?_ ?_
        · refine wp_region_done (ChG W8 (n' : Int) x (k : Int) (len : Int) w1.heap.size wr.heap.size (.slice (some ad) len c2) u10 (.agg #[.slice Av (vers b).length cv, .slice (some ad) len c2]) (.slice Af c.fr.length cf) F q (fun k => (#[.agg #[.slice A1 b.first.length c1, .slice (some ad) len c2], undef, undef, .pointer (some ⟨w.heap.size, 0, none⟩), undef, undef, undef, undef, undef, .int .i64 0, undef, undef, undef, .tuple #[.agg #[.slice Av (vers b).length cv, .slice (some ad) len c2], .int .i64 0], .agg #[.slice A1 b.first.length c1, .slice (some ad) len c2], .int .i64 (n' : Int), .int .i64 x, .tuple #[.agg #[.slice Av (vers b).length cv, .slice (some ad) len c2], .int .i64 0], .agg #[.slice Av (vers b).length cv, .slice (some ad) len c2], .int .i64 0, .int .i64 0, .bool false, undef, .pointer (some ⟨w1.heap.size, 1, none⟩)] : Array Value).getD k undef)) (by kernel_rfl) (by kernel_rfl) ?_ ?_ ?_
          · exact ⟨rfl, rfl, rfl, rfl, rfl, rfl, rfl, rfl, rfl, rfl, rfl, rfl, rfl, rfl, rfl, rfl, rfl, rfl, rfl, rfl, rfl, rfl, rfl, rfl, rfl, rfl, rfl, rfl, rfl, rfl, (Below.refl _ _).drew, (fun h => nomatch h), (fun h => nomatch h), (fun h => nomatch h), (fun h => nomatch h), (fun h => nomatch h), (fun h => nomatch h), (fun h => nomatch h), (fun h => nomatch h), (fun h => nomatch h), (fun h => nomatch h)⟩
          · intro dn j o hi hd hD a Y hG
            obtain ⟨tm, ds⟩ := a
            obtain ⟨hsz, t0, t1, t2, t3, t4, t5, t6, t7, t8, t9, t10, t11, t12, t13, t14, t15, t16, t17, t18, t19, t20, t21, t22, t23, t24, t25, t26, t44, hds, bel, e0, e1, e2, e3, e4, e5, e6, e7, o6, o7⟩ := hG
            obtain ⟨fn, rfl⟩ := arr45 hsz
            have hj8 : j < 8 := by
              have := (Array.getElem?_eq_some_iff.1 hi).1
              simpa using this
            simp [Array.getD] at t0 t1 t2 t3 t4 t5 t6 t7 t8 t9 t10 t11 t12 t13 t14 t15 t16 t17 t18 t19 t20 t21 t22 t23 t24 t25 t26 t44
            rcases (show j = 0 ∨ j = 1 ∨ j = 2 ∨ j = 3 ∨ j = 4 ∨ j = 5 ∨ j = 6 ∨ j = 7 by omega) with rfl | rfl | rfl | rfl | rfl | rfl | rfl | rfl
            · obtain rfl := Option.some.inj hi
              refine wpOp_bare hi rfl ?_
              go_simp
              exact ⟨rfl, rfl, rfl, rfl, rfl, rfl, rfl, rfl, rfl, rfl, rfl, rfl, rfl, rfl, rfl, rfl, rfl, rfl, rfl, rfl, rfl, rfl, rfl, rfl, rfl, rfl, rfl, rfl, rfl, hds, bel, (fun _ => rfl), e1, e2, e3, e4, e5, e6, e7, o6, o7⟩
            · obtain rfl := Option.some.inj hi
              have d0 := e0 (hD ⟨0, .data⟩ (by simp) rfl)
              simp [Array.getD] at d0
              have cx := (bel.cell (p := ⟨wr.heap.size, 1, none⟩) HG.out.2.2.1).trans HG.out.2.1
              refine wpOp_bare hi rfl ?_
              go_simp
              exact ⟨rfl, rfl, rfl, rfl, rfl, rfl, rfl, rfl, rfl, rfl, rfl, rfl, rfl, rfl, rfl, rfl, rfl, rfl, rfl, rfl, rfl, rfl, rfl, rfl, rfl, rfl, rfl, rfl, rfl, hds, bel, (fun _ => rfl), (fun _ => rfl), e2, e3, e4, e5, e6, e7, o6, (fun h => ⟨rfl, (o7 h).2⟩)⟩
            · obtain rfl := Option.some.inj hi
              have c0 := (bel.cell (p := ⟨w1.heap.size, 0, none⟩) HG.out.2.2.2).trans HG.out.1.1
              have c1 := (bel.cell (p := ⟨w1.heap.size, 1, none⟩) HG.out.2.2.2).trans HG.out.1.2
              refine wpOp_bare hi rfl ?_
              go_simp
              exact ⟨rfl, rfl, rfl, rfl, rfl, rfl, rfl, rfl, rfl, rfl, rfl, rfl, rfl, rfl, rfl, rfl, rfl, rfl, rfl, rfl, rfl, rfl, rfl, rfl, rfl, rfl, rfl, rfl, rfl, hds, bel, e0, e1, (fun _ => rfl), e3, e4, e5, e6, e7, (fun h => ⟨rfl, (o6 h).2⟩), o7⟩
            · obtain rfl := Option.some.inj hi
              refine wpOp_bare hi rfl ?_
              go_simp
              exact ⟨rfl, rfl, rfl, rfl, rfl, rfl, rfl, rfl, rfl, rfl, rfl, rfl, rfl, rfl, rfl, rfl, rfl, rfl, rfl, rfl, rfl, rfl, rfl, rfl, rfl, rfl, rfl, rfl, rfl, hds, bel, e0, e1, e2, (fun _ => rfl), e4, e5, e6, e7, (fun h => ⟨(o6 h).1, rfl, (o6 h).2.2⟩), o7⟩
            · obtain rfl := Option.some.inj hi
              refine wpOp_bare hi rfl ?_
              go_simp
              exact ⟨rfl, rfl, rfl, rfl, rfl, rfl, rfl, rfl, rfl, rfl, rfl, rfl, rfl, rfl, rfl, rfl, rfl, rfl, rfl, rfl, rfl, rfl, rfl, rfl, rfl, rfl, rfl, rfl, rfl, hds, bel, e0, e1, e2, e3, (fun _ => rfl), e5, e6, e7, (fun h => ⟨(o6 h).1, (o6 h).2.1, rfl, (o6 h).2.2.2⟩), o7⟩
            · obtain rfl := Option.some.inj hi
              refine wpOp_bare hi rfl ?_
              go_simp
              exact ⟨rfl, rfl, rfl, rfl, rfl, rfl, rfl, rfl, rfl, rfl, rfl, rfl, rfl, rfl, rfl, rfl, rfl, rfl, rfl, rfl, rfl, rfl, rfl, rfl, rfl, rfl, rfl, rfl, rfl, hds, bel, e0, e1, e2, e3, e4, (fun _ => rfl), e6, e7, (fun h => ⟨(o6 h).1, (o6 h).2.1, (o6 h).2.2.1, rfl⟩), o7⟩
            · obtain rfl := Option.some.inj hi
              have y2 := hD ⟨2, .data⟩ (by simp) rfl
              have y3 := hD ⟨3, .data⟩ (by simp) rfl
              have y4 := hD ⟨4, .data⟩ (by simp) rfl
              have y5 := hD ⟨5, .data⟩ (by simp) rfl
              have d2 := e2 y2
              have d3 := e3 y3
              have d4 := e4 y4
              have d5 := e5 y5
              simp [Array.getD] at d2 d3 d4 d5
              have HC := Lib.hid (HMe.out Y bel)
              refine wpOp_bare hi rfl ?_
              go_simp
              (with_reducible refine HC.out.mono ?_)
              rintro e Y' ⟨⟨r, rfl, hr⟩, HB⟩
              exact ⟨rfl, rfl, rfl, rfl, rfl, rfl, rfl, rfl, rfl, rfl, rfl, rfl, rfl, rfl, rfl, rfl, rfl, rfl, rfl, rfl, rfl, rfl, rfl, rfl, rfl, rfl, rfl, rfl, rfl, hds, bel.trans (HB.mono bel.size), e0, e1, (fun _ => rfl), (fun _ => rfl), (fun _ => rfl), (fun _ => rfl), (fun _ => hr), (fun h => absurd (hd.symm.trans (o7 h).2) (by decide)), (fun _ => ⟨y2, y3, y4, y5⟩), (fun h => ⟨(o7 h).1, rfl⟩)⟩
            · obtain rfl := Option.some.inj hi
              have y1 := hD ⟨1, .data⟩ (by simp) rfl
              have y6 := hD ⟨6, .data⟩ (by simp) rfl
              have d1 := e1 y1
              simp [Array.getD] at d1
              obtain ⟨vv, ev⟩ : ∃ vv, fn 37 = vv := ⟨_, rfl⟩
              have h6 : InSl Y Y.heap.size vv F := by rw [← ev]; exact e6 y6
              have HC := Lib.hid (HHs.out Y vv bel h6)
              have H6 := Lib.hid h6
              clear h6
              refine wpOp_bare hi rfl ?_
              go_simp
              (with_reducible refine HC.out.mono ?_)
              rintro e Y' ⟨rfl, rfl⟩
              exact ⟨rfl, rfl, rfl, rfl, rfl, rfl, rfl, rfl, rfl, rfl, rfl, rfl, rfl, rfl, rfl, rfl, rfl, rfl, rfl, rfl, rfl, rfl, rfl, rfl, rfl, rfl, rfl, rfl, rfl, hds, bel, e0, (fun _ => rfl), e2, e3, e4, e5, (fun _ => H6.out), (fun _ => rfl), o6, (fun _ => ⟨y1, y6⟩)⟩
          · intro dn a Y hdn hG
            exact hG.all fun j hj => hdn j (by simpa using hj)
        · rintro e ⟨tm, ds⟩ Y h
          cases e with
          | normal =>
            obtain ⟨hsz, t0, t1, t2, t3, t4, t5, t6, t7, t8, t9, t10, t11, t12, t13, t14, t15, t16, t17, t18, t19, t20, t21, t22, t23, t24, t25, t26, t44, hds, bel, e0, e1, e2, e3, e4, e5, e6, e7, o6, o7⟩ := h
            obtain ⟨fn, rfl⟩ := arr45 hsz
            have d7' : fn 38 = .bool q := e7 rfl
            have hds' : ds = [] := hds
            subst hds'
            have HO2 := Lib.hid (HO1.out.step (HB8.out.trans (bel.mono HB8.out.size)))
            have t0' : fn 0 = .agg #[.slice A1 b.first.length c1, .slice (some ad) len c2] := t0
            have t1' : fn 1 = .int .i64 (n' : Int) := t1
            have t2' : fn 2 = .int .i64 x := t2
            have t3' : fn 3 = .pointer (some ⟨w.heap.size, 0, none⟩) := t3
            have t4' : fn 4 = undef := t4
            have t5' : fn 5 = undef := t5
            have t6' : fn 6 = .slice none 0 0 := t6
            have t7' : fn 7 = .int .i64 0 := t7
            have t8' : fn 8 = .pointer (some ⟨w1.heap.size, 0, none⟩) := t8
            have t9' : fn 9 = .int .i64 0 := t9
            have t10' : fn 10 = u10 := t10
            have t11' : fn 11 = .int .i64 (k : Int) := t11
            have t12' : fn 12 = .pointer (some ⟨wr.heap.size, 0, none⟩) := t12
            have t13' : fn 13 = .tuple #[.agg #[.slice Av (vers b).length cv, .slice (some ad) len c2], .int .i64 0] := t13
            have t14' : fn 14 = .agg #[.slice A1 b.first.length c1, .slice (some ad) len c2] := t14
            have t15' : fn 15 = .int .i64 (n' : Int) := t15
            have t16' : fn 16 = .int .i64 x := t16
            have t17' : fn 17 = .tuple #[.agg #[.slice Av (vers b).length cv, .slice (some ad) len c2], .int .i64 0] := t17
            have t18' : fn 18 = .agg #[.slice Av (vers b).length cv, .slice (some ad) len c2] := t18
            have t19' : fn 19 = .int .i64 0 := t19
            have t20' : fn 20 = .int .i64 0 := t20
            have t21' : fn 21 = .bool false := t21
            have t22' : fn 22 = undef := t22
            have t23' : fn 23 = .pointer (some ⟨w1.heap.size, 1, none⟩) := t23
            have t24' : fn 24 = .slice (some ad) len c2 := t24
            have t25' : fn 25 = .int .i64 (len : Int) := t25
            have t26' : fn 26 = .int .i64 (k : Int) := t26
            have t44' : fn 44 = undef := t44
            rw [t44', d7', t0', t1', t2', t3', t4', t5', t6', t7', t8', t9', t10', t11', t12', t13', t14', t15', t16', t17', t18', t19', t20', t21', t22', t23', t24', t25', t26']
            clear t44' t44 d7' t0' t0 t1' t1 t2' t2 t3' t3 t4' t4 t5' t5 t6' t6 t7' t7 t8' t8 t9' t9 t10' t10 t11' t11 t12' t12 t13' t13 t14' t14 t15' t15 t16' t16 t17' t17 t18' t18 t19' t19 t20' t20 t21' t21 t22' t22 t23' t23 t24' t24 t25' t25 t26' t26 hds e0 e1 e2 e3 e4 e5 e6 e7 o6 o7 bel hsz HO1 HB8 HN8 HMe HHs HG HK HFr HSx HIc HLm HB
            simp only [Exit.then]
            have hkS : len ≤ 1000 := by have := HLen.out; have := HS.out.2.1; omega
            cases q with
            | false =>
              have HE := Lib.hid (show chainT b.chs n' x (k + 1) = chainT b.chs n' x k from by rw [HX.out, HQ.out]; simp)
              clear HX HQ
              go_wp2_with fail
              go_roundw
              case rel => exact ⟨k + 1, by go_num, by omega, by rw [HE.out]; exact HO2.out⟩
              case measure => simp [intOf]; omega
            | true =>
              have HE := Lib.hid (show chainT b.chs n' x (k + 1) = chainT b.chs n' x k ++ [(k : Int)] from by rw [HX.out, HQ.out]; simp)
              clear HX HQ
              have HLn := Lib.hid (chainT_len b.chs n' x k)
              obtain ⟨pre, hpre⟩ : ∃ pre, chainT b.chs n' x k = pre := ⟨_, rfl⟩
              rw [hpre] at HO2 HE HLn
              clear hpre
              have hpl := HLn.out
              obtain ⟨i0, hi0, hz0, hz1, hz2⟩ := infoI
              have HZ := Lib.hid (show i0.size = 1 ∧ i0.bytes = 8 ∧ Try.prog.info? 3 = some i0 ∧ i0.zero = some (.int .i64 0) from ⟨hz1, hz2, hi0, hz0⟩)
              clear hz0 hz1 hz2 hi0
              have HO3 := Lib.hid ((HO2.out.own).alloc (.cells #[.int .i64 (k : Int)] 3))
              have HNw := Lib.hid (cell_one_new Y (.int .i64 (k : Int)) 3)
              have HBs := Lib.hid (show W.heap.size ≤ (Y.alloc (.cells #[.int .i64 (k : Int)] 3)).heap.size from by have := HO2.out.bound; simp; omega)
              go_wp2_with (at_builtin; refine wpList_append_own _ rfl _ _ 22 rfl W.heap.size 3 i0 (.int .i64 0) 1 8 Try.underlying22 HZ.out.2.2.1 HZ.out.2.2.2 HZ.out.1 HZ.out.2.1 rfl (by decide) u10 pre.length (intsV pre) rfl HO3.out ⟨Y.heap.size, 0, none⟩ 1 1 [.int .i64 (k : Int)] rfl rfl HNw.out (by intro u hu; simp at hu; subst hu; rfl) (by unfold maxLen; omega) (by omega) HBs.out ?_; intro v4 w4 hown4 hg4 hnn4)
              have HO4 := Lib.hid (show OwN W v4 (pre ++ [(k : Int)]) w4 from HO2.out.grown (M := [(k : Int)]) (below_new _) hg4 hown4)
              clear hown4 hg4 hnn4
              go_wp2_with fail
              go_roundw
              case rel => exact ⟨k + 1, by go_num, by omega, by rw [HE.out]; exact HO4.out⟩
              case measure => simp [intOf]; omega
          | _ => exact h.elim
      · have hk : k = len := by omega
        subst hk
        have HE := Lib.hid (show oR = chainT b.chs n' x k from HMl.out)
        go_wp2_with fail
        go_ret2
        exact OutN.mk (by rw [HE.out]; exact HO1.out.sl) (HW.out.1.trans (HO1.out.bel.mono HW.out.1.size))
  · rw [if_neg he] at HM
    have hM := HM.out
    injection hM with hM1 hM2
    subst hM1; subst hM2
    clear HM
    obtain rfl := hu1 he
    have HB2 := Lib.hid (HB.out.trans ((below_new (w := w1) (.cells #[.slice none 0 0, .slice none 0 0] 67)).mono HB.out.size))
    unfold nilH at *
    clear hu0 hu1 HZ
    go_wp2_with fail
    go_ret2
    exact OutN.nil HB2.out
end Go.Proofs.Ytplpogonkfnafaa
