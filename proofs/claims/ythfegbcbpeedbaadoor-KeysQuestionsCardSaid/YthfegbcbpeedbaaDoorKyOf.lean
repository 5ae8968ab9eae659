/- asksTwice. -/
import Derived.Test.YthfegbcbpeedbaaDoorKyOd
import Derived.Maps.OwnIn
namespace Go.Proofs.YthfegbcbpeedbaaDoor
open Go.RowKit Go.Nm Go.Ky

set_option maxRecDepth 100000 in
set_option maxHeartbeats 4000000 in
theorem setOf0_any (s : Nat) (w : World) (hs : s < 16) :
    Calls Tryd.prog 120 #[.int .i64 (s : Int)] w fun e w' => e = .returned (.int .i64 ((2 ^ s : Nat) : Int)) ∧ w = w' := by
  obtain ⟨p1, p2⟩ := pow16 (k := s) (by omega)
  have HP := Lib.hid (show IntKind.i64.wrap (2 ^ s) = ((2 ^ s : Nat) : Int) from by rw [show ((2 : Int) ^ s) = ((2 ^ s : Nat) : Int) from by simp, IntKind.wrap_i64]; omega)
  have hki : (s : Int) ≤ 16 := by omega
  obtain ⟨m, hm⟩ : ∃ m, 2 ^ s = m := ⟨_, rfl⟩
  have hw := HP.out
  rw [hm] at hw p1 p2 ⊢
  clear HP hm
  go_enter Tryd.func120, Tryd.ntmps120
  go_wp2_with fail
  go_ret
  exact ⟨rfl, rfl⟩
theorem setOf_any (s : Nat) (w : World) (hs : s < 16) :
    Calls Tryd.prog 120 #[.int .i64 (s : Int)] w fun e w' => e = .returned (.int .i64 (2 ^ s : Int)) ∧ w = w' := by
  have h := setOf0_any s w hs
  rw [show ((2 ^ s : Nat) : Int) = (2 : Int) ^ s from by simp] at h
  exact h
set_option maxRecDepth 100000 in
set_option maxHeartbeats 8000000 in
theorem areNodes_any (v u : Value) (m : Mx) (k : Kx) (w : World) (hv : MxV w v m) (hu : KyV w u k) (hs : m.st.length ≤ 1000) (hk : KSm k) :
    Calls Tryd.prog 96 #[v, u] w fun e w' => e = .returned (.bool (nodesF m.st k)) ∧ Below w.heap.size w w' := by
  obtain ⟨A1, c1, A2, c2, W0, rfl, hW0, hb0, hM, hS, hR, hX⟩ := mx_box hv
  have hz : W0.heap.size = w.heap.size + 1 := by rw [← hW0]; simp
  obtain ⟨B1, d1, B2, d2, W1, rfl, hW1, hb1, hK, hNd, hV, hX1⟩ := ky_box (hu.step hb0)
  rw [hz] at hX1
  have HW := Lib.hid (And.intro hW0 hW1)
  have HB1 := Lib.hid (hb0.trans (hb1.mono hb0.size))
  have HX := Lib.hid (fun Y (h : Below W1.heap.size W1 Y) => And.intro (hX Y (hb1.trans (h.mono hb1.size))) (hX1 Y h))
  have HU := Lib.hid (hNd W1 (Below.refl _ _))
  have HSt := Lib.hid (fun Y (h : Below W1.heap.size W1 Y) => show InA Y Y.heap.size A1 m.st from by obtain ⟨_, _, e, _, _, h⟩ := hS Y (hb1.trans (h.mono hb1.size)); cases e; exact h)
  have HQ := Lib.hid hk.2.2.1
  obtain ⟨n, hn⟩ : ∃ n, k.nd.length = n := ⟨_, rfl⟩
  obtain ⟨nl, hnl⟩ : ∃ n, k.lv.length = n := ⟨_, rfl⟩
  obtain ⟨ns, hns⟩ : ∃ n, m.st.length = n := ⟨_, rfl⟩
  have HN := Lib.hid (And.intro hn (And.intro hnl hns))
  have hn1 : n ≤ 2000 := by have := hk.1; omega
  have hn2 : nl ≤ 2000 := by have := hk.2.1; omega
  have hn3 : ns ≤ 1000 := by omega
  have hnw : IntKind.i64.wrap (-(nl : Int)) = -(nl : Int) := by rw [IntKind.wrap_i64]; omega
  have HR := Lib.hid (show nodesF m.st k = ((k.nd.zipIdx.all fun p => nodeF m.st p.2 n nl p.1) && decide (n ≤ 1000)) from by unfold nodesF; rw [hn, hnl])
  obtain ⟨r, hr⟩ : ∃ r, nodesF m.st k = r := ⟨_, rfl⟩
  rw [hr] at HR ⊢
  generalize m.rows.length = nr at *
  rw [hn, hnl, hns] at HX HW
  rw [hn] at HU
  rw [hn, hnl, hns]
  obtain ⟨⟨k0, k1⟩, k2, k3⟩ := HX.out W1 (Below.refl _ _)
  clear hv hu hs hk hW0 hb0 hM hS hR hX hz hW1 hb1 hK hNd hV hX1 hr hn hnl hns
  go_enter Tryd.func96, Tryd.ntmps96
  go_wp2_with fail
  rw [HW.out.1, HW.out.2]
  (try go_wp2_with fail)
  go_loopw [12] (fun iv wr => ∃ i : Nat, iv = .int .i64 (i : Int) ∧ i ≤ n ∧ Below W1.heap.size W1 wr ∧ ((k.nd.zipIdx.take i).all fun p => nodeF m.st p.2 n nl p.1) = true) (fun iv _ => n - (intOf iv).toNat)
  case atStart => exact ⟨0, rfl, by omega, Below.refl _ _, rfl⟩
  case round =>
    obtain ⟨i, rfl, hin, hb, hg⟩ := hrel
    have HG := Lib.hid hg
    have HB := Lib.hid hb
    clear hb hg k0 k1 k2 k3
    by_cases hlt : i < n
    · obtain ⟨q, ad, Am, cm, hq, rfl, hY⟩ := HU.out.at_ hlt
      have HY := Lib.hid hY
      have HQi := Lib.hid (And.intro hq (idx_get hq))
      obtain ⟨e0, e1⟩ := (hY wr HB.out).1
      have hbx := below_new (w := wr) (.cells #[.int .i64 q.nm, .slice Am q.may.length cm] 65)
      have hnx := World.alloc_heap_new wr (.cells #[.int .i64 q.nm, .slice Am q.may.length cm] 65)
      obtain ⟨V, hV⟩ : ∃ V, wr.alloc (.cells #[.int .i64 q.nm, .slice Am q.may.length cm] 65) = V := ⟨_, rfl⟩
      rw [hV] at hbx hnx
      have HV := Lib.hid hV
      have HBx := Lib.hid (HB.out.trans (hbx.mono HB.out.size))
      have HNx := Lib.hid hnx
      obtain ⟨x, hx⟩ : ∃ x, q.nm = x := ⟨_, rfl⟩
      have HXn := Lib.hid hx
      obtain ⟨ql, hql⟩ : ∃ x, q.may.length = x := ⟨_, rfl⟩
      have HQl := Lib.hid hql
      have hql1 : ql ≤ 1000 := by rw [← hql]; exact HQ.out q (List.mem_of_getElem? hq)
      rw [hx] at e0
      rw [hql] at e1
      rw [hx, hql] at HV HNx
      have ss := fun z : Wb V => And.intro (HX.out z.v (HBx.out.trans (z.h.mono HBx.out.size))) (cells_two ((z.h.block _ (Array.getElem?_eq_some_iff.1 HNx.out).1).trans HNx.out))
      have HSs := Lib.hid ss
      clear hq hY hbx hnx hV hx hql ss
      by_cases h1 : x < 0
      · have HF := Lib.hid (show r = false from by rw [HR.out, all_false HQi.out.2 (by simp only [nodeF]; rw [HXn.out, decide_eq_false (by omega)]; rfl), Bool.false_and])
        have ss := HSs.out
        go_wp2_with fail
        rw [HV.out]
        refine wp_region_wb (by kernel_rfl) (by kernel_rfl) ?_; (repeat ((with_reducible refine wpQuiet_step ?_); intro K hK; go_simp; (try (refine ite_neg_of (by simp [undef]) ?_)); first | (with_reducible refine hK _ ?_; clear hK K) | (apply Exists.intro; (with_reducible refine ⟨fun _ => ?_, hK _ ?_⟩); (fail); clear hK K))); (with_reducible refine wpQuiet_nil ?_); rintro w1 ⟨⟨_, hb1⟩, rfl⟩; (try dsimp only)
        go_wp2_with fail
        go_ret
        exact ⟨by rw [HF.out]; rfl, HB1.out.trans ((HBx.out.trans (hb1.mono HBx.out.size)).mono HB1.out.size)⟩
      by_cases h2 : (ns : Int) ≤ x
      · have HF := Lib.hid (show r = false from by rw [HR.out, all_false HQi.out.2 (by simp only [nodeF]; rw [HXn.out, HN.out.2.2, decide_eq_false (by omega)]; rfl), Bool.false_and])
        have ss := HSs.out
        go_wp2_with fail
        rw [HV.out]
        refine wp_region_wb (by kernel_rfl) (by kernel_rfl) ?_; (repeat ((with_reducible refine wpQuiet_step ?_); intro K hK; go_simp; (try (refine ite_neg_of (by simp [undef]) ?_)); first | (with_reducible refine hK _ ?_; clear hK K) | (apply Exists.intro; (with_reducible refine ⟨fun _ => ?_, hK _ ?_⟩); (fail); clear hK K))); (with_reducible refine wpQuiet_nil ?_); rintro w1 ⟨⟨_, hb1⟩, rfl⟩; (try dsimp only)
        go_wp2_with fail
        go_ret
        exact ⟨by rw [HF.out]; rfl, HB1.out.trans ((HBx.out.trans (hb1.mono HBx.out.size)).mono HB1.out.size)⟩
      obtain ⟨c, rfl⟩ : ∃ c : Nat, x = (c : Int) := ⟨x.toNat, by omega⟩
      have hc : c < ns := by omega
      obtain ⟨y, ad1, hy, rfl, _, _⟩ := (HSt.out W1 (Below.refl _ _)).at_ HN.out.2.2 hc
      have HYs := Lib.hid hy
      have HCs := Lib.hid (fun Y (h : Below W1.heap.size W1 Y) => show Y.cell? (ad1.add c) = some (.int .i64 y) from by
        obtain ⟨y', ad', hy', e, _, hc'⟩ := (HSt.out Y h).at_ HN.out.2.2 hc
        injection e with e
        subst e
        rw [HYs.out] at hy'; injection hy' with hy'; subst hy'
        exact hc')
      have hci : (c : Int) < (ns : Int) := by omega
      have hc0 : ¬ (c : Int) < 0 := by omega
      have HGd := Lib.hid (show nodeF m.st i n nl q = (decide ((ql : Int) = y) && q.may.all (nextF i n nl)) from by
        unfold nodeF
        rw [HXn.out, HN.out.2.2, decide_eq_true (show (0 : Int) ≤ (c : Int) ∧ (c : Int) < (ns : Int) from ⟨by omega, hci⟩), Bool.true_and, Int.toNat_natCast, List.getD_eq_getElem?_getD, HYs.out, HQl.out]
        rfl)
      clear h1 h2 hy
      by_cases h3 : (ql : Int) = y
      case neg =>
        have hne : ((ql : Int) != y) = true := by simpa using h3
        have HF := Lib.hid (show r = false from by rw [HR.out, all_false HQi.out.2 (by simp only; rw [HGd.out, decide_eq_false h3]; rfl), Bool.false_and])
        have ss := fun z : Wb V => And.intro (HSs.out z) (HCs.out z.v (HBx.out.trans (z.h.mono HBx.out.size)))
        go_wp2_with fail
        rw [HV.out]
        refine wp_region_wb (by kernel_rfl) (by kernel_rfl) ?_; (repeat ((with_reducible refine wpQuiet_step ?_); intro K hK; go_simp; (try (refine ite_neg_of (by simp [undef]) ?_)); first | (with_reducible refine hK _ ?_; clear hK K) | (apply Exists.intro; (with_reducible refine ⟨fun _ => ?_, hK _ ?_⟩); (fail); clear hK K))); (with_reducible refine wpQuiet_nil ?_); rintro w1 ⟨⟨_, hb1⟩, rfl⟩; (try dsimp only)
        go_wp2_with fail
        go_ret
        exact ⟨by rw [HF.out]; rfl, HB1.out.trans ((HBx.out.trans (hb1.mono HBx.out.size)).mono HB1.out.size)⟩
      case pos =>
      have hne : ((ql : Int) != y) = false := by simpa using h3
      have HGd2 := Lib.hid (show nodeF m.st i n nl q = q.may.all (nextF i n nl) from by rw [HGd.out, decide_eq_true h3, Bool.true_and])
      have ss := fun z : Wb V => And.intro (HSs.out z) (HCs.out z.v (HBx.out.trans (z.h.mono HBx.out.size)))
      clear h3 HGd
      go_wp2_with fail
      rw [HV.out]
      refine wp_region_wb (by kernel_rfl) (by kernel_rfl) ?_; (repeat ((with_reducible refine wpQuiet_step ?_); intro K hK; go_simp; (try (refine ite_neg_of (by simp [undef]) ?_)); first | (with_reducible refine hK _ ?_; clear hK K) | (apply Exists.intro; (with_reducible refine ⟨fun _ => ?_, hK _ ?_⟩); (fail); clear hK K))); (with_reducible refine wpQuiet_nil ?_); rintro w1 ⟨⟨_, hb1⟩, rfl⟩; (try dsimp only)
      clear ss
      have HB2 := Lib.hid (HBx.out.trans (hb1.mono HBx.out.size))
      have HA := Lib.hid (show InA w1 w1.heap.size Am q.may from by obtain ⟨_, _, e, _, _, h⟩ := (HY.out w1 HB2.out).2; cases e; exact h)
      obtain ⟨f0, f1⟩ := cells_two ((hb1.block _ (Array.getElem?_eq_some_iff.1 HNx.out).1).trans HNx.out)
      obtain ⟨⟨k0, k1⟩, k2, k3⟩ := HX.out w1 HB2.out
      clear hb1
      go_wp2_with fail
      go_loopw [43] (fun jv wq => ∃ j : Nat, jv = .int .i64 (j : Int) ∧ j ≤ ql ∧ w1 = wq ∧ ((q.may.take j).all (nextF i n nl)) = true) (fun jv _ => ql - (intOf jv).toNat)
      case atStart => exact ⟨0, rfl, by omega, rfl, rfl⟩
      case round =>
        obtain ⟨j, rfl, hjn, rfl, hg⟩ := hrel
        have HGj := Lib.hid hg
        clear hg
        by_cases hlt2 : j < ql
        · obtain ⟨t, ad2, ht, rfl, _, hct⟩ := HA.out.at_ HQl.out hlt2
          have HT := Lib.hid ht
          have HBad := Lib.hid (fun h : nextF i n nl t = false => show r = false from by rw [HR.out, all_false HQi.out.2 (by simp only; rw [HGd2.out]; exact all_false HT.out h), Bool.false_and])
          have HGood := Lib.hid (fun h : nextF i n nl t = true => show ((q.may.take (j + 1)).all (nextF i n nl)) = true from by rw [all_take HT.out, HGj.out]; exact h)
          clear ht
          by_cases g1 : t < 0
          · have g1' : ¬ (0 : Int) ≤ t := by omega
            by_cases g2 : t < -(nl : Int)
            · have HF := Lib.hid (HBad.out (by unfold nextF; simp; omega))
              clear HBad HGood
              go_wp2_with fail
              go_ret
              exact ⟨by rw [HF.out]; rfl, HB1.out.trans (HB2.out.mono HB1.out.size)⟩
            · have HF := Lib.hid (HGood.out (by unfold nextF; simp; omega))
              clear HBad HGood
              go_wp2_with fail
              go_roundw
              case rel => exact ⟨j + 1, by go_num, by omega, by first | trivial | rfl, HF.out⟩
              case measure => simp [intOf]; omega
          · have g1' : (0 : Int) ≤ t := by omega
            have g1n : ¬ t < -(nl : Int) := by omega
            by_cases g2 : t ≤ (i : Int)
            · have HF := Lib.hid (HBad.out (by unfold nextF; simp; omega))
              clear HBad HGood
              go_wp2_with fail
              go_ret
              exact ⟨by rw [HF.out]; rfl, HB1.out.trans (HB2.out.mono HB1.out.size)⟩
            by_cases g3 : (n : Int) ≤ t
            · have HF := Lib.hid (HBad.out (by unfold nextF; simp; omega))
              clear HBad HGood
              go_wp2_with fail
              go_ret
              exact ⟨by rw [HF.out]; rfl, HB1.out.trans (HB2.out.mono HB1.out.size)⟩
            · have HF := Lib.hid (HGood.out (by unfold nextF; simp; omega))
              clear HBad HGood
              go_wp2_with fail
              go_roundw
              case rel => exact ⟨j + 1, by go_num, by omega, by first | trivial | rfl, HF.out⟩
              case measure => simp [intOf]; omega
        · obtain rfl : ql = j := by omega
          have HF := Lib.hid (show ((k.nd.zipIdx.take (i + 1)).all fun p => nodeF m.st p.2 n nl p.1) = true from by rw [all_take HQi.out.2, HG.out, Bool.true_and]; simp only; rw [HGd2.out]; exact all_end HQl.out HGj.out)
          go_wp2_with fail
          go_roundw
          case rel => exact ⟨i + 1, by go_num, by omega, HB2.out, HF.out⟩
          case measure => simp [intOf]; omega
    · obtain rfl : n = i := by omega
      have HT := Lib.hid (show r = decide (n ≤ 1000) from by rw [HR.out, all_end (by rw [List.length_zipIdx, HN.out.1]) HG.out, Bool.true_and])
      obtain ⟨⟨k0, k1⟩, k2, k3⟩ := HX.out wr HB.out
      by_cases h2 : n ≤ 1000
      · have h2i : (n : Int) ≤ 1000 := by omega
        have HF := Lib.hid (show r = true from by rw [HT.out]; exact decide_eq_true h2)
        clear h2 HT
        go_wp2_with fail
        go_ret
        exact ⟨by rw [HF.out]; rfl, HB1.out.trans (HB.out.mono HB1.out.size)⟩
      · have h2i : ¬ (n : Int) ≤ 1000 := by omega
        have HF := Lib.hid (show r = false from by rw [HT.out]; exact decide_eq_false h2)
        clear h2 HT
        go_wp2_with fail
        go_ret
        exact ⟨by rw [HF.out]; rfl, HB1.out.trans (HB.out.mono HB1.out.size)⟩
end Go.Proofs.YthfegbcbpeedbaaDoor
namespace Go.Ky
open Go.Nm
def orF (a b : Int) : Int := bits BinOp.or IntKind.u64 a b
def andF (a b : Int) : Int := bits BinOp.and IntKind.u64 a b
def askOne (r : Rw) (f : Int → Int) : Int := r.may.foldl (fun a x => orF a (f x)) 0
def askStep (i : Nat) (r : Rw) (s : (Int → Int) × Bool) : (Int → Int) × Bool :=
  if andF (askOne r s.1) (2 ^ r.nm.toNat) ≠ 0 then (s.1, true) else (fun k => if k = (i : Int) then orF (askOne r s.1) (2 ^ r.nm.toNat) else s.1 k, false)
/-- what is asked from a node on, from the last one back; and whether one was asked twice -/
def askM (nd : List Rw) : Nat → (Int → Int) × Bool
  | 0 => (fun _ => 0, false)
  | t + 1 => if (askM nd t).2 = true then askM nd t else askStep (nd.length - 1 - t) (nd.getD (nd.length - 1 - t) ⟨0, []⟩) (askM nd t)
def twiceF (nd : List Rw) : Bool := (askM nd nd.length).2
theorem ask_mono {nd : List Rw} {t : Nat} (h : (askM nd t).2 = true) : ∀ k, (askM nd (t + k)).2 = true
  | 0 => h
  | k + 1 => by
    have := ask_mono h k
    show (askM nd (t + k + 1)).2 = true
    unfold askM
    rw [if_pos this]
    exact this
theorem ask_next {nd : List Rw} {t i : Nat} {r : Rw} (h : (askM nd t).2 = false) (hi : i + t + 1 = nd.length) (hr : nd[i]? = some r) : askM nd (t + 1) = askStep i r (askM nd t) := by
  have e : nd.length - 1 - t = i := by omega
  conv => lhs; unfold askM
  rw [if_neg (by rw [h]; simp), e, List.getD_eq_getElem?_getD, hr]
  rfl
end Go.Ky
namespace Go.Proofs.YthfegbcbpeedbaaDoor
open Go.RowKit Go.Nm Go.Ky Go.Maps

theorem arr40 {t : Array Value} (h : t.size = 40) : ∃ f : Nat → Value, t = #[f 0, f 1, f 2, f 3, f 4, f 5, f 6, f 7, f 8, f 9, f 10, f 11, f 12, f 13, f 14, f 15, f 16, f 17, f 18, f 19, f 20, f 21, f 22, f 23, f 24, f 25, f 26, f 27, f 28, f 29, f 30, f 31, f 32, f 33, f 34, f 35, f 36, f 37, f 38, f 39] := by
  refine ⟨fun k => t.getD k undef, ?_⟩
  apply Array.ext
  · simpa using h
  · intro i h1 h2
    have : i < 40 := by omega
    have hi : i = 0 ∨ i = 1 ∨ i = 2 ∨ i = 3 ∨ i = 4 ∨ i = 5 ∨ i = 6 ∨ i = 7 ∨ i = 8 ∨ i = 9 ∨ i = 10 ∨ i = 11 ∨ i = 12 ∨ i = 13 ∨ i = 14 ∨ i = 15 ∨ i = 16 ∨ i = 17 ∨ i = 18 ∨ i = 19 ∨ i = 20 ∨ i = 21 ∨ i = 22 ∨ i = 23 ∨ i = 24 ∨ i = 25 ∨ i = 26 ∨ i = 27 ∨ i = 28 ∨ i = 29 ∨ i = 30 ∨ i = 31 ∨ i = 32 ∨ i = 33 ∨ i = 34 ∨ i = 35 ∨ i = 36 ∨ i = 37 ∨ i = 38 ∨ i = 39 := by omega
    rcases hi with rfl | rfl | rfl | rfl | rfl | rfl | rfl | rfl | rfl | rfl | rfl | rfl | rfl | rfl | rfl | rfl | rfl | rfl | rfl | rfl | rfl | rfl | rfl | rfl | rfl | rfl | rfl | rfl | rfl | rfl | rfl | rfl | rfl | rfl | rfl | rfl | rfl | rfl | rfl | rfl <;> simp [Array.getD, h1]
section
variable {F : Fence} {nF : Nat} {ops : Array Oper} {rest : List Oper} {o : Oper} {a : Act} {Q : Exit → Act → World → Prop} {W w : World} {mb n : Nat} {f : Int → Int}
theorem wpListIn_lookup_mu (hg : o.guard = none) (m x : Operand) (hop : o.op = Op.lookup 140 m x false) (hM : MU W mb n f w) (hm : a.eval m = .map (some mb)) (z : Int) (hx : a.eval x = .int .i64 z) (hz : (Lit.int .i64 z).wf = true)
    (hK : wpListIn F nF Tryd.prog ops Q rest (a.put o.dst (.int .u64 (f z))) w) : wpListIn F nF Tryd.prog ops Q (o :: rest) a w := by
  obtain ⟨_, _, D, h1, h2⟩ := hM
  refine wpListIn_lookup_own_int w hg m x 140 hop 3 133 .u64 keyI Tryd.underlying140 Tryd.underlying133 (zeroU _) mb n D hm h1 _ _ hx (keyOf_int_mk Tryd.underlying3 hz) ?_
  intro c hat _
  have := (h2 z).symm.trans hat
  injection this with h; injection h with _ h
  rw [← h]; exact hK
theorem wpListIn_put_mu (hg : o.guard = none) (m x v : Operand) (hop : o.op = Op.mapUpdate 140 m x v) (hM : MU W mb n f w) (hn : n < maxLen) (hm : a.eval m = .map (some mb)) (z : Int) (hx : a.eval x = .int .i64 z) (hz : (Lit.int .i64 z).wf = true) (c : Int) (hv : a.eval v = .int .u64 c) (hc : (Lit.int .u64 c).wf = true)
    (hK : ∀ w', MU W mb (n + 1) (fun k => if k = z then c else f k) w' → w.grownBy w' (some mb) → wpListIn F nF Tryd.prog ops Q rest (a.put o.dst undef) w') : wpListIn F nF Tryd.prog ops Q (o :: rest) a w := by
  obtain ⟨hb, hw, D, h1, h2⟩ := hM
  refine wpListIn_mapUpdate_in w hg m x v 140 hop 3 133 keyI Tryd.underlying140 _ mb n D hm h1 hn _ _ _ hx hv (keyOf_int_mk Tryd.underlying3 hz) _ [] (plainElem_int Tryd.underlying133 hc) ?_
  intro w' h4 h5
  refine hK w' ⟨hb.grown h5.grown hb.size (fun k e => by cases e; exact hw), hw, _, h4, fun k => ?_⟩ h5.grown
  by_cases hk : k = z
  · subst hk; rw [atKey_put_same h1.isMap (isK _), if_pos rfl]
  · rw [atKey_put_other (ne_lit hk), h2, if_neg hk]
end
theorem abide_below {β : Type} {B : Nat} {J : β → World → Prop} (h : AbidesFrom B J) {s : β} {X X' : World} (hs : J s X) (hb : Below X.heap.size X X') : J s X' :=
  h s X X' none hs (grown_of_below hb none) (fun r e => by cases e)
abbrev Bx3 := Nat × Rw × Option Addr × Nat
def bxv (x : Bx3) : Array Value := #[.int .i64 (x.1 : Int), .agg #[.int .i64 x.2.1.nm, .slice x.2.2.1 x.2.1.may.length x.2.2.2]]
def BxOk (w : World) (nd : List Rw) (pre : List Bx3) (x : Bx3) : Prop := x.1 + pre.length + 1 = nd.length ∧ nd[x.1]? = some x.2.1 ∧ ∀ Y, Below w.heap.size w Y → InSl Y Y.heap.size (.slice x.2.2.1 x.2.1.may.length x.2.2.2) x.2.1.may
set_option maxRecDepth 100000 in
set_option maxHeartbeats 4000000 in
theorem back_iter (w : World) (B nn gb : Nat) (hnn : 1 ≤ nn) (nd : List Rw) (A : Option Addr) (n c : Nat) (hu : IlSl w w.heap.size (.slice A n c) nd) (hnd : nd.length = n) (hn : n ≤ 2000) (I : List Bx3 → Option Nat → World → Prop)
    (hI : ∀ pre ow X, I pre ow X → Below w.heap.size w X ∧ X.heap[gb]? = some (.cells #[.slice A n c] 50)) :
    IterG B Tryd.prog nn 124 #[.pointer (some ⟨gb, 0, none⟩)] bxv I (BxOk w nd) (fun xs => xs.length = n) (fun _ => True) := by
  intro l J Jx ow W hB hJ hJx hJI hY h0
  have HJ := Lib.hid hJ; have HJI := Lib.hid hJI; have HY := Lib.hid hY; have HI := Lib.hid hI; have H0 := Lib.hid h0; have HU := Lib.hid hu; have HN := Lib.hid hnd
  have k0 := cell_one (hI _ _ _ (hJI _ _ _ h0)).2
  have hw1 : IntKind.i64.wrap ((n : Int) - 1) = (n : Int) - 1 := by rw [IntKind.wrap_i64]; omega
  clear hJ hJI hY hI h0 hJx hu hnd
  refine callsIn_of_wp Tryd.func124 rfl trivial ?_ rfl
  simp only [Tryd.ntmps124, List.size_toArray, List.length_cons, List.length_nil, Nat.reduceAdd, Nat.reduceSub, Array.replicate_succ, Array.replicate_zero, List.push_toArray, List.append_toArray, List.nil_append, List.cons_append]
  gi_wp2_with fail
  gi_loopw [3] (fun kv wr => ∃ (i : Nat) (z : Int) (pre : List Bx3) (ow' : Option Nat), kv = .int .i64 z ∧ z = (i : Int) - 1 ∧ i + pre.length = n ∧ J pre ow' wr ∧ W.heap.size ≤ wr.heap.size) (fun kv _ => (intOf kv + 1).toNat)
  case atStart => exact ⟨n, _, [], ow, rfl, by first | rfl | exact hw1, by simp, H0.out, Nat.le_refl _⟩
  case round =>
    obtain ⟨i, z, pre, ow1, rfl, hz, hip, hj, hsz⟩ := hrel
    have HJ1 := Lib.hid hj
    clear hj k0 hw1
    have k0 := cell_one (HI.out _ _ _ (HJI.out _ _ _ HJ1.out)).2
    cases i with
    | zero =>
      have hz1 : ¬ (0 : Int) ≤ z := by omega
      clear hz
      have HF := Lib.hid (show pre.length = n from by omega)
      gi_wp2_with fail
      refine bodyPost_end (results_none rfl _ _ _) rfl ?_
      first
        | exact ⟨⟨_, rfl⟩, .inl ⟨_, HF.out, ow1, HJ1.out⟩⟩
        | exact ⟨⟨_, rfl⟩, .inl ⟨_, ow1, HF.out, HJ1.out⟩⟩
    | succ j =>
      obtain rfl : z = (j : Int) := by omega
      have hjn : j < n := by omega
      obtain ⟨r, ad, Am, cm, hr, rfl, hYr⟩ := HU.out.at_ hjn
      obtain ⟨⟨d0, d1⟩, _⟩ := hYr wr (HI.out _ _ _ (HJI.out _ _ _ HJ1.out)).1
      have hw2 : IntKind.i64.wrap ((j : Int) - 1) = (j : Int) - 1 := by rw [IntKind.wrap_i64]; omega
      have HP := Lib.hid (show BxOk w nd pre (j, r, Am, cm) from ⟨by rw [HN.out]; simp only; omega, hr, fun Y hb => (hYr Y hb).2⟩)
      obtain ⟨fn, tmps, assign, body, hy, hR⟩ := HY.out pre (j, r, Am, cm) ow1 _ HJ1.out HP.out
      have HR := Lib.hid hR
      unfold bxv at hy
      simp only at hy
      have hip2 : j + (pre ++ [((j, r, Am, cm) : Bx3)]).length = n := by rw [List.length_append, List.length_singleton]; omega
      have HL := Lib.hid hip2
      obtain ⟨rn, hrn⟩ : ∃ x, r.may.length = x := ⟨_, rfl⟩
      rw [hrn] at d1 hy
      clear hr hYr hR hip hip2 hrn hz
      gi_wp2_with fail
      refine HR.out.mono ?_
      rintro e W3 (⟨rfl, ow3, hj3, hgr, hka⟩ | ⟨rfl, hjx⟩)
      · have hs3 := hka.size
        have H3 := Lib.hid hj3
        clear hj3 hgr hka k0 d0 d1
        gi_wp2_with fail
        go_roundw
        case rel => exact ⟨j, _, _, ow3, rfl, by first | rfl | exact hw2, HL.out, H3.out, by omega⟩
        case measure => simp [intOf]; try omega
      · have HX3 := Lib.hid hjx
        clear hjx k0 d0 d1
        gi_wp2_with fail
        refine bodyPost_ret (results_none rfl _ _ _) rfl ?_
        first
          | exact ⟨⟨_, rfl⟩, .inr ⟨_, trivial, HX3.out⟩⟩
          | exact ⟨⟨_, rfl⟩, .inr ⟨_, HX3.out⟩⟩
structure AkI (w : World) (nd : List Rw) (A : Option Addr) (n c : Nat) (pre : List Bx3) (Y : World) : Prop where
  bel : Below w.heap.size w Y
  res : Y.heap[w.heap.size]? = some (.cells #[.bool false] 4)
  mu : MU w (w.heap.size + 1) pre.length (askM nd pre.length).1 Y
  mbx : Y.heap[w.heap.size + 2]? = some (.cells #[.map (some (w.heap.size + 1))] 140)
  bbx : Y.heap[w.heap.size + 3]? = some (.cells #[.slice A n c] 50)
  no : (askM nd pre.length).2 = false
theorem AkI.grown {w : World} {nd : List Rw} {A : Option Addr} {n c : Nat} {pre : List Bx3} {X Y : World} {row : Option Nat} (h : AkI w nd A n c pre X) (hg : X.grownBy Y row) (hr : ∀ r, row = some r → w.heap.size + 4 ≤ r) : AkI w nd A n c pre Y := by
  have hne : ∀ k, k < w.heap.size + 4 → some k ≠ row := fun k hk e => by have := hr k e.symm; omega
  exact ⟨h.bel.grown hg h.bel.size (fun r e => by have := hr r e; omega), (hg.block _ (Array.getElem?_eq_some_iff.1 h.res).1 (hne _ (by omega))).trans h.res, h.mu.kept hg (fun r e => by have := hr r e; omega),
    (hg.block _ (Array.getElem?_eq_some_iff.1 h.mbx).1 (hne _ (by omega))).trans h.mbx, (hg.block _ (Array.getElem?_eq_some_iff.1 h.bbx).1 (hne _ (by omega))).trans h.bbx, h.no⟩
def AkX (w : World) (nd : List Rw) (cd : Code) (Y : World) : Prop := cd = .ret ∧ Below w.heap.size w Y ∧ Y.heap[w.heap.size]? = some (.cells #[.bool true] 4) ∧ twiceF nd = true
end Go.Proofs.YthfegbcbpeedbaaDoor
