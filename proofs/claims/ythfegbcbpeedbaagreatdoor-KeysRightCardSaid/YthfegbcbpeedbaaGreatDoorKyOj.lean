
/- reached: its walk. -/
import Derived.Test.YthfegbcbpeedbaaGreatDoorKyOd
import Derived.Maps.OwnIn
import Derived.Shelf.Abstract
namespace Go.Proofs.YthfegbcbpeedbaaGreatDoor
open Go.RowKit Go.Nm Go.Ky

set_option maxRecDepth 100000 in
set_option maxHeartbeats 4000000 in
theorem setOf0_any (s : Nat) (w : World) (hs : s < 16) :
    Calls Tryz.prog 61 #[.int .i64 (s : Int)] w fun e w' => e = .returned (.int .i64 ((2 ^ s : Nat) : Int)) ∧ w = w' := by
  obtain ⟨p1, p2⟩ := pow16 (k := s) (by omega)
  have HP := Lib.hid (show IntKind.i64.wrap (2 ^ s) = ((2 ^ s : Nat) : Int) from by rw [show ((2 : Int) ^ s) = ((2 ^ s : Nat) : Int) from by simp, IntKind.wrap_i64]; omega)
  have hki : (s : Int) ≤ 16 := by omega
  obtain ⟨m, hm⟩ : ∃ m, 2 ^ s = m := ⟨_, rfl⟩
  have hw := HP.out
  rw [hm] at hw p1 p2 ⊢
  clear HP hm
  go_enter Tryz.func61, Tryz.ntmps61
  go_wp2_with fail
  go_ret
  exact ⟨rfl, rfl⟩
theorem setOf_any (s : Nat) (w : World) (hs : s < 16) :
    Calls Tryz.prog 61 #[.int .i64 (s : Int)] w fun e w' => e = .returned (.int .i64 (2 ^ s : Int)) ∧ w = w' := by
  have h := setOf0_any s w hs
  rw [show ((2 ^ s : Nat) : Int) = (2 : Int) ^ s from by simp] at h
  exact h
set_option maxRecDepth 100000 in
set_option maxHeartbeats 8000000 in
theorem areNodes_any (v u : Value) (m : Mx) (k : Kx) (w : World) (hv : MxV w v m) (hu : KyV w u k) (hs : m.st.length ≤ 1000) (hk : KSm k) :
    Calls Tryz.prog 53 #[v, u] w fun e w' => e = .returned (.bool (nodesF m.st k)) ∧ Below w.heap.size w w' := by
  obtain ⟨A1, c1, A2, c2, W0, rfl, hW0, hb0, hM, hS, hR, hX⟩ := mx_box hv
  have hz : W0.heap.size = w.heap.size + 1 := by rw [← hW0]; simp
  obtain ⟨B1, d1, B2, d2, W1, rfl, hW1, hb1, hK, hNd, hV, hX1⟩ := ky_box (hu.step hb0)
  rw [hz] at hX1
  have HW := Lib.hid (And.intro hW0 hW1)
  have HB1 := Lib.hid (hb0.trans (hb1.mono hb0.size))
  have HX := Lib.hid (fun Y (h : Below W1.heap.size W1 Y) => And.intro (hX Y (hb1.trans (h.mono hb1.size))) (hX1 Y h))
  have HU := Lib.hid (hNd W1 (Below.refl _ _))
  have HSt := Lib.hid (fun Y (h : Below W1.heap.size W1 Y) => show InA Y Y.heap.size A1 m.st from by obtain ⟨_, _, e, _, _, h⟩ := hS Y (hb1.trans (h.mono hb1.size)); cases e; exact h)
  have HQ := Lib.hid hk.2.2.1
  obtain ⟨n, hn⟩ : ∃ n, k.nd.length = n := ⟨_, rfl⟩
  obtain ⟨nl, hnl⟩ : ∃ n, k.lv.length = n := ⟨_, rfl⟩
  obtain ⟨ns, hns⟩ : ∃ n, m.st.length = n := ⟨_, rfl⟩
  have HN := Lib.hid (And.intro hn (And.intro hnl hns))
  have hn1 : n ≤ 2000 := by have := hk.1; omega
  have hn2 : nl ≤ 2000 := by have := hk.2.1; omega
  have hn3 : ns ≤ 1000 := by omega
  have hnw : IntKind.i64.wrap (-(nl : Int)) = -(nl : Int) := by rw [IntKind.wrap_i64]; omega
  have HR := Lib.hid (show nodesF m.st k = ((k.nd.zipIdx.all fun p => nodeF m.st p.2 n nl p.1) && decide (n ≤ 1000)) from by unfold nodesF; rw [hn, hnl])
  obtain ⟨r, hr⟩ : ∃ r, nodesF m.st k = r := ⟨_, rfl⟩
  rw [hr] at HR ⊢
  generalize m.rows.length = nr at *
  rw [hn, hnl, hns] at HX HW
  rw [hn] at HU
  rw [hn, hnl, hns]
  obtain ⟨⟨k0, k1⟩, k2, k3⟩ := HX.out W1 (Below.refl _ _)
  clear hv hu hs hk hW0 hb0 hM hS hR hX hz hW1 hb1 hK hNd hV hX1 hr hn hnl hns
  go_enter Tryz.func53, Tryz.ntmps53
  go_wp2_with fail
  rw [HW.out.1, HW.out.2]
  (try go_wp2_with fail)
  go_loopw [12] (fun iv wr => ∃ i : Nat, iv = .int .i64 (i : Int) ∧ i ≤ n ∧ Below W1.heap.size W1 wr ∧ ((k.nd.zipIdx.take i).all fun p => nodeF m.st p.2 n nl p.1) = true) (fun iv _ => n - (intOf iv).toNat)
  case atStart => exact ⟨0, rfl, by omega, Below.refl _ _, rfl⟩
  case round =>
    obtain ⟨i, rfl, hin, hb, hg⟩ := hrel
    have HG := Lib.hid hg
    have HB := Lib.hid hb
    clear hb hg k0 k1 k2 k3
    by_cases hlt : i < n
    · obtain ⟨q, ad, Am, cm, hq, rfl, hY⟩ := HU.out.at_ hlt
      have HY := Lib.hid hY
      have HQi := Lib.hid (And.intro hq (idx_get hq))
      obtain ⟨e0, e1⟩ := (hY wr HB.out).1
      have hbx := below_new (w := wr) (.cells #[.int .i64 q.nm, .slice Am q.may.length cm] 55)
      have hnx := World.alloc_heap_new wr (.cells #[.int .i64 q.nm, .slice Am q.may.length cm] 55)
      obtain ⟨V, hV⟩ : ∃ V, wr.alloc (.cells #[.int .i64 q.nm, .slice Am q.may.length cm] 55) = V := ⟨_, rfl⟩
      rw [hV] at hbx hnx
      have HV := Lib.hid hV
      have HBx := Lib.hid (HB.out.trans (hbx.mono HB.out.size))
      have HNx := Lib.hid hnx
      obtain ⟨x, hx⟩ : ∃ x, q.nm = x := ⟨_, rfl⟩
      have HXn := Lib.hid hx
      obtain ⟨ql, hql⟩ : ∃ x, q.may.length = x := ⟨_, rfl⟩
      have HQl := Lib.hid hql
      have hql1 : ql ≤ 1000 := by rw [← hql]; exact HQ.out q (List.mem_of_getElem? hq)
      rw [hx] at e0
      rw [hql] at e1
      rw [hx, hql] at HV HNx
      have ss := fun z : Wb V => And.intro (HX.out z.v (HBx.out.trans (z.h.mono HBx.out.size))) (cells_two ((z.h.block _ (Array.getElem?_eq_some_iff.1 HNx.out).1).trans HNx.out))
      have HSs := Lib.hid ss
      clear hq hY hbx hnx hV hx hql ss
      by_cases h1 : x < 0
      · have HF := Lib.hid (show r = false from by rw [HR.out, all_false HQi.out.2 (by simp only [nodeF]; rw [HXn.out, decide_eq_false (by omega)]; rfl), Bool.false_and])
        have ss := HSs.out
        go_wp2_with fail
        rw [HV.out]
        refine wp_region_wb (by kernel_rfl) (by kernel_rfl) ?_; (repeat ((with_reducible refine wpQuiet_step ?_); intro K hK; go_simp; (try (refine ite_neg_of (by simp [undef]) ?_)); first | (with_reducible refine hK _ ?_; clear hK K) | (apply Exists.intro; (with_reducible refine ⟨fun _ => ?_, hK _ ?_⟩); (fail); clear hK K))); (with_reducible refine wpQuiet_nil ?_); rintro w1 ⟨⟨_, hb1⟩, rfl⟩; (try dsimp only)
        go_wp2_with fail
        go_ret
        exact ⟨by rw [HF.out]; rfl, HB1.out.trans ((HBx.out.trans (hb1.mono HBx.out.size)).mono HB1.out.size)⟩
      by_cases h2 : (ns : Int) ≤ x
      · have HF := Lib.hid (show r = false from by rw [HR.out, all_false HQi.out.2 (by simp only [nodeF]; rw [HXn.out, HN.out.2.2, decide_eq_false (by omega)]; rfl), Bool.false_and])
        have ss := HSs.out
        go_wp2_with fail
        rw [HV.out]
        refine wp_region_wb (by kernel_rfl) (by kernel_rfl) ?_; (repeat ((with_reducible refine wpQuiet_step ?_); intro K hK; go_simp; (try (refine ite_neg_of (by simp [undef]) ?_)); first | (with_reducible refine hK _ ?_; clear hK K) | (apply Exists.intro; (with_reducible refine ⟨fun _ => ?_, hK _ ?_⟩); (fail); clear hK K))); (with_reducible refine wpQuiet_nil ?_); rintro w1 ⟨⟨_, hb1⟩, rfl⟩; (try dsimp only)
        go_wp2_with fail
        go_ret
        exact ⟨by rw [HF.out]; rfl, HB1.out.trans ((HBx.out.trans (hb1.mono HBx.out.size)).mono HB1.out.size)⟩
      obtain ⟨c, rfl⟩ : ∃ c : Nat, x = (c : Int) := ⟨x.toNat, by omega⟩
      have hc : c < ns := by omega
      obtain ⟨y, ad1, hy, rfl, _, _⟩ := (HSt.out W1 (Below.refl _ _)).at_ HN.out.2.2 hc
      have HYs := Lib.hid hy
      have HCs := Lib.hid (fun Y (h : Below W1.heap.size W1 Y) => show Y.cell? (ad1.add c) = some (.int .i64 y) from by
        obtain ⟨y', ad', hy', e, _, hc'⟩ := (HSt.out Y h).at_ HN.out.2.2 hc
        injection e with e
        subst e
        rw [HYs.out] at hy'; injection hy' with hy'; subst hy'
        exact hc')
      have hci : (c : Int) < (ns : Int) := by omega
      have hc0 : ¬ (c : Int) < 0 := by omega
      have HGd := Lib.hid (show nodeF m.st i n nl q = (decide ((ql : Int) = y) && q.may.all (nextF i n nl)) from by
        unfold nodeF
        rw [HXn.out, HN.out.2.2, decide_eq_true (show (0 : Int) ≤ (c : Int) ∧ (c : Int) < (ns : Int) from ⟨by omega, hci⟩), Bool.true_and, Int.toNat_natCast, List.getD_eq_getElem?_getD, HYs.out, HQl.out]
        rfl)
      clear h1 h2 hy
      by_cases h3 : (ql : Int) = y
      case neg =>
        have hne : ((ql : Int) != y) = true := by simpa using h3
        have HF := Lib.hid (show r = false from by rw [HR.out, all_false HQi.out.2 (by simp only; rw [HGd.out, decide_eq_false h3]; rfl), Bool.false_and])
        have ss := fun z : Wb V => And.intro (HSs.out z) (HCs.out z.v (HBx.out.trans (z.h.mono HBx.out.size)))
        go_wp2_with fail
        rw [HV.out]
        refine wp_region_wb (by kernel_rfl) (by kernel_rfl) ?_; (repeat ((with_reducible refine wpQuiet_step ?_); intro K hK; go_simp; (try (refine ite_neg_of (by simp [undef]) ?_)); first | (with_reducible refine hK _ ?_; clear hK K) | (apply Exists.intro; (with_reducible refine ⟨fun _ => ?_, hK _ ?_⟩); (fail); clear hK K))); (with_reducible refine wpQuiet_nil ?_); rintro w1 ⟨⟨_, hb1⟩, rfl⟩; (try dsimp only)
        go_wp2_with fail
        go_ret
        exact ⟨by rw [HF.out]; rfl, HB1.out.trans ((HBx.out.trans (hb1.mono HBx.out.size)).mono HB1.out.size)⟩
      case pos =>
      have hne : ((ql : Int) != y) = false := by simpa using h3
      have HGd2 := Lib.hid (show nodeF m.st i n nl q = q.may.all (nextF i n nl) from by rw [HGd.out, decide_eq_true h3, Bool.true_and])
      have ss := fun z : Wb V => And.intro (HSs.out z) (HCs.out z.v (HBx.out.trans (z.h.mono HBx.out.size)))
      clear h3 HGd
      go_wp2_with fail
      rw [HV.out]
      refine wp_region_wb (by kernel_rfl) (by kernel_rfl) ?_; (repeat ((with_reducible refine wpQuiet_step ?_); intro K hK; go_simp; (try (refine ite_neg_of (by simp [undef]) ?_)); first | (with_reducible refine hK _ ?_; clear hK K) | (apply Exists.intro; (with_reducible refine ⟨fun _ => ?_, hK _ ?_⟩); (fail); clear hK K))); (with_reducible refine wpQuiet_nil ?_); rintro w1 ⟨⟨_, hb1⟩, rfl⟩; (try dsimp only)
      clear ss
      have HB2 := Lib.hid (HBx.out.trans (hb1.mono HBx.out.size))
      have HA := Lib.hid (show InA w1 w1.heap.size Am q.may from by obtain ⟨_, _, e, _, _, h⟩ := (HY.out w1 HB2.out).2; cases e; exact h)
      obtain ⟨f0, f1⟩ := cells_two ((hb1.block _ (Array.getElem?_eq_some_iff.1 HNx.out).1).trans HNx.out)
      obtain ⟨⟨k0, k1⟩, k2, k3⟩ := HX.out w1 HB2.out
      clear hb1
      go_wp2_with fail
      go_loopw [43] (fun jv wq => ∃ j : Nat, jv = .int .i64 (j : Int) ∧ j ≤ ql ∧ w1 = wq ∧ ((q.may.take j).all (nextF i n nl)) = true) (fun jv _ => ql - (intOf jv).toNat)
      case atStart => exact ⟨0, rfl, by omega, rfl, rfl⟩
      case round =>
        obtain ⟨j, rfl, hjn, rfl, hg⟩ := hrel
        have HGj := Lib.hid hg
        clear hg
        by_cases hlt2 : j < ql
        · obtain ⟨t, ad2, ht, rfl, _, hct⟩ := HA.out.at_ HQl.out hlt2
          have HT := Lib.hid ht
          have HBad := Lib.hid (fun h : nextF i n nl t = false => show r = false from by rw [HR.out, all_false HQi.out.2 (by simp only; rw [HGd2.out]; exact all_false HT.out h), Bool.false_and])
          have HGood := Lib.hid (fun h : nextF i n nl t = true => show ((q.may.take (j + 1)).all (nextF i n nl)) = true from by rw [all_take HT.out, HGj.out]; exact h)
          clear ht
          by_cases g1 : t < 0
          · have g1' : ¬ (0 : Int) ≤ t := by omega
            by_cases g2 : t < -(nl : Int)
            · have HF := Lib.hid (HBad.out (by unfold nextF; simp; omega))
              clear HBad HGood
              go_wp2_with fail
              go_ret
              exact ⟨by rw [HF.out]; rfl, HB1.out.trans (HB2.out.mono HB1.out.size)⟩
            · have HF := Lib.hid (HGood.out (by unfold nextF; simp; omega))
              clear HBad HGood
              go_wp2_with fail
              go_roundw
              case rel => exact ⟨j + 1, by go_num, by omega, by first | trivial | rfl, HF.out⟩
              case measure => simp [intOf]; omega
          · have g1' : (0 : Int) ≤ t := by omega
            have g1n : ¬ t < -(nl : Int) := by omega
            by_cases g2 : t ≤ (i : Int)
            · have HF := Lib.hid (HBad.out (by unfold nextF; simp; omega))
              clear HBad HGood
              go_wp2_with fail
              go_ret
              exact ⟨by rw [HF.out]; rfl, HB1.out.trans (HB2.out.mono HB1.out.size)⟩
            by_cases g3 : (n : Int) ≤ t
            · have HF := Lib.hid (HBad.out (by unfold nextF; simp; omega))
              clear HBad HGood
              go_wp2_with fail
              go_ret
              exact ⟨by rw [HF.out]; rfl, HB1.out.trans (HB2.out.mono HB1.out.size)⟩
            · have HF := Lib.hid (HGood.out (by unfold nextF; simp; omega))
              clear HBad HGood
              go_wp2_with fail
              go_roundw
              case rel => exact ⟨j + 1, by go_num, by omega, by first | trivial | rfl, HF.out⟩
              case measure => simp [intOf]; omega
        · obtain rfl : ql = j := by omega
          have HF := Lib.hid (show ((k.nd.zipIdx.take (i + 1)).all fun p => nodeF m.st p.2 n nl p.1) = true from by rw [all_take HQi.out.2, HG.out, Bool.true_and]; simp only; rw [HGd2.out]; exact all_end HQl.out HGj.out)
          go_wp2_with fail
          go_roundw
          case rel => exact ⟨i + 1, by go_num, by omega, HB2.out, HF.out⟩
          case measure => simp [intOf]; omega
    · obtain rfl : n = i := by omega
      have HT := Lib.hid (show r = decide (n ≤ 1000) from by rw [HR.out, all_end (by rw [List.length_zipIdx, HN.out.1]) HG.out, Bool.true_and])
      obtain ⟨⟨k0, k1⟩, k2, k3⟩ := HX.out wr HB.out
      by_cases h2 : n ≤ 1000
      · have h2i : (n : Int) ≤ 1000 := by omega
        have HF := Lib.hid (show r = true from by rw [HT.out]; exact decide_eq_true h2)
        clear h2 HT
        go_wp2_with fail
        go_ret
        exact ⟨by rw [HF.out]; rfl, HB1.out.trans (HB.out.mono HB1.out.size)⟩
      · have h2i : ¬ (n : Int) ≤ 1000 := by omega
        have HF := Lib.hid (show r = false from by rw [HT.out]; exact decide_eq_false h2)
        clear h2 HT
        go_wp2_with fail
        go_ret
        exact ⟨by rw [HF.out]; rfl, HB1.out.trans (HB.out.mono HB1.out.size)⟩
end Go.Proofs.YthfegbcbpeedbaaGreatDoor
namespace Go.Ky
open Go.Nm
def orF (a b : Int) : Int := bits BinOp.or IntKind.u64 a b
def andF (a b : Int) : Int := bits BinOp.and IntKind.u64 a b
def askOne (r : Rw) (f : Int → Int) : Int := r.may.foldl (fun a x => orF a (f x)) 0
def askStep (i : Nat) (r : Rw) (s : (Int → Int) × Bool) : (Int → Int) × Bool :=
  if andF (askOne r s.1) (2 ^ r.nm.toNat) ≠ 0 then (s.1, true) else (fun k => if k = (i : Int) then orF (askOne r s.1) (2 ^ r.nm.toNat) else s.1 k, false)
/-- what is asked from a node on, from the last one back; and whether one was asked twice -/
def askM (nd : List Rw) : Nat → (Int → Int) × Bool
  | 0 => (fun _ => 0, false)
  | t + 1 => if (askM nd t).2 = true then askM nd t else askStep (nd.length - 1 - t) (nd.getD (nd.length - 1 - t) ⟨0, []⟩) (askM nd t)
def twiceF (nd : List Rw) : Bool := (askM nd nd.length).2
theorem ask_mono {nd : List Rw} {t : Nat} (h : (askM nd t).2 = true) : ∀ k, (askM nd (t + k)).2 = true
  | 0 => h
  | k + 1 => by
    have := ask_mono h k
    show (askM nd (t + k + 1)).2 = true
    unfold askM
    rw [if_pos this]
    exact this
theorem ask_next {nd : List Rw} {t i : Nat} {r : Rw} (h : (askM nd t).2 = false) (hi : i + t + 1 = nd.length) (hr : nd[i]? = some r) : askM nd (t + 1) = askStep i r (askM nd t) := by
  have e : nd.length - 1 - t = i := by omega
  conv => lhs; unfold askM
  rw [if_neg (by rw [h]; simp), e, List.getD_eq_getElem?_getD, hr]
  rfl
end Go.Ky
namespace Go.Proofs.YthfegbcbpeedbaaGreatDoor
open Go.RowKit Go.Nm Go.Ky Go.Maps

theorem arr40 {t : Array Value} (h : t.size = 40) : ∃ f : Nat → Value, t = #[f 0, f 1, f 2, f 3, f 4, f 5, f 6, f 7, f 8, f 9, f 10, f 11, f 12, f 13, f 14, f 15, f 16, f 17, f 18, f 19, f 20, f 21, f 22, f 23, f 24, f 25, f 26, f 27, f 28, f 29, f 30, f 31, f 32, f 33, f 34, f 35, f 36, f 37, f 38, f 39] := by
  refine ⟨fun k => t.getD k undef, ?_⟩
  apply Array.ext
  · simpa using h
  · intro i h1 h2
    have : i < 40 := by omega
    have hi : i = 0 ∨ i = 1 ∨ i = 2 ∨ i = 3 ∨ i = 4 ∨ i = 5 ∨ i = 6 ∨ i = 7 ∨ i = 8 ∨ i = 9 ∨ i = 10 ∨ i = 11 ∨ i = 12 ∨ i = 13 ∨ i = 14 ∨ i = 15 ∨ i = 16 ∨ i = 17 ∨ i = 18 ∨ i = 19 ∨ i = 20 ∨ i = 21 ∨ i = 22 ∨ i = 23 ∨ i = 24 ∨ i = 25 ∨ i = 26 ∨ i = 27 ∨ i = 28 ∨ i = 29 ∨ i = 30 ∨ i = 31 ∨ i = 32 ∨ i = 33 ∨ i = 34 ∨ i = 35 ∨ i = 36 ∨ i = 37 ∨ i = 38 ∨ i = 39 := by omega
    rcases hi with rfl | rfl | rfl | rfl | rfl | rfl | rfl | rfl | rfl | rfl | rfl | rfl | rfl | rfl | rfl | rfl | rfl | rfl | rfl | rfl | rfl | rfl | rfl | rfl | rfl | rfl | rfl | rfl | rfl | rfl | rfl | rfl | rfl | rfl | rfl | rfl | rfl | rfl | rfl | rfl <;> simp [Array.getD, h1]
section
variable {F : Fence} {nF : Nat} {ops : Array Oper} {rest : List Oper} {o : Oper} {a : Act} {Q : Exit → Act → World → Prop} {W w : World} {mb n : Nat} {f : Int → Int}
theorem wpListIn_lookup_mu (hg : o.guard = none) (m x : Operand) (hop : o.op = Op.lookup 121 m x false) (hM : MU W mb n f w) (hm : a.eval m = .map (some mb)) (z : Int) (hx : a.eval x = .int .i64 z) (hz : (Lit.int .i64 z).wf = true)
    (hK : wpListIn F nF Tryz.prog ops Q rest (a.put o.dst (.int .u64 (f z))) w) : wpListIn F nF Tryz.prog ops Q (o :: rest) a w := by
  obtain ⟨_, _, D, h1, h2⟩ := hM
  refine wpListIn_lookup_own_int w hg m x 121 hop 3 109 .u64 keyI Tryz.underlying121 Tryz.underlying109 (zeroU _) mb n D hm h1 _ _ hx (keyOf_int_mk Tryz.underlying3 hz) ?_
  intro c hat _
  have := (h2 z).symm.trans hat
  injection this with h; injection h with _ h
  rw [← h]; exact hK
theorem wpListIn_put_mu (hg : o.guard = none) (m x v : Operand) (hop : o.op = Op.mapUpdate 121 m x v) (hM : MU W mb n f w) (hn : n < maxLen) (hm : a.eval m = .map (some mb)) (z : Int) (hx : a.eval x = .int .i64 z) (hz : (Lit.int .i64 z).wf = true) (c : Int) (hv : a.eval v = .int .u64 c) (hc : (Lit.int .u64 c).wf = true)
    (hK : ∀ w', MU W mb (n + 1) (fun k => if k = z then c else f k) w' → w.grownBy w' (some mb) → wpListIn F nF Tryz.prog ops Q rest (a.put o.dst undef) w') : wpListIn F nF Tryz.prog ops Q (o :: rest) a w := by
  obtain ⟨hb, hw, D, h1, h2⟩ := hM
  refine wpListIn_mapUpdate_in w hg m x v 121 hop 3 109 keyI Tryz.underlying121 _ mb n D hm h1 hn _ _ _ hx hv (keyOf_int_mk Tryz.underlying3 hz) _ [] (plainElem_int Tryz.underlying109 hc) ?_
  intro w' h4 h5
  refine hK w' ⟨hb.grown h5.grown hb.size (fun k e => by cases e; exact hw), hw, _, h4, fun k => ?_⟩ h5.grown
  by_cases hk : k = z
  · subst hk; rw [atKey_put_same h1.isMap (isK _), if_pos rfl]
  · rw [atKey_put_other (ne_lit hk), h2, if_neg hk]
end
theorem abide_below {β : Type} {B : Nat} {J : β → World → Prop} (h : AbidesFrom B J) {s : β} {X X' : World} (hs : J s X) (hb : Below X.heap.size X X') : J s X' :=
  h s X X' none hs (grown_of_below hb none) (fun r e => by cases e)
abbrev Bx3 := Nat × Rw × Option Addr × Nat
def bxv (x : Bx3) : Array Value := #[.int .i64 (x.1 : Int), .agg #[.int .i64 x.2.1.nm, .slice x.2.2.1 x.2.1.may.length x.2.2.2]]
def BxOk (w : World) (nd : List Rw) (pre : List Bx3) (x : Bx3) : Prop := x.1 + pre.length + 1 = nd.length ∧ nd[x.1]? = some x.2.1 ∧ ∀ Y, Below w.heap.size w Y → InSl Y Y.heap.size (.slice x.2.2.1 x.2.1.may.length x.2.2.2) x.2.1.may
set_option maxRecDepth 100000 in
set_option maxHeartbeats 4000000 in
theorem back_iter (w : World) (B nn gb : Nat) (hnn : 1 ≤ nn) (nd : List Rw) (A : Option Addr) (n c : Nat) (hu : IlSl w w.heap.size (.slice A n c) nd) (hnd : nd.length = n) (hn : n ≤ 2000) (I : List Bx3 → Option Nat → World → Prop)
    (hI : ∀ pre ow X, I pre ow X → Below w.heap.size w X ∧ X.heap[gb]? = some (.cells #[.slice A n c] 26)) :
    IterG B Tryz.prog nn 71 #[.pointer (some ⟨gb, 0, none⟩)] bxv I (BxOk w nd) (fun xs => xs.length = n) (fun _ => True) := by
  intro l J Jx ow W hB hJ hJx hJI hY h0
  have HJ := Lib.hid hJ; have HJI := Lib.hid hJI; have HY := Lib.hid hY; have HI := Lib.hid hI; have H0 := Lib.hid h0; have HU := Lib.hid hu; have HN := Lib.hid hnd
  have k0 := cell_one (hI _ _ _ (hJI _ _ _ h0)).2
  have hw1 : IntKind.i64.wrap ((n : Int) - 1) = (n : Int) - 1 := by rw [IntKind.wrap_i64]; omega
  clear hJ hJI hY hI h0 hJx hu hnd
  refine callsIn_of_wp Tryz.func71 rfl trivial ?_ rfl
  simp only [Tryz.ntmps71, List.size_toArray, List.length_cons, List.length_nil, Nat.reduceAdd, Nat.reduceSub, Array.replicate_succ, Array.replicate_zero, List.push_toArray, List.append_toArray, List.nil_append, List.cons_append]
  gi_wp2_with fail
  gi_loopw [3] (fun kv wr => ∃ (i : Nat) (z : Int) (pre : List Bx3) (ow' : Option Nat), kv = .int .i64 z ∧ z = (i : Int) - 1 ∧ i + pre.length = n ∧ J pre ow' wr ∧ W.heap.size ≤ wr.heap.size) (fun kv _ => (intOf kv + 1).toNat)
  case atStart => exact ⟨n, _, [], ow, rfl, by first | rfl | exact hw1, by simp, H0.out, Nat.le_refl _⟩
  case round =>
    obtain ⟨i, z, pre, ow1, rfl, hz, hip, hj, hsz⟩ := hrel
    have HJ1 := Lib.hid hj
    clear hj k0 hw1
    have k0 := cell_one (HI.out _ _ _ (HJI.out _ _ _ HJ1.out)).2
    cases i with
    | zero =>
      have hz1 : ¬ (0 : Int) ≤ z := by omega
      clear hz
      have HF := Lib.hid (show pre.length = n from by omega)
      gi_wp2_with fail
      refine bodyPost_end (results_none rfl _ _ _) rfl ?_
      first
        | exact ⟨⟨_, rfl⟩, .inl ⟨_, HF.out, ow1, HJ1.out⟩⟩
        | exact ⟨⟨_, rfl⟩, .inl ⟨_, ow1, HF.out, HJ1.out⟩⟩
    | succ j =>
      obtain rfl : z = (j : Int) := by omega
      have hjn : j < n := by omega
      obtain ⟨r, ad, Am, cm, hr, rfl, hYr⟩ := HU.out.at_ hjn
      obtain ⟨⟨d0, d1⟩, _⟩ := hYr wr (HI.out _ _ _ (HJI.out _ _ _ HJ1.out)).1
      have hw2 : IntKind.i64.wrap ((j : Int) - 1) = (j : Int) - 1 := by rw [IntKind.wrap_i64]; omega
      have HP := Lib.hid (show BxOk w nd pre (j, r, Am, cm) from ⟨by rw [HN.out]; simp only; omega, hr, fun Y hb => (hYr Y hb).2⟩)
      obtain ⟨fn, tmps, assign, body, hy, hR⟩ := HY.out pre (j, r, Am, cm) ow1 _ HJ1.out HP.out
      have HR := Lib.hid hR
      unfold bxv at hy
      simp only at hy
      have hip2 : j + (pre ++ [((j, r, Am, cm) : Bx3)]).length = n := by rw [List.length_append, List.length_singleton]; omega
      have HL := Lib.hid hip2
      obtain ⟨rn, hrn⟩ : ∃ x, r.may.length = x := ⟨_, rfl⟩
      rw [hrn] at d1 hy
      clear hr hYr hR hip hip2 hrn hz
      gi_wp2_with fail
      refine HR.out.mono ?_
      rintro e W3 (⟨rfl, ow3, hj3, hgr, hka⟩ | ⟨rfl, hjx⟩)
      · have hs3 := hka.size
        have H3 := Lib.hid hj3
        clear hj3 hgr hka k0 d0 d1
        gi_wp2_with fail
        go_roundw
        case rel => exact ⟨j, _, _, ow3, rfl, by first | rfl | exact hw2, HL.out, H3.out, by omega⟩
        case measure => simp [intOf]; try omega
      · have HX3 := Lib.hid hjx
        clear hjx k0 d0 d1
        gi_wp2_with fail
        refine bodyPost_ret (results_none rfl _ _ _) rfl ?_
        first
          | exact ⟨⟨_, rfl⟩, .inr ⟨_, trivial, HX3.out⟩⟩
          | exact ⟨⟨_, rfl⟩, .inr ⟨_, HX3.out⟩⟩
structure AkI (w : World) (nd : List Rw) (A : Option Addr) (n c : Nat) (pre : List Bx3) (Y : World) : Prop where
  bel : Below w.heap.size w Y
  res : Y.heap[w.heap.size]? = some (.cells #[.bool false] 4)
  mu : MU w (w.heap.size + 1) pre.length (askM nd pre.length).1 Y
  mbx : Y.heap[w.heap.size + 2]? = some (.cells #[.map (some (w.heap.size + 1))] 121)
  bbx : Y.heap[w.heap.size + 3]? = some (.cells #[.slice A n c] 26)
  no : (askM nd pre.length).2 = false
theorem AkI.grown {w : World} {nd : List Rw} {A : Option Addr} {n c : Nat} {pre : List Bx3} {X Y : World} {row : Option Nat} (h : AkI w nd A n c pre X) (hg : X.grownBy Y row) (hr : ∀ r, row = some r → w.heap.size + 4 ≤ r) : AkI w nd A n c pre Y := by
  have hne : ∀ k, k < w.heap.size + 4 → some k ≠ row := fun k hk e => by have := hr k e.symm; omega
  exact ⟨h.bel.grown hg h.bel.size (fun r e => by have := hr r e; omega), (hg.block _ (Array.getElem?_eq_some_iff.1 h.res).1 (hne _ (by omega))).trans h.res, h.mu.kept hg (fun r e => by have := hr r e; omega),
    (hg.block _ (Array.getElem?_eq_some_iff.1 h.mbx).1 (hne _ (by omega))).trans h.mbx, (hg.block _ (Array.getElem?_eq_some_iff.1 h.bbx).1 (hne _ (by omega))).trans h.bbx, h.no⟩
def AkX (w : World) (nd : List Rw) (cd : Code) (Y : World) : Prop := cd = .ret ∧ Below w.heap.size w Y ∧ Y.heap[w.heap.size]? = some (.cells #[.bool true] 4) ∧ twiceF nd = true
end Go.Proofs.YthfegbcbpeedbaaGreatDoor
namespace Go.Proofs.YthfegbcbpeedbaaGreatDoor
open Go.RowKit Go.Nm Go.Ky Go.Maps Go.Shelf
attribute [local go_sem] Oper.semAt_some

set_option maxRecDepth 100000 in
set_option maxHeartbeats 4000000 in
theorem Backward_any (A : Option Addr) (n c : Nat) (w : World) :
    Calls Tryz.prog 38 #[.slice A n c] w fun e w' => e = .returned (.func (.func 71) #[] #[.pointer (some ⟨w.heap.size, 0, none⟩)]) ∧ w.alloc (.cells #[.slice A n c] 26) = w' := by
  go_enter Tryz.func38, Tryz.ntmps38
  go_wp2_with fail
  go_ret
  exact ⟨rfl, rfl⟩
theorem ak_start (w : World) (nd : List Rw) (A : Option Addr) (n c : Nat) (Y : World) (hY : (((w.alloc (.cells #[.bool false] 4)).alloc (.map #[] 0)).alloc (.cells #[.map (some (w.heap.size + 1))] 121)).alloc (.cells #[.slice A n c] 26) = Y) : AkI w nd A n c [] Y ∧ Y.heap.size = w.heap.size + 4 := by
  have n1 := World.alloc_heap_new w (.cells #[.bool false] 4)
  have b1 := below_new (w := w) (.cells #[.bool false] 4)
  obtain ⟨X1, hX1⟩ : ∃ X, w.alloc (.cells #[.bool false] 4) = X := ⟨_, rfl⟩
  have z1 : X1.heap.size = w.heap.size + 1 := by rw [← hX1]; simp
  rw [hX1] at n1 b1 hY
  have m2 := MU.made w X1 b1
  have b2 := below_new (w := X1) (.map #[] 0)
  obtain ⟨X2, hX2⟩ : ∃ X, X1.alloc (.map #[] 0) = X := ⟨_, rfl⟩
  have z2 : X2.heap.size = w.heap.size + 2 := by rw [← hX2]; simp [z1]
  rw [hX2] at m2 b2 hY
  rw [z1] at m2
  have n1 := (b2.block _ (by omega)).trans n1
  have n3 := World.alloc_heap_new X2 (.cells #[.map (some (w.heap.size + 1))] 121)
  have b3 := below_new (w := X2) (.cells #[.map (some (w.heap.size + 1))] 121)
  obtain ⟨X3, hX3⟩ : ∃ X, X2.alloc (.cells #[.map (some (w.heap.size + 1))] 121) = X := ⟨_, rfl⟩
  have z3 : X3.heap.size = w.heap.size + 3 := by rw [← hX3]; simp [z2]
  rw [hX3] at n3 b3 hY
  rw [z2] at n3
  have n1 := (b3.block _ (by omega)).trans n1
  have n4 := World.alloc_heap_new X3 (.cells #[.slice A n c] 26)
  have b4 := below_new (w := X3) (.cells #[.slice A n c] 26)
  rw [hY] at n4 b4
  rw [z3] at n4
  have z4 : Y.heap.size = w.heap.size + 4 := by rw [← hY]; simp [z3]
  have n1 := (b4.block _ (by omega)).trans n1
  have n3 := (b4.block _ (by omega)).trans n3
  have m4 := (m2.step b3).step b4
  exact ⟨⟨m4.bel, n1, m4, n3, n4, rfl⟩, z4⟩
theorem KA.of_grown {B k : Nat} {X Y : World} (hg : X.grownBy Y (some k)) (hk : k < B) : KA B none X Y :=
  ⟨hg.size, fun i o hB hi _ => (hg.block i (Array.getElem?_eq_some_iff.1 hi).1 (fun e => by injection e; omega)).trans hi⟩
theorem AkX.grown {w : World} {nd : List Rw} {cd : Code} {X Y : World} {row : Option Nat} (h : AkX w nd cd X) (hg : X.grownBy Y row) (hr : ∀ r, row = some r → w.heap.size + 4 ≤ r) : AkX w nd cd Y :=
  ⟨h.1, h.2.1.grown hg h.2.1.size (fun r e => by have := hr r e; omega), (hg.block _ (Array.getElem?_eq_some_iff.1 h.2.2.1).1 (fun e => by have := hr _ e.symm; omega)).trans h.2.2.1, h.2.2.2⟩
set_option maxRecDepth 100000 in
set_option maxHeartbeats 8000000 in
theorem asksTwice_any (u : Value) (nd : List Rw) (w : World) (hu : IlSl w w.heap.size u nd) (hn : nd.length ≤ 2000) (hc : ∀ r ∈ nd, 0 ≤ r.nm ∧ r.nm < 64) (hx : ∀ r ∈ nd, r.may.length ≤ 1000 ∧ ∀ x ∈ r.may, -2000 ≤ x ∧ x ≤ 2000) :
    Calls Tryz.prog 54 #[u] w fun e w' => e = .returned (.bool (twiceF nd)) ∧ Below w.heap.size w w' := by
  have HU := Lib.hid hu
  have HC := Lib.hid hc
  have HXr := Lib.hid hx
  obtain ⟨A, c, rfl⟩ := hu.form
  obtain ⟨n, h⟩ : ∃ n, nd.length = n := ⟨_, rfl⟩
  have HN := Lib.hid h
  rw [h] at HU hn ⊢
  have HO := Lib.hid (show (askM nd n).2 = twiceF nd from by unfold twiceF; rw [h])
  clear hu hc hx h
  have hmm := @run_makeMap Tryz.prog
  obtain ⟨nn, hnn⟩ : ∃ nn : Nat, 20 ≤ nn := ⟨20, by omega⟩
  refine (callsIn_wide (n := nn)).1 ?_
  refine callsIn_of_wp_marks Tryz.func54 rfl trivial ?_ rfl
  simp only [Tryz.ntmps54, List.size_toArray, List.length_cons, List.length_nil, Nat.reduceAdd, Nat.reduceSub, Array.replicate_succ, Array.replicate_zero, List.push_toArray, List.append_toArray, List.nil_append, List.cons_append]
  gi_wp2_with fail
  refine ⟨trivial, fun h => (by first | omega | cases h), (callsIn_wide.2 (Backward_any A n c _)).mono ?_⟩
  rintro e w2 ⟨rfl, hw2⟩
  obtain ⟨hI0, hz0⟩ := ak_start w nd A n c w2 hw2
  simp only [World.size_alloc]
  clear hw2 hmm
  gi_wp2_with fail
  refine wp_rangeG (by omega) (gf := 71) (lb := #[.pointer (some ⟨w.heap.size + 1 + 1 + 1, 0, none⟩)]) rfl (enters_of Tryz.func71 (by kernel_rfl) rfl) (encs := bxv) (fun _ => rfl)
    (fun pre ow Y => AkI w nd A n c pre Y ∧ pre.length ≤ n ∧ ow = none)
    (fun cd _ Y => AkX w nd cd Y)
    (fun ow pre P Q row h hg hr => ⟨h.1.grown hg (fun r e => by have := (hr r e).1; omega), h.2⟩)
    (fun cd pre P Q row h hg hr => AkX.grown h hg (fun r e => by have := (hr r e).1; omega))
    (fun pre ow P h k e => by rw [h.2.2] at e; cases e) none ⟨hI0, by simp, rfl⟩
    (back_iter w w2.heap.size (nn - 1) (w.heap.size + 3) (by omega) nd A n c HU.out HN.out hn _ (fun pre ow P h => ⟨h.1.bel, h.1.bbx⟩))
    (fun x a' P => ∃ Bx, w2.heap.size ≤ Bx ∧ P.heap[Bx]? = some (.cells #[.int .i64 x.2.1.nm, .slice x.2.2.1 x.2.1.may.length x.2.2.2] 55) ∧ a'.tmps.size = 40 ∧ a'.tmps.getD 2 undef = .pointer (some ⟨w.heap.size, 0, none⟩) ∧ a'.tmps.getD 3 undef = .pointer (some ⟨w.heap.size + 1 + 1, 0, none⟩) ∧ a'.tmps.getD 4 undef = .int .i64 (x.1 : Int) ∧ a'.tmps.getD 5 undef = .pointer (some ⟨Bx, 0, none⟩) ∧ a'.defers = [])
    (fun x a' _ P Q row h hg hr => by
      obtain ⟨Bx, k0, k1, k2⟩ := h
      refine ⟨Bx, k0, (hg.block _ (Array.getElem?_eq_some_iff.1 k1).1 (fun e => ?_)).trans k1, k2⟩
      obtain ⟨_, o, ho, hc⟩ := hr Bx e.symm
      rw [k1] at ho; cases ho; cases hc)
    ?assign ?body ?done ?stop
  case assign =>
    intro lr pre x ow P K' hI' hK'
    obtain ⟨i, r, Am, cm⟩ := x
    unfold bxv
    simp only
    gi_wp2_with fail
    exact hK' _ _ (.inr ⟨_, rfl⟩) ⟨P.heap.size, by have := (Array.getElem?_eq_some_iff.1 hI'.1.bbx).1; omega, World.alloc_heap_new P _, rfl, rfl, rfl, rfl, rfl, rfl⟩
  case body =>
    rintro lr pre x ow ⟨t, ds⟩ P hl ⟨rr, hrr⟩ ⟨hI, hpl, rfl⟩ ⟨Bx, hBx, hx, hsz, h2, h3, h4, h5, hd⟩ ⟨hpi, hpr, hpY⟩
    obtain ⟨i, r, Am, cm⟩ := x
    simp only at hpi hpr hpY hx h4
    obtain ⟨f', hf'⟩ := arr40 hsz
    subst hf'
    have h2' : f' 2 = .pointer (some ⟨w.heap.size, 0, none⟩) := h2
    have h3' : f' 3 = .pointer (some ⟨w.heap.size + 1 + 1, 0, none⟩) := h3
    have h4' : f' 4 = .int .i64 (i : Int) := h4
    have h5' : f' 5 = .pointer (some ⟨Bx, 0, none⟩) := h5
    have hd' : ds = [] := hd
    subst hd'
    rw [h2', h3', h4', h5']
    have hrm := List.mem_of_getElem? hpr
    obtain ⟨c0, hc0⟩ : ∃ c0 : Nat, r.nm = (c0 : Int) := ⟨r.nm.toNat, by have := HC.out r hrm; omega⟩
    have hc64 : c0 < 64 := by have := HC.out r hrm; omega
    obtain ⟨x0, x1⟩ := cells_two hx
    have m0 : P.cell? ⟨w.heap.size + 1 + 1, 0, none⟩ = some (.map (some (w.heap.size + 1))) := cell_one hI.mbx
    have r0 : P.cell? ⟨w.heap.size, 0, none⟩ = some (.bool false) := cell_one hI.res
    have rf : P.frozen? ⟨w.heap.size, 0, none⟩ = false := frozen_cells hI.res 0
    have HM := Lib.hid hI.mu
    have HA := Lib.hid (show InA P P.heap.size Am r.may from by obtain ⟨_, _, e, _, _, h⟩ := hpY P hI.bel; cases e; exact h)
    have HP := Lib.hid hI
    have HNx := Lib.hid (ask_next (i := i) (r := r) hI.no (by omega) hpr)
    have HMy := Lib.hid (HXr.out r hrm).2
    obtain ⟨q, hq⟩ : ∃ q, r.may.length = q := ⟨_, rfl⟩
    have HQ := Lib.hid hq
    have hq1 : q ≤ 1000 := by rw [← hq]; exact (HXr.out r hrm).1
    have hw : IntKind.u64.wrap ((2 : Int) ^ c0) = ((2 ^ c0 : Nat) : Int) := by
      rw [show ((2 : Int) ^ c0) = ((2 ^ c0 : Nat) : Int) from by simp]
      exact wrap_u64 (Nat.lt_of_lt_of_le (Nat.pow_lt_pow_right (by omega) hc64) (by decide))
    have e2 : (2 : Int) ^ r.nm.toNat = ((2 ^ c0 : Nat) : Int) := by rw [hc0, Int.toNat_natCast]; simp
    have HE := Lib.hid e2
    have hi1 : i < n := by have := HN.out; omega
    have HI1 := Lib.hid (show (pre ++ [((i, r, Am, cm) : Bx3)]).length = pre.length + 1 from by simp)
    have HPl := Lib.hid (show pre.length + 1 ≤ n from by have := HN.out; omega)
    rw [hc0] at x0
    rw [hq] at x1
    generalize hml : (2 ^ c0 : Nat) = own at *
    clear hml e2 h2 h3 h4 h5 hd h2' h3' h4' h5' hsz hx hI hpi hpr hpY hrm hq hc0 hBx
    obtain ⟨f, hf⟩ : ∃ f, (askM nd pre.length).1 = f := ⟨_, rfl⟩
    have HM2 := Lib.hid (show MU w (w.heap.size + 1) pre.length f P from by rw [← hf]; exact HM.out)
    have HN2 := Lib.hid (show askM nd (pre.length + 1) = (if andF (r.may.foldl (fun a x => orF a (f x)) 0) (own : Int) ≠ 0 then (f, true) else (fun k => if k = (i : Int) then orF (r.may.foldl (fun a x => orF a (f x)) 0) (own : Int) else f k, false)) from by
      rw [HNx.out]
      unfold askStep askOne
      rw [hf, HE.out])
    clear hf HM HNx HE
    gi_wp2_with fail
    clear hw
    gi_loopw [7, 21] (fun bv jv wq => ∃ (j : Nat) (acc : Int), jv = .int .i64 (j : Int) ∧ bv = .int .u64 acc ∧ j ≤ q ∧ P = wq ∧ (r.may.take j).foldl (fun a x => orF a (f x)) 0 = acc) (fun _ jv _ => q - (intOf jv).toNat)
    case atStart => exact ⟨0, 0, rfl, rfl, by omega, rfl, rfl⟩
    case round =>
      obtain ⟨j, acc, rfl, rfl, hjq, rfl, hacc⟩ := hrel
      have HAc := Lib.hid hacc
      clear hacc
      by_cases hlt : j < q
      · obtain ⟨x, ad, hx, rfl, _, hcx⟩ := HA.out.at_ HQ.out hlt
        have HX := Lib.hid (show (r.may.take (j + 1)).foldl (fun a x => orF a (f x)) 0 = bits BinOp.or IntKind.u64 acc (f x) from by rw [fold_next hx, HAc.out]; rfl)
        have HWf := Lib.hid (show (Lit.int .i64 x).wf = true from WalkArith.wf_i64 (by have := HMy.out x (List.mem_of_getElem? hx); omega))
        clear hx
        gi_wp2_with (gi_at_lookup; refine wpListIn_lookup_mu rfl _ _ rfl HM2.out rfl x rfl HWf.out ?_)
        go_roundw
        case rel => exact ⟨j + 1, _, by go_num, rfl, by omega, by first | trivial | rfl, HX.out⟩
        case measure => simp [intOf]; try omega
      · obtain rfl : q = j := by omega
        have HAl := Lib.hid (show r.may.foldl (fun a x => orF a (f x)) 0 = acc from by rw [← HAc.out, List.take_of_length_le (by have := HQ.out; omega)])
        obtain ⟨z, hz⟩ : ∃ z, bits BinOp.and IntKind.u64 acc (own : Int) = z := ⟨_, rfl⟩
        have HZ := Lib.hid hz
        by_cases h0 : z = 0
        · obtain ⟨cc, hcc⟩ : ∃ cc, bits BinOp.or IntKind.u64 acc (own : Int) = cc := ⟨_, rfl⟩
          have HCc := Lib.hid (show (Lit.int .u64 cc).wf = true from by rw [← hcc]; exact wf_bits _ _ _ _)
          have HN3 := Lib.hid (show askM nd (pre.length + 1) = (fun k => if k = (i : Int) then cc else f k, false) from by
            rw [HN2.out, if_neg (by rw [HAl.out]; show ¬ bits BinOp.and IntKind.u64 acc (own : Int) ≠ 0; rw [HZ.out, h0]; simp), HAl.out, ← hcc]; rfl)
          have HWi := Lib.hid (show (Lit.int .i64 (i : Int)).wf = true from WalkArith.wf_i64 (by omega))
          have HLn := Lib.hid (show pre.length < maxLen from by unfold maxLen; omega)
          gi_wp2_with (gi_at_mapUpdate; refine wpListIn_put_mu rfl _ _ _ rfl HM2.out HLn.out rfl (i : Int) rfl HWi.out cc rfl HCc.out ?_; intro w5 hM5 hg5; have HM5 := Lib.hid hM5; have HG5 := Lib.hid hg5; clear hM5 hg5)
          refine ⟨KA.of_grown HG5.out (by omega), none, ⟨⟨HM5.out.bel, ?_, ?_, ?_, ?_, ?_⟩, by rw [HI1.out]; exact HPl.out, rfl⟩, .inl rfl⟩
          · exact (HG5.out.block _ (Array.getElem?_eq_some_iff.1 HP.out.res).1 (by simp)).trans HP.out.res
          · rw [HI1.out, HN3.out]; exact HM5.out
          · exact (HG5.out.block _ (Array.getElem?_eq_some_iff.1 HP.out.mbx).1 (by simp)).trans HP.out.mbx
          · exact (HG5.out.block _ (Array.getElem?_eq_some_iff.1 HP.out.bbx).1 (by simp)).trans HP.out.bbx
          · rw [HI1.out, HN3.out]
        · have HT := Lib.hid (show twiceF nd = true from by
            have h1 : (askM nd (pre.length + 1)).2 = true := by
              rw [HN2.out, if_pos (by rw [HAl.out]; show bits BinOp.and IntKind.u64 acc (own : Int) ≠ 0; rw [HZ.out]; exact h0)]
            have h2 := ask_mono h1 (n - (pre.length + 1))
            rw [show pre.length + 1 + (n - (pre.length + 1)) = n from by have := HPl.out; omega] at h2
            rw [← HO.out]; exact h2)
          gi_wp2_with fail
          exact ⟨KA.of_grown (setCell_grown' P w.heap.size 0 (.bool true)) (by omega), rfl, HP.out.bel.setCell (Nat.le_refl _) _, heap_setCell_same P w.heap.size 0 _ _ (.bool true) HP.out.res, HT.out⟩
  case done =>
    rintro D xs ow P hD hxl ⟨hI, hlen, rfl⟩ hKd
    have hF : twiceF nd = false := by
      rw [← HO.out]
      have := hI.no
      rwa [show xs.length = n from hxl] at this
    have HF := Lib.hid hF
    clear hF
    have r0 : P.cell? ⟨w.heap.size, 0, none⟩ = some (.bool false) := cell_one hI.res
    have rf : P.frozen? ⟨w.heap.size, 0, none⟩ = false := frozen_cells hI.res 0
    obtain ⟨P2, hP2⟩ : ∃ P2, P.setCell ⟨w.heap.size, 0, none⟩ (.bool false) = P2 := ⟨_, rfl⟩
    have hres : P2.heap[w.heap.size]? = some (.cells #[.bool false] 4) := by rw [← hP2]; exact heap_setCell_same P w.heap.size 0 _ _ (.bool false) hI.res
    have hbel : Below w.heap.size w P2 := by rw [← hP2]; exact hI.bel.setCell (Nat.le_refl _) _
    have hKd2 : P2.heap[D]? = some (.deferred (some [])) := by rw [← hP2]; exact (heap_setCell_other P ⟨w.heap.size, 0, none⟩ D _ (fun e => by have e2 : D = w.heap.size := (by first | exact e | exact e.symm); omega)).trans hKd
    have HP2 := Lib.hid hP2
    have HH := Lib.hid (And.intro hbel (And.intro hKd2 (show w.heap.size ≤ D by omega)))
    have hcl : (P2.putObj D (.deferred none)).cell? ⟨w.heap.size, 0, none⟩ = some (.bool false) := (World.cell?_of_block (World.putObj_heap_other (by show w.heap.size ≠ D; omega))).trans (cell_one hres)
    clear hI hKd hP2 hres hbel hKd2
    gi_wp2_with fail
    rw [HP2.out]
    refine ⟨by simp, .inl ⟨_, _, rfl, run_takeDeferred HH.out.2.1, ?_⟩⟩
    refine ⟨.bool false, by simp [results, Tryz.results54, go_sem, hcl], by rw [HF.out], ?_⟩
    exact HH.out.1.grown (grownBy_putObj' P2 D (.deferred none)) HH.out.1.size (fun r e => by cases e; exact HH.out.2.2)
  case stop =>
    rintro D cd pre P hD hSp ⟨rfl, hb, hres, hT⟩ hKd
    have HT := Lib.hid hT
    have HH := Lib.hid (And.intro hb (And.intro hKd (show w.heap.size ≤ D by omega)))
    have hcl : (P.putObj D (.deferred none)).cell? ⟨w.heap.size, 0, none⟩ = some (.bool true) := (World.cell?_of_block (World.putObj_heap_other (by show w.heap.size ≠ D; omega))).trans (cell_one hres)
    clear hb hres hT hKd
    gi_wp2_with fail
    refine ⟨by simp, .inl ⟨_, _, rfl, run_takeDeferred HH.out.2.1, ?_⟩⟩
    refine ⟨.bool true, by simp [results, Tryz.results54, go_sem, hcl], by rw [HT.out], ?_⟩
    exact HH.out.1.grown (grownBy_putObj' P D (.deferred none)) HH.out.1.size (fun r e => by cases e; exact HH.out.2.2)
end Go.Proofs.YthfegbcbpeedbaaGreatDoor
namespace Go.Ky
open Go.Nm
def ckE (m : Mx) (k : Kx) : Int := if mxF m = true then (if (leavesF k.lv && (nodesF m.st k && !twiceF k.nd)) = true then 0 else 31) else 30
theorem next_ok {i n nl : Nat} {x : Int} (h : nextF i n nl x = true) : -(nl : Int) ≤ x ∧ x < n ∧ (0 ≤ x → (i : Int) < x) ∨ (-(nl : Int) ≤ x ∧ x < 0) := by
  unfold nextF at h
  simp at h
  by_cases h0 : 0 ≤ x
  · have h1 := h.1; left; omega
  · right; omega
/-- what the nodes of a key are good for -/
structure KOk (st : List Int) (k : Kx) : Prop where
  nd : ∀ (i : Nat) (r : Rw), k.nd[i]? = some r → 0 ≤ r.nm ∧ r.nm < st.length ∧ (r.may.length : Int) = st.getD r.nm.toNat 0 ∧ ∀ x ∈ r.may, -(k.lv.length : Int) ≤ x ∧ x < k.nd.length ∧ (0 ≤ x → (i : Int) < x)
  sv : ∀ (j : Nat) (n : Int), st[j]? = some n → 2 ≤ n ∧ n ≤ 16
  len : st.length ≤ 64
  nn : k.nd.length ≤ 1000
theorem nodes_all {st : List Int} {k : Kx} (h : nodesF st k = true) : k.nd.length ≤ 1000 ∧ ∀ (i : Nat) (r : Rw), k.nd[i]? = some r → 0 ≤ r.nm ∧ r.nm < st.length ∧ (r.may.length : Int) = st.getD r.nm.toNat 0 ∧ ∀ x ∈ r.may, -(k.lv.length : Int) ≤ x ∧ x < k.nd.length ∧ (0 ≤ x → (i : Int) < x) := by
  unfold nodesF at h
  rw [Bool.and_eq_true] at h
  refine ⟨of_decide_eq_true h.2, fun i r hr => ?_⟩
  have h2 := (List.all_eq_true.1 h.1) (r, i) (List.mem_of_getElem? (idx_get hr))
  unfold nodeF at h2
  simp only [Bool.and_eq_true, decide_eq_true_eq] at h2
  have hi := (List.getElem?_eq_some_iff.1 hr).1
  refine ⟨h2.1.1.1, h2.1.1.2, h2.1.2, fun x hx => ?_⟩
  rcases next_ok ((List.all_eq_true.1 h2.2) x hx) with h3 | h3
  · exact h3
  · exact ⟨h3.1, by omega, fun h => by omega⟩
theorem chr_ok {st : List Int} (h : chrF st = true) : 0 < st.length ∧ st.length ≤ 64 ∧ ∀ (j : Nat) (n : Int), st[j]? = some n → 2 ≤ n ∧ n ≤ 16 := by
  unfold chrF at h
  rw [Bool.and_eq_true] at h
  have h1 := of_decide_eq_true h.1
  exact ⟨h1.1, h1.2, fun j n hj => of_decide_eq_true ((List.all_eq_true.1 h.2) n (List.mem_of_getElem? hj))⟩
theorem ck_ok {m : Mx} {k : Kx} (h : ckE m k = 0) : mxF m = true ∧ leavesF k.lv = true ∧ KOk m.st k := by
  unfold ckE at h
  by_cases h1 : mxF m = true
  · rw [if_pos h1] at h
    by_cases h2 : (leavesF k.lv && (nodesF m.st k && !twiceF k.nd)) = true
    · simp only [Bool.and_eq_true] at h2
      have h3 := nodes_all h2.2.1
      unfold mxF at h1
      rw [Bool.and_eq_true] at h1
      have h4 := chr_ok h1.1
      exact ⟨by unfold mxF; rw [Bool.and_eq_true]; exact h1, h2.1, h3.2, h4.2.2, h4.2.1, h3.1⟩
    · rw [if_neg h2] at h; cases h
  · rw [if_neg h1] at h; cases h
end Go.Ky
namespace Go.Proofs.YthfegbcbpeedbaaGreatDoor
open Go.RowKit Go.Nm Go.Ky

set_option maxRecDepth 100000 in
set_option maxHeartbeats 4000000 in
theorem begin_any (u : Value) (k : Kx) (w : World) (hu : KyV w u k) (hk : KSm k) :
    Calls Tryz.prog 48 #[u] w fun e w' => e = .returned (.int .i64 (begF k)) ∧ Below w.heap.size w w' := by
  obtain ⟨A1, c1, A2, c2, W0, rfl, hW0, hb0, hK, hNd, hV, hX⟩ := ky_box hu
  have HB0 := Lib.hid hb0
  have HW0 := Lib.hid hW0
  obtain ⟨k0, k1⟩ := hX W0 (Below.refl _ _)
  obtain ⟨n, hn⟩ : ∃ n, k.nd.length = n := ⟨_, rfl⟩
  have hn1 : n ≤ 2000 := by have := hk.1; omega
  have HR := Lib.hid (show begF k = if n = 0 then -1 else 0 from by unfold begF; rw [hn])
  rw [HR.out]
  rw [hn] at k0 HW0 ⊢
  generalize k.lv.length = nl at *
  clear hu hW0 hb0 hK hNd hV hX hn hk
  by_cases h : n = 0
  · subst h
    go_enter Tryz.func48, Tryz.ntmps48
    go_wp2_with fail
    rw [HW0.out]
    (try go_wp2_with fail)
    go_ret
    exact ⟨rfl, HB0.out⟩
  · have hi : ((n : Int) == 0) = false := by simp; omega
    have hi2 : ¬ (n : Int) = 0 := by omega
    have HF := Lib.hid (show (if n = 0 then (-1 : Int) else 0) = 0 from if_neg h)
    clear h
    go_enter Tryz.func48, Tryz.ntmps48
    go_wp2_with fail
    rw [HW0.out]
    (try go_wp2_with fail)
    go_ret
    exact ⟨by first | rfl | rw [HF.out], HB0.out⟩
set_option maxRecDepth 100000 in
set_option maxHeartbeats 8000000 in
theorem CheckKey_any (v u : Value) (m : Mx) (k : Kx) (w : World) (hv : MxV w v m) (hs : MSm m) (hu : KyV w u k) (hk : KSm k) :
    Calls Tryz.prog 25 #[v, u] w fun e w' => e = .returned (.int .i64 (ckE m k)) ∧ Below w.heap.size w w' := by
  obtain ⟨A1, c1, A2, c2, W0, rfl, hW0, hb0, hM, hS, hR, hX⟩ := mx_box hv
  have hz : W0.heap.size = w.heap.size + 1 := by rw [← hW0]; simp
  obtain ⟨B1, d1, B2, d2, W1, rfl, hW1, hb1, hK, hNd, hV, hX1⟩ := ky_box (hu.step hb0)
  rw [hz] at hX1
  have HW := Lib.hid (And.intro hW0 hW1)
  have HB1 := Lib.hid (hb0.trans (hb1.mono hb0.size))
  have HX := Lib.hid (fun Y (h : Below W1.heap.size W1 Y) => And.intro (hX Y (hb1.trans (h.mono hb1.size))) (hX1 Y h))
  have HC := Lib.hid (CheckMatrix_any _ m W1 (hM W1 hb1) hs)
  have HAl := Lib.hid (fun Y (h : Below W1.heap.size W1 Y) => areLeaves_any _ k.lv Y (hV Y h) (fun L hL => by have := hk.2.2.2 L hL; omega) (by have := hk.2.1; omega))
  have HAn := Lib.hid (fun Y (h : Below W1.heap.size W1 Y) => areNodes_any _ _ m k Y (hM Y (hb1.trans (h.mono hb1.size))) (hK Y h) hs.1 hk)
  have HAt := Lib.hid (fun (hm : chrF m.st = true) (hl : leavesF k.lv = true) (hn : nodesF m.st k = true) Y (h : Below W1.heap.size W1 Y) => asksTwice_any _ k.nd Y (hNd Y h) hk.1 (fun r hr => by
    obtain ⟨i, hi, e⟩ := List.getElem_of_mem hr
    have h1 := (nodes_all hn).2 i r (by rw [← e]; exact List.getElem?_eq_getElem hi)
    have h2 := chr_ok hm
    omega) (fun r hr => by
    obtain ⟨i, hi, e⟩ := List.getElem_of_mem hr
    have h0 := nodes_all hn
    have h1 := h0.2 i r (by rw [← e]; exact List.getElem?_eq_getElem hi)
    have h3 := hk.2.1
    exact ⟨hk.2.2.1 r hr, fun x hx => by have := h1.2.2.2 x hx; omega⟩))
  have HE := Lib.hid (show ckE m k = (if mxF m = true then (if (leavesF k.lv && (nodesF m.st k && !twiceF k.nd)) = true then 0 else 31) else 30) ∧ cmE m = (if mxF m = true then 0 else 30) ∧ (mxF m = true → chrF m.st = true) from ⟨rfl, rfl, fun h => by unfold mxF at h; rw [Bool.and_eq_true] at h; exact h.1⟩)
  obtain ⟨er, her⟩ : ∃ er, ckE m k = er := ⟨_, rfl⟩
  obtain ⟨b0, hb0'⟩ : ∃ b, mxF m = b := ⟨_, rfl⟩
  obtain ⟨b1, hb1'⟩ : ∃ b, leavesF k.lv = b := ⟨_, rfl⟩
  obtain ⟨b2, hb2'⟩ : ∃ b, nodesF m.st k = b := ⟨_, rfl⟩
  obtain ⟨b3, hb3'⟩ : ∃ b, twiceF k.nd = b := ⟨_, rfl⟩
  rw [her, hb0', hb1', hb2', hb3'] at HE
  rw [hb1'] at HAl
  rw [hb2'] at HAn
  rw [hb1', hb2', hb3'] at HAt
  rw [HE.out.2.1] at HC
  rw [her]
  obtain ⟨⟨k0, k1⟩, k2, k3⟩ := HX.out W1 (Below.refl _ _)
  generalize k.nd.length = n at *
  generalize k.lv.length = nl at *
  generalize m.st.length = ns at *
  generalize m.rows.length = nr at *
  clear hv hu hs hk hW0 hb0 hM hS hR hX hz hW1 hb1 hK hNd hV hX1 her hb0' hb1' hb2' hb3'
  cases b0 with
  | false =>
    have HF := Lib.hid (show er = 30 from by rw [HE.out.1]; simp)
    simp only [Bool.false_eq_true, if_false] at HC
    clear HAl HAn HAt HE
    go_enter Tryz.func25, Tryz.ntmps25
    go_wp2_with fail
    rw [HW.out.1, HW.out.2]
    (try go_wp2_with fail)
    (with_reducible refine HC.out.mono ?_)
    rintro e w1 ⟨rfl, hb⟩
    have HB2 := Lib.hid hb
    clear hb
    go_wp2_with fail
    go_ret
    exact ⟨by rw [HF.out]; rfl, HB1.out.trans (HB2.out.mono HB1.out.size)⟩
  | true =>
    simp only [if_true] at HC
    have HE2 := Lib.hid (show er = (if (b1 && (b2 && !b3)) = true then 0 else 31) ∧ chrF m.st = true from ⟨by rw [HE.out.1]; simp, HE.out.2.2 rfl⟩)
    clear HE
    go_enter Tryz.func25, Tryz.ntmps25
    go_wp2_with fail
    rw [HW.out.1, HW.out.2]
    (try go_wp2_with fail)
    (with_reducible refine HC.out.mono ?_)
    rintro e w1 ⟨rfl, hb⟩
    have HB2 := Lib.hid hb
    have HAl1 := Lib.hid (HAl.out w1 hb)
    clear k0 k1 k2 k3
    obtain ⟨⟨k0, k1⟩, k2, k3⟩ := HX.out w1 hb
    clear hb HAl
    go_wp2_with fail
    (with_reducible refine HAl1.out.mono ?_)
    rintro e w2 ⟨rfl, rfl⟩
    cases b1 with
    | false =>
      have HF := Lib.hid (show er = 31 from by rw [HE2.out.1]; simp)
      go_wp2_with fail
      go_ret
      exact ⟨by rw [HF.out]; rfl, HB1.out.trans (HB2.out.mono HB1.out.size)⟩
    | true =>
      have HAn1 := Lib.hid (HAn.out w1 HB2.out)
      go_wp2_with fail
      (with_reducible refine HAn1.out.mono ?_)
      rintro e w3 ⟨rfl, hb⟩
      have HB3 := Lib.hid (HB2.out.trans (hb.mono HB2.out.size))
      clear hb k0 k1 k2 k3 HAn HAn1
      obtain ⟨⟨k0, k1⟩, k2, k3⟩ := HX.out w3 HB3.out
      cases b2 with
      | false =>
        have HF := Lib.hid (show er = 31 from by rw [HE2.out.1]; simp)
        go_wp2_with fail
        go_ret
        exact ⟨by rw [HF.out]; rfl, HB1.out.trans (HB3.out.mono HB1.out.size)⟩
      | true =>
        have HAt1 := Lib.hid (HAt.out HE2.out.2 (by trivial) (by trivial) w3 HB3.out)
        clear HAt
        go_wp2_with fail
        (with_reducible refine HAt1.out.mono ?_)
        rintro e w4 ⟨rfl, hb⟩
        have HB4 := Lib.hid (HB3.out.trans (hb.mono HB3.out.size))
        clear hb k0 k1 k2 k3
        cases b3 with
        | true =>
          have HF := Lib.hid (show er = 31 from by rw [HE2.out.1]; simp)
          go_wp2_with fail
          go_ret
          exact ⟨by rw [HF.out]; rfl, HB1.out.trans (HB4.out.mono HB1.out.size)⟩
        | false =>
          have HF := Lib.hid (show er = 0 from by rw [HE2.out.1]; simp)
          go_wp2_with fail
          go_ret
          exact ⟨by rw [HF.out]; rfl, HB1.out.trans (HB4.out.mono HB1.out.size)⟩
end Go.Proofs.YthfegbcbpeedbaaGreatDoor
namespace Go.Proofs.YthfegbcbpeedbaaGreatDoor
open Go.RowKit Go.Nm Go.Ky Go.Maps

theorem VsA.snoc {w : World} {B : Nat} {vals : List Value} {LL : List (List Int)} {u : Value} {R : List Int} (h : VsA w B vals LL) (hr : InSl w B u R) : VsA w B (vals ++ [u]) (LL ++ [R]) := by
  refine ⟨by simp [h.1], fun i v L h1 h2 => ?_⟩
  by_cases hi : i < vals.length
  · rw [List.getElem?_append_left hi] at h1
    rw [List.getElem?_append_left (by rw [← h.1]; exact hi)] at h2
    exact h.2 i v L h1 h2
  · rw [List.getElem?_append_right (by omega)] at h1
    rw [List.getElem?_append_right (by rw [← h.1]; omega)] at h2
    have e1 : i - vals.length = 0 := by have := (List.getElem?_eq_some_iff.1 h1).1; simp at this; omega
    rw [e1] at h1
    rw [← h.1, e1] at h2
    simp at h1 h2
    subst h1; subst h2
    exact hr
/-- vs is a row of the call's own, with these lists, which were there at W -/
structure LvI (W : World) (LL : List (List Int)) (vals : List Value) (vs : Value) (X : World) : Prop where
  bel : Below W.heap.size W X
  own : X.ownsRow W.heap.size 22 1 vs LL.length vals
  ele : VsA W W.heap.size vals LL
section
variable {W : World} {LL : List (List Int)} {vals : List Value} {vs : Value} {X Y : World}
theorem LvI.kept {row : Option Nat} (h : LvI W LL vals vs X) (hg : X.grownBy Y row) (hr : ∀ r, row = some r → W.heap.size ≤ r ∧ vs.ownBlock ≠ some r) : LvI W LL vals vs Y := by
  refine ⟨h.bel.grown hg h.bel.size (fun r e => (hr r e).1), h.own.kept hg ?_, h.ele⟩
  cases hv : vs.ownBlock with
  | none => exact .inl rfl
  | some g => exact .inr (fun e => (hr g e.symm).2 hv)
theorem LvI.step (h : LvI W LL vals vs X) (hb : Below X.heap.size X Y) : LvI W LL vals vs Y := h.kept (grown_of_below hb none) (fun _ e => nomatch e)
theorem LvI.start (W X : World) (hb : Below W.heap.size W X) : LvI W [] [] (.slice none 0 0) X := ⟨hb, World.ownsRow_nil _ _ _ _, rfl, fun i v L h => by simp at h⟩
theorem LvI.sl (h : LvI W LL vals vs X) : VsSl X X.heap.size vs LL := by
  have he := (h.ele.below h.bel).mono h.bel.size
  rcases h.own.2 with ⟨e, h0⟩ | ⟨g, cap, cur, e, hb, hg, h1, h2, h3, h4⟩
  · have hl := List.length_eq_zero_iff.1 h0
    subst hl
    have hv : vals = [] := List.length_eq_zero_iff.1 (by rw [h.ele.1]; rfl)
    subst hv
    exact ⟨none, 0, [], by rw [e]; rfl, he, fun i u hu => by simp at hu⟩
  · refine ⟨_, _, vals, e, he, fun i u hu => ⟨_, rfl, (Array.getElem?_eq_some_iff.1 hg).1, ?_⟩⟩
    exact h.own.cells (g := g) (by rw [e]; rfl) i u hu
theorem LvI.slice (h : LvI W LL vals vs X) : ∃ A n c, vs = .slice A n c := by
  obtain ⟨A, c, e⟩ := h.sl.form
  exact ⟨A, _, c, e⟩
theorem wpList_app_lv {ops : Array Oper} {rest : List Oper} {o : Oper} {a : Act} {Q : Exit → Act → World → Prop} {w : World} (hgd : o.guard = none) (s x : Operand) (ho : o.op = .call { callee := .builtin .append, args := #[s, x], argTypes := #[27, 27] })
    {r : Value} {R : List Int} (hs : a.eval s = vs) (h : LvI W LL vals vs w) (g : Nat) (hx : a.eval x = .slice (some ⟨g, 0, none⟩) 1 1) (hc : w.heap[g]? = some (.cells #[r] 22)) (h1 : r.oneCell' = true) (hr : InSl W W.heap.size r R) (hn : LL.length ≤ 100000)
    (hK : ∀ v' w', LvI W (LL ++ [R]) (vals ++ [r]) v' w' → w.grownBy w' vs.ownBlock → (v'.ownBlock = vs.ownBlock ∨ v'.ownBlock = some w.heap.size) → wpList Tryz.prog ops Q rest (a.put o.dst v') w') : wpList Tryz.prog ops Q (o :: rest) a w := by
  refine wpList_plain hgd fun _ hK2 => ?_
  obtain ⟨i0, hi0, hz0, hz1, hz2⟩ := infoS
  obtain ⟨v', w', hr', h2, h3, _, h5⟩ := run_append_own_at (P := Tryz.prog) (w := w) W.heap.size 27 o.type 22 i0 (.slice none 0 0) 1 24 Tryz.underlying27 hi0 hz0 hz1 hz2 rfl (by decide) vs LL.length vals h.own ⟨g, 0, none⟩ 1 1 [r] rfl
    (fun j u hj => by
      rw [add_zero_k]
      simpa [World.cell?, hc] using hj) (fun u hu => by simp at hu; subst hu; exact h1) (by unfold maxLen; omega) (by omega) h.bel.size
  unfold Oper.wp execOp
  simp only [ho, resolve, invoke, builtin, Sem.run_bind, Sem.run_pure, Result.andThen_ok, List.map_toArray, List.map_cons, List.map_nil, hs, hx, hr']
  exact hK2 _ _ (hK v' w' ⟨h.bel.grown h3 h.bel.size fun q e => (h.own.lt q e).1, by rw [List.length_append]; exact h2, h.ele.snoc hr⟩ h3 h5)
end
theorem KA.of_row {T : Nat} {rb row : Option Nat} {X Y : World} (hg : X.grownBy Y row) (h : ∀ r, row = some r → r < T ∨ some r = rb) : KA T rb X Y :=
  ⟨hg.size, fun i o hB hi hne => (hg.block i (Array.getElem?_eq_some_iff.1 hi).1 (fun e => by
    rcases h i e.symm with h | h
    · omega
    · exact hne h)).trans hi⟩
theorem KA.trans2 {T : Nat} {rb rb' : Option Nat} {X Y Z : World} (h : KA T rb X Y) (hg : Grows rb rb' X) (k : KA T rb' Y Z) : KA T rb X Z :=
  ⟨Nat.le_trans h.size k.size, fun i o hB hi hne => k.same i o hB (h.same i o hB hi hne) (fun e => by
    rcases hg with hg | ⟨q, hq, hs⟩
    · rw [hg] at e; exact hne e
    · rw [hq] at e; injection e with e; have := (Array.getElem?_eq_some_iff.1 hi).1; omega)⟩
theorem Grows.trans2 {rb rb' rb'' : Option Nat} {X Y : World} (h : Grows rb rb' X) (hs : X.heap.size ≤ Y.heap.size) (k : Grows rb' rb'' Y) : Grows rb rb'' X := by
  rcases k with k | ⟨q, hq, hqs⟩
  · rw [k]; exact h
  · exact .inr ⟨q, hq, Nat.le_trans hs hqs⟩
/-- the blocks of reached -/
structure WkB (W : World) (T gk gs gl mb gb gw : Nat) : Prop where
  lo : W.heap.size ≤ gk ∧ W.heap.size ≤ gs ∧ W.heap.size ≤ gl ∧ W.heap.size ≤ mb ∧ W.heap.size ≤ gb ∧ W.heap.size ≤ gw
  hi : gk < T ∧ gs < T ∧ gl < T ∧ mb < T ∧ gb < T ∧ gw < T
  nl : gk ≠ gl ∧ gs ≠ gl ∧ gb ≠ gl ∧ gw ≠ gl ∧ mb ≠ gl
  nm : gk ≠ mb ∧ gs ≠ mb ∧ gb ≠ mb ∧ gw ≠ mb
structure WkS (W : World) (T gk gs gl mb gb gw : Nat) (k : Kx) (kv1 kv2 sv : Value) (B : List Int) (LL : List (List Int)) (rb : Option Nat) (X : World) : Prop where
  kb : X.heap[gk]? = some (.cells #[kv1, kv2] 29)
  sb : X.heap[gs]? = some (.cells #[sv] 22)
  lb : ∃ vals vs, X.heap[gl]? = some (.cells #[vs] 27) ∧ LvI W LL vals vs X ∧ vs.ownBlock = rb ∧ ∀ g, rb = some g → T ≤ g
  mp : MB W mb B.length B X
  bb : X.heap[gb]? = some (.cells #[.map (some mb)] 123)
  wb : X.heap[gw]? = some (.cells #[.func (.func 87) #[] #[.pointer (some ⟨gb, 0, none⟩), .pointer (some ⟨gl, 0, none⟩), .pointer (some ⟨gk, 0, none⟩), .pointer (some ⟨gs, 0, none⟩), .pointer (some ⟨gw, 0, none⟩)]] 124)
  ndp : B.Nodup
  rg : ∀ z ∈ B, -(k.lv.length : Int) ≤ z ∧ z < k.nd.length
  top : T ≤ X.heap.size
section
variable {W : World} {T gk gs gl mb gb gw : Nat} {k : Kx} {kv1 kv2 sv : Value} {B : List Int} {LL : List (List Int)} {rb : Option Nat} {X Y : World}
theorem WkS.step (h : WkS W T gk gs gl mb gb gw k kv1 kv2 sv B LL rb X) (hb : Below X.heap.size X Y) : WkS W T gk gs gl mb gb gw k kv1 kv2 sv B LL rb Y := by
  obtain ⟨vals, vs, l1, l2, l3⟩ := h.lb
  exact ⟨(hb.block _ (Array.getElem?_eq_some_iff.1 h.kb).1).trans h.kb, (hb.block _ (Array.getElem?_eq_some_iff.1 h.sb).1).trans h.sb, ⟨vals, vs, (hb.block _ (Array.getElem?_eq_some_iff.1 l1).1).trans l1, l2.step hb, l3⟩, h.mp.step hb,
    (hb.block _ (Array.getElem?_eq_some_iff.1 h.bb).1).trans h.bb, (hb.block _ (Array.getElem?_eq_some_iff.1 h.wb).1).trans h.wb, h.ndp, h.rg, Nat.le_trans h.top hb.size⟩
theorem WkS.bel (h : WkS W T gk gs gl mb gb gw k kv1 kv2 sv B LL rb X) : Below W.heap.size W X := h.mp.bel
theorem WkS.rbt (h : WkS W T gk gs gl mb gb gw k kv1 kv2 sv B LL rb X) {g : Nat} (e : rb = some g) : T ≤ g ∧ g < X.heap.size := by
  obtain ⟨vals, vs, l1, l2, l3, l4⟩ := h.lb
  exact ⟨l4 g e, (l2.own.lt g (l3.trans e)).2⟩
theorem WkS.put (hG : WkB W T gk gs gl mb gb gw) (h : WkS W T gk gs gl mb gb gw k kv1 kv2 sv B LL rb X) {a : Int} (ha : a ∉ B) (hr : -(k.lv.length : Int) ≤ a ∧ a < k.nd.length) (hM : MB W mb (B.length + 1) (B ++ [a]) Y) (hg : X.grownBy Y (some mb)) : WkS W T gk gs gl mb gb gw k kv1 kv2 sv (B ++ [a]) LL rb Y := by
  obtain ⟨vals, vs, l1, l2, l3, l4⟩ := h.lb
  have hne : ∀ {i : Nat}, i ≠ mb → some i ≠ some mb := fun h e => h (by injection e)
  refine ⟨(hg.block _ (Array.getElem?_eq_some_iff.1 h.kb).1 (hne hG.nm.1)).trans h.kb, (hg.block _ (Array.getElem?_eq_some_iff.1 h.sb).1 (hne hG.nm.2.1)).trans h.sb,
    ⟨vals, vs, (hg.block _ (Array.getElem?_eq_some_iff.1 l1).1 (hne (Ne.symm hG.nl.2.2.2.2))).trans l1, l2.kept hg (fun r e => by cases e; exact ⟨hG.lo.2.2.2.1, fun e2 => by have := l4 _ (l3.symm.trans e2); have := hG.hi.2.2.2.1; omega⟩), l3, l4⟩,
    by rw [List.length_append]; exact hM, (hg.block _ (Array.getElem?_eq_some_iff.1 h.bb).1 (hne hG.nm.2.2.1)).trans h.bb, (hg.block _ (Array.getElem?_eq_some_iff.1 h.wb).1 (hne hG.nm.2.2.2)).trans h.wb, ?_, ?_, Nat.le_trans h.top hg.size⟩
  · rw [List.nodup_append]
    exact ⟨h.ndp, by simp, fun x hx y hy e => by simp at hy; subst hy; subst e; exact ha hx⟩
  · intro z hz
    rcases List.mem_append.1 hz with hz | hz
    · exact h.rg z hz
    · simp at hz; subst hz; exact hr
theorem WkS.leaf (hG : WkB W T gk gs gl mb gb gw) (h : WkS W T gk gs gl mb gb gw k kv1 kv2 sv B LL rb X) {vals : List Value} {vs v' u : Value} {R : List Int} (hl : X.heap[gl]? = some (.cells #[vs] 27)) (hrb : vs.ownBlock = rb) (hL : LvI W (LL ++ [R]) (vals ++ [u]) v' Y) (hg : X.grownBy Y vs.ownBlock) (hob : v'.ownBlock = vs.ownBlock ∨ ∃ q, v'.ownBlock = some q ∧ X.heap.size ≤ q) :
    Y.heap[gl]? = some (.cells #[vs] 27) ∧ WkS W T gk gs gl mb gb gw k kv1 kv2 sv B (LL ++ [R]) v'.ownBlock (Y.setCell ⟨gl, 0, none⟩ v') ∧ Grows rb v'.ownBlock X ∧ KA T rb X (Y.setCell ⟨gl, 0, none⟩ v') := by
  have hne : ∀ {i : Nat}, i < T → some i ≠ vs.ownBlock := fun h2 e => by
    have := (h.rbt (g := _) (hrb.symm.trans e.symm)).1; omega
  have hne2 : ∀ {i : Nat}, i ≠ gl → some i ≠ some gl := fun h e => h (by injection e)
  have hs := setCell_grown' Y gl 0 v'
  have keep : ∀ {i : Nat} {o : Obj}, i < T → i ≠ gl → X.heap[i]? = some o → (Y.setCell ⟨gl, 0, none⟩ v').heap[i]? = some o := fun h1 h2 h3 => by
    have h4 := (hg.block _ (Array.getElem?_eq_some_iff.1 h3).1 (hne h1)).trans h3
    exact (hs.block _ (Array.getElem?_eq_some_iff.1 h4).1 (hne2 h2)).trans h4
  have hYl := (hg.block _ (Array.getElem?_eq_some_iff.1 hl).1 (hne hG.hi.2.2.1)).trans hl
  have hv' : ∀ g, v'.ownBlock = some g → T ≤ g := fun g e => by
    rcases hob with h1 | ⟨q, h1, h2⟩
    · exact (h.rbt (hrb.symm.trans (h1.symm.trans e))).1
    · rw [h1] at e; injection e with e; have := h.top; omega
  refine ⟨hYl, ⟨keep hG.hi.1 hG.nl.1 h.kb, keep hG.hi.2.1 hG.nl.2.1 h.sb, ⟨_, v', heap_setCell_same Y gl 0 _ _ v' hYl, hL.kept hs (fun r e => by cases e; exact ⟨hG.lo.2.2.1, fun e2 => by have := hv' _ e2; have := hG.hi.2.2.1; omega⟩), rfl, hv'⟩, ?_, keep hG.hi.2.2.2.2.1 hG.nl.2.2.1 h.bb, keep hG.hi.2.2.2.2.2 hG.nl.2.2.2.1 h.wb, h.ndp, h.rg, Nat.le_trans h.top (Nat.le_trans hg.size hs.size)⟩, ?_, ?_⟩
  · refine (h.mp.kept hg (fun r e => ?_)).kept hs (fun r e => ?_)
    · have := h.rbt (hrb.symm.trans e)
      have := hG.hi.2.2.2.1
      have := hG.lo.2.2.2.1
      exact ⟨by omega, by omega⟩
    · cases e; exact ⟨hG.lo.2.2.1, Ne.symm hG.nl.2.2.2.2⟩
  · rcases hob with h1 | ⟨q, h1, h2⟩
    · exact .inl (h1.trans hrb)
    · exact .inr ⟨q, h1, h2⟩
  · exact (KA.of_row hg (fun r e => .inr (e.symm.trans hrb))).trans (KA.of_row hs (fun r e => by cases e; exact .inl hG.hi.2.2.1))
end
end Go.Proofs.YthfegbcbpeedbaaGreatDoor
namespace Go.Proofs.YthfegbcbpeedbaaGreatDoor
open Go.RowKit Go.Nm Go.Ky Go.Maps

structure RcI (V : World) (vs p1 v2 va vj p5 u : Value) (S : Value → World → Prop) (R : World → Prop) (dn : Nat → Bool) (val : Nat → Value) (X : World) : Prop where
  s0 : dn 0 = true → val 0 = vs
  s1 : dn 1 = true → val 1 = p1
  s2 : dn 2 = true → val 2 = v2
  s3 : dn 3 = true → val 3 = va
  s4 : dn 4 = true → val 4 = vj
  s5 : dn 5 = true → val 5 = p5
  s6 : dn 6 = true → val 6 = u
  bel : dn 8 = false → Below V.heap.size V X
  e7 : dn 7 = true → dn 8 = false → ∃ g, val 7 = .slice (some ⟨g, 0, none⟩) 1 1 ∧ X.heap[g]? = some (.cells #[u] 22)
  e8 : dn 8 = true → dn 9 = false → S (val 8) X
  e9 : dn 9 = true → R X
section
variable {V : World} {vs p1 v2 va vj p5 u : Value} {S : Value → World → Prop} {R : World → Prop} {dn : Nat → Bool} {val : Nat → Value} {X Y : World}
theorem RcI.op0 (h : RcI V vs p1 v2 va vj p5 u S R dn val X) : RcI V vs p1 v2 va vj p5 u S R (andB dn 0) (updV val 0 (vs)) X :=
  ⟨(fun _ => rfl), h.s1, h.s2, h.s3, h.s4, h.s5, h.s6, h.bel, h.e7, h.e8, h.e9⟩
theorem RcI.op1 (h : RcI V vs p1 v2 va vj p5 u S R dn val X) : RcI V vs p1 v2 va vj p5 u S R (andB dn 1) (updV val 1 (p1)) X :=
  ⟨h.s0, (fun _ => rfl), h.s2, h.s3, h.s4, h.s5, h.s6, h.bel, h.e7, h.e8, h.e9⟩
theorem RcI.op2 (h : RcI V vs p1 v2 va vj p5 u S R dn val X) : RcI V vs p1 v2 va vj p5 u S R (andB dn 2) (updV val 2 (v2)) X :=
  ⟨h.s0, h.s1, (fun _ => rfl), h.s3, h.s4, h.s5, h.s6, h.bel, h.e7, h.e8, h.e9⟩
theorem RcI.op3 (h : RcI V vs p1 v2 va vj p5 u S R dn val X) : RcI V vs p1 v2 va vj p5 u S R (andB dn 3) (updV val 3 (va)) X :=
  ⟨h.s0, h.s1, h.s2, (fun _ => rfl), h.s4, h.s5, h.s6, h.bel, h.e7, h.e8, h.e9⟩
theorem RcI.op4 (h : RcI V vs p1 v2 va vj p5 u S R dn val X) : RcI V vs p1 v2 va vj p5 u S R (andB dn 4) (updV val 4 (vj)) X :=
  ⟨h.s0, h.s1, h.s2, h.s3, (fun _ => rfl), h.s5, h.s6, h.bel, h.e7, h.e8, h.e9⟩
theorem RcI.op5 (h : RcI V vs p1 v2 va vj p5 u S R dn val X) : RcI V vs p1 v2 va vj p5 u S R (andB dn 5) (updV val 5 (p5)) X :=
  ⟨h.s0, h.s1, h.s2, h.s3, h.s4, (fun _ => rfl), h.s6, h.bel, h.e7, h.e8, h.e9⟩
theorem RcI.op6 (h : RcI V vs p1 v2 va vj p5 u S R dn val X) : RcI V vs p1 v2 va vj p5 u S R (andB dn 6) (updV val 6 (u)) X :=
  ⟨h.s0, h.s1, h.s2, h.s3, h.s4, h.s5, (fun _ => rfl), h.bel, h.e7, h.e8, h.e9⟩
theorem RcI.op7 (h : RcI V vs p1 v2 va vj p5 u S R dn val X) (n8 : dn 8 = false) (n9 : dn 9 = false) : RcI V vs p1 v2 va vj p5 u S R (andB dn 7) (updV val 7 (.slice (some ⟨X.heap.size, 0, none⟩) 1 1)) (X.alloc (.cells #[u] 22)) :=
  ⟨h.s0, h.s1, h.s2, h.s3, h.s4, h.s5, h.s6, (fun n => (h.bel n).alloc (h.bel n).size _), (fun _ _ => ⟨_, rfl, World.alloc_heap_new X _⟩), (fun d => f_t n8 d), (fun d => f_t n9 d)⟩
theorem RcI.op8 (h : RcI V vs p1 v2 va vj p5 u S R dn val X) (n9 : dn 9 = false) {v : Value} (hS : S v Y) : RcI V vs p1 v2 va vj p5 u S R (andB dn 8) (updV val 8 (v)) (Y) :=
  ⟨h.s0, h.s1, h.s2, h.s3, h.s4, h.s5, h.s6, (fun n => nomatch n), (fun _ n => nomatch n), (fun _ _ => hS), (fun d => f_t n9 d)⟩
theorem RcI.op9 (h : RcI V vs p1 v2 va vj p5 u S R dn val X) (y8 : dn 8 = true) {v : Value} (hR : R Y) : RcI V vs p1 v2 va vj p5 u S R (andB dn 9) (updV val 9 (v)) (Y) :=
  ⟨h.s0, h.s1, h.s2, h.s3, h.s4, h.s5, h.s6, (fun n => f_t n y8), (fun _ n => f_t n y8), (fun _ n => nomatch n), (fun _ => hR)⟩
end
section
variable {o : Oper} {a : Act} {w : World} {K : Act → World → Prop} {Q : Exit → Act → World → Prop}
theorem opLdT (q : Nat) (ad : Addr) (v : Value) (ho : o.op = .load 27 (.tmp q)) (hq : a.tmps.getD q undef = .pointer (some ad)) (hc : w.cell? ad = some v) (h : K (a.put o.dst v) w) : o.wp Tryz.prog a w K Q := by
  unfold Oper.wp execOp
  have he : a.eval (.tmp q) = .pointer (some ad) := hq
  simp only [ho, he]
  go_simp
  exact h
set_option maxRecDepth 100000 in
theorem opFieldK (k : Nat) (q g : Nat) (hk : k < 2) (ho : o.op = .fieldAddr 29 (.tmp q) k) (hq : a.tmps.getD q undef = .pointer (some ⟨g, 0, none⟩)) (h : K (a.put o.dst (.pointer (some ⟨g, k, none⟩))) w) : o.wp Tryz.prog a w K Q := by
  unfold Oper.wp execOp
  have he : a.eval (.tmp q) = .pointer (some ⟨g, 0, none⟩) := hq
  simp only [ho, he]
  rcases (show k = 0 ∨ k = 1 by omega) with rfl | rfl <;>
  · go_simp
    exact h
theorem opSub1 (q : Nat) (x y : Int) (ho : o.op = .binOp .sub 3 (.const (.int .i64 (-1))) (.tmp q) 3) (hq : a.tmps.getD q undef = .int .i64 x) (hw : IntKind.i64.wrap (-1 - x) = y) (h : K (a.put o.dst (.int .i64 y)) w) : o.wp Tryz.prog a w K Q := by
  unfold Oper.wp execOp
  have he : a.eval (.tmp q) = .int .i64 x := hq
  simp only [ho, he]
  go_simp
  (try rw [hw])
  exact h
theorem opStoreT (q r g : Nat) (A1 : Option Addr) (n1 d1 : Nat) (u1 : Value) (ho : o.op = .store 27 (.tmp q) (.tmp r)) (hq : a.tmps.getD q undef = .pointer (some ⟨g, 0, none⟩)) (hr : a.tmps.getD r undef = .slice A1 n1 d1) (hg : w.heap[g]? = some (.cells #[u1] 27)) (h : ∀ u, K (a.put o.dst u) (w.setCell ⟨g, 0, none⟩ (.slice A1 n1 d1))) : o.wp Tryz.prog a w K Q := by
  unfold Oper.wp execOp
  have he : a.eval (.tmp q) = .pointer (some ⟨g, 0, none⟩) := hq
  have he2 : a.eval (.tmp r) = .slice A1 n1 d1 := hr
  have c0 := cell_one hg
  have f0 := frozen_cells hg 0
  simp only [ho, he, he2]
  go_simp
  exact h _
theorem run_app_lv {W : World} {LL : List (List Int)} {vals : List Value} {vs : Value} (s x : Operand) (ho : o.op = .call { callee := .builtin .append, args := #[s, x], argTypes := #[27, 27] })
    {r : Value} {R : List Int} (hs : a.eval s = vs) (h : LvI W LL vals vs w) (g : Nat) (hx : a.eval x = .slice (some ⟨g, 0, none⟩) 1 1) (hc : w.heap[g]? = some (.cells #[r] 22)) (h1 : r.oneCell' = true) (hr : InSl W W.heap.size r R) (hn : LL.length ≤ 100000)
    (hK : ∀ v' w', LvI W (LL ++ [R]) (vals ++ [r]) v' w' → w.grownBy w' vs.ownBlock → (v'.ownBlock = vs.ownBlock ∨ v'.ownBlock = some w.heap.size) → K (a.put o.dst v') w') : o.wp Tryz.prog a w K Q := by
  obtain ⟨i0, hi0, hz0, hz1, hz2⟩ := infoS
  obtain ⟨v', w', hr', h2, h3, _, h5⟩ := run_append_own_at (P := Tryz.prog) (w := w) W.heap.size 27 o.type 22 i0 (.slice none 0 0) 1 24 Tryz.underlying27 hi0 hz0 hz1 hz2 rfl (by decide) vs LL.length vals h.own ⟨g, 0, none⟩ 1 1 [r] rfl
    (fun j u hj => by
      rw [add_zero_k]
      simpa [World.cell?, hc] using hj) (fun u hu => by simp at hu; subst hu; exact h1) (by unfold maxLen; omega) (by omega) h.bel.size
  unfold Oper.wp execOp
  simp only [ho, resolve, invoke, builtin, Sem.run_bind, Sem.run_pure, Result.andThen_ok, List.map_toArray, List.map_cons, List.map_nil, hs, hx, hr']
  exact hK _ _ ⟨h.bel.grown h3 h.bel.size fun q e => (h.own.lt q e).1, by rw [List.length_append]; exact h2, h.ele.snoc hr⟩ h3 h5
end
set_option maxRecDepth 100000 in
set_option maxHeartbeats 16000000 in
theorem walk_any {W : World} {T gk gs gl mb gb gw : Nat} (hG : WkB W T gk gs gl mb gb gw) {k : Kx} {seen st : List Int} {A1 A2 As : Option Addr} {c1 c2 cs nn nl ns : Nat} (hnn : k.nd.length = nn) (hnl : k.lv.length = nl) (hns : seen.length = ns)
    (hN : IlSl W W.heap.size (.slice A1 nn c1) k.nd) (hV : VsSl W W.heap.size (.slice A2 nl c2) k.lv) (hS : InSl W W.heap.size (.slice As ns cs) seen) (hk : KSm k) (hok : KOk st k) (hss : ns = st.length) :
    ∀ (d : Nat) (a : Int) (B : List Int) (rb : Option Nat) (X : World), WkS W T gk gs gl mb gb gw k (.slice A1 nn c1) (.slice A2 nl c2) (.slice As ns cs) B (lvsF k B) rb X → -(nl : Int) ≤ a → a < nn → 1 ≤ d → (0 ≤ a → (nn : Int) + 1 ≤ a + d) →
      Calls Tryz.prog 87 #[.int .i64 a, .pointer (some ⟨gb, 0, none⟩), .pointer (some ⟨gl, 0, none⟩), .pointer (some ⟨gk, 0, none⟩), .pointer (some ⟨gs, 0, none⟩), .pointer (some ⟨gw, 0, none⟩)] X
        fun e w' => e = .returned (.tuple #[]) ∧ ∃ rb', WkS W T gk gs gl mb gb gw k (.slice A1 nn c1) (.slice A2 nl c2) (.slice As ns cs) (walkF k seen d B a) (lvsF k (walkF k seen d B a)) rb' w' ∧ Grows rb rb' X ∧ KA T rb X w' := by
  intro d
  induction d with
  | zero => intro a B rb X _ _ _ h; omega
  | succ d ih =>
  intro a B rb X hI ha1 ha2 _ had
  have hn1 : nn ≤ 1000 := by have := hok.nn; omega
  have hn2 : nl ≤ 2000 := by have := hk.2.1; omega
  have HI := Lib.hid hI
  have HM := Lib.hid hI.mp
  have b0 := cell_one hI.bb
  have HWf := Lib.hid (show (Lit.int .i64 a).wf = true from WalkArith.wf_i64 (by omega))
  obtain ⟨bb, hbb⟩ : ∃ b, decide (a ∈ B) = b := ⟨_, rfl⟩
  have HBb := Lib.hid hbb
  have HIh := Lib.hid ih
  have HGb := Lib.hid hG
  have HNd := Lib.hid hN
  have HSm := Lib.hid hk
  have HOk := Lib.hid hok
  have HQ := Lib.hid (And.intro hnn (And.intro hnl (And.intro hns hss)))
  have HLen := Lib.hid (show B.length ≤ 3000 from by
    have := range_len (a := nn) (b := nl) hI.ndp (fun z hz => by have := hI.rg z hz; omega)
    omega)
  cases bb with
  | true =>
    have HF := Lib.hid (show walkF k seen (d + 1) B a = B from walk_mem (of_decide_eq_true HBb.out))
    clear hI ih hbb hG hN hV hS hk hok hnn hnl hns hss had
    go_enter Tryz.func87, Tryz.ntmps87
    go_wp2_with (at_lookup; refine wpList_lookup_mb rfl _ _ rfl HM.out rfl a rfl HWf.out HBb.out ?_)
    refine bodyPost_ret (results_none rfl _ _ _) rfl ?_
    exact ⟨rfl, rb, by rw [HF.out]; exact HI.out, .inl rfl, KA.refl _ _ _⟩
  | false =>
  have HNo := Lib.hid (of_decide_eq_false HBb.out)
  have HLt := Lib.hid (show B.length < maxLen from by have := HLen.out; unfold maxLen; omega)
  have HP1 := Lib.hid (fun (w1 : World) (hM : MB W mb (B.length + 1) (B ++ [a]) w1) (hg : X.grownBy w1 (some mb)) => hI.put hG HNo.out ⟨by omega, by omega⟩ hM hg)
  have HKa := Lib.hid (fun (w1 : World) (hg : X.grownBy w1 (some mb)) => KA.of_row (T := T) (rb := rb) hg (fun r e => by cases e; exact .inl hG.hi.2.2.2.1))
  by_cases h0 : a < 0
  · obtain ⟨j, hj⟩ : ∃ j, (-1 - a).toNat = j := ⟨_, rfl⟩
    have hja : (j : Int) = -1 - a := by omega
    have hjn : j < nl := by omega
    have HSub := Lib.hid (show IntKind.i64.wrap (-1 - a) = (j : Int) from by rw [IntKind.wrap_i64]; omega)
    obtain ⟨ad, u, L, rfl, hadb, hL, hc, hin⟩ := hV.at_ hjn
    have HIn := Lib.hid hin
    obtain ⟨Au, cu, rfl, _⟩ := hin.form
    have HF := Lib.hid (show walkF k seen (d + 1) B a = B ++ [a] ∧ lvsF k (B ++ [a]) = lvsF k B ++ [L] from ⟨walk_leaf HNo.out h0, lvs_neg h0 (by rw [hj]; exact hL)⟩)
    have HC := Lib.hid (fun (w1 : World) (hb : Below W.heap.size W w1) => (hb.cell (p := ad.add j) (by rw [add_block]; exact hadb)).trans hc)
    have HLl := Lib.hid (show (lvsF k B).length ≤ 100000 from by
      unfold lvsF; rw [List.length_map]; have := List.length_filter_le (fun z : Int => decide (z < 0)) B; have := HLen.out; omega)
    obtain ⟨nL, hnL⟩ : ∃ n, L.length = n := ⟨_, rfl⟩
    rw [hnL] at HC HIn
    clear hI ih hbb hG hN hV hS hk hok hnn hnl hns hss had hin hc hL hnL hj hja ha1 ha2 hadb
    go_enter Tryz.func87, Tryz.ntmps87
    go_wp2_with (first | (at_lookup; refine wpList_lookup_mb rfl _ _ rfl HM.out rfl a rfl HWf.out HBb.out ?_) | (at_mapUpdate; refine wpList_put_mb rfl _ _ _ rfl HM.out HLt.out rfl a rfl HWf.out rfl ?_; intro w1 hM1 hg1; have HI1 := Lib.hid (HP1.out w1 hM1 hg1); have HK1 := Lib.hid (HKa.out w1 hg1); have HG1 := Lib.hid hg1.size; obtain ⟨vals, vs, l1, l2, l3, _⟩ := HI1.out.lb; have HL1 := Lib.hid (And.intro l1 (And.intro l2 l3)); have l0 := cell_one l1; have lf := frozen_cells l1 0; obtain ⟨k0, k1⟩ := cells_two HI1.out.kb; have hc := HC.out w1 HI1.out.bel; obtain ⟨Av, nv, cv, rfl⟩ := l2.slice; clear l1 l2 l3 hM1 hg1))
    refine wp_opaque ?_
    intro t0 ht0
    have hsz0 : t0.size = 52 := by rw [ht0]; rfl
    have q0 : t0.getD 0 undef = .int .i64 a := by rw [ht0]; rfl
    have q2 : t0.getD 2 undef = .pointer (some ⟨gl, 0, none⟩) := by rw [ht0]; rfl
    have q3 : t0.getD 3 undef = .pointer (some ⟨gk, 0, none⟩) := by rw [ht0]; rfl
    clear ht0 l0 lf k0 k1 hc
    have HBd := Lib.hid (fun X (hI : Below w1.drew.heap.size w1.drew X) => (Below.refl w1.heap.size w1).drew.trans hI)
    have HIx := Lib.hid (fun X (h : Below w1.heap.size w1 X) => HI1.out.step h)
    have HLx := Lib.hid (fun X (h : Below w1.heap.size w1 X) => And.intro ((h.block _ (Array.getElem?_eq_some_iff.1 HL1.out.1).1).trans HL1.out.1) (HL1.out.2.1.step h))
    refine wp_region_vals [some 17, some 18, some 19, some 20, some 21, some 22, some 23, some 24, some 25, none] (RcI w1.drew (.slice Av nv cv) (.pointer (some ⟨gk, 1, none⟩)) (.slice (some ad) nl c2) (.int .i64 a) (.int .i64 (j : Int)) (.pointer (some (ad.add j))) (.slice Au nL cu)
      (fun v X => ∃ V2, Below w1.heap.size w1 V2 ∧ LvI W (lvsF k B ++ [L]) (vals ++ [.slice Au nL cu]) v X ∧ V2.grownBy X (Value.slice Av nv cv).ownBlock ∧ (v.ownBlock = (Value.slice Av nv cv).ownBlock ∨ v.ownBlock = some V2.heap.size))
      (fun X => ∃ rb', WkS W T gk gs gl mb gb gw k (.slice A1 nn c1) (.slice (some ad) nl c2) (.slice As ns cs) (B ++ [a]) (lvsF k B ++ [L]) rb' X ∧ Grows rb rb' w1 ∧ KA T rb w1 X)) (by kernel_rfl) (by kernel_rfl) rfl rfl (by simp [hsz0]) (by kernel_rfl) ?_ ?_ ?_
    · intro val
      exact ⟨(fun h => nomatch h), (fun h => nomatch h), (fun h => nomatch h), (fun h => nomatch h), (fun h => nomatch h), (fun h => nomatch h), (fun h => nomatch h), fun _ => Below.refl _ _, (fun h => nomatch h), (fun h => nomatch h), (fun h => nomatch h)⟩
    · intro dn q o hi hd hp hc val X a' ha hn hI K hK
      have hq : q < 10 := by
        have := (Array.getElem?_eq_some_iff.1 hi).1
        simpa using this
      have c9 : dn 9 = true → dn 8 = true := fun h => hc 9 _ rfl h ⟨8, .data⟩ (by simp) rfl
      have c8 : dn 8 = true → dn 0 = true ∧ dn 7 = true := fun h => ⟨hc 8 _ rfl h ⟨0, .data⟩ (by simp) rfl, hc 8 _ rfl h ⟨7, .data⟩ (by simp) rfl⟩
      have c7 : dn 7 = true → dn 6 = true := fun h => hc 7 _ rfl h ⟨6, .data⟩ (by simp) rfl
      have c6 : dn 6 = true → dn 5 = true := fun h => hc 6 _ rfl h ⟨5, .data⟩ (by simp) rfl
      have c5 : dn 5 = true → dn 2 = true ∧ dn 4 = true := fun h => ⟨hc 5 _ rfl h ⟨2, .data⟩ (by simp) rfl, hc 5 _ rfl h ⟨4, .data⟩ (by simp) rfl⟩
      have k2 : dn 2 = true → dn 1 = true := fun h => hc 2 _ rfl h ⟨1, .data⟩ (by simp) rfl
      have c4 : dn 4 = true → dn 3 = true := fun h => hc 4 _ rfl h ⟨3, .data⟩ (by simp) rfl
      have bf : ∀ {q : Bool}, (q = true → False) → q = false := fun {q} h => by cases q; rfl; exact (h rfl).elim
      have hB := fun n8 => HBd.out X (hI.bel n8)
      rcases (show q = 0 ∨ q = 1 ∨ q = 2 ∨ q = 3 ∨ q = 4 ∨ q = 5 ∨ q = 6 ∨ q = 7 ∨ q = 8 ∨ q = 9 by omega) with rfl | rfl | rfl | rfl | rfl | rfl | rfl | rfl | rfl | rfl
      · obtain rfl := Option.some.inj hi
        have n8 : dn 8 = false := bf fun h => f_t hd (c8 h).1
        exact opLdT 2 _ _ rfl ((ha 2).trans q2) (cell_one (HLx.out X (hB n8)).1) (hK _ _ hI.op0)
      · obtain rfl := Option.some.inj hi
        exact opFieldK 1 3 _ (by decide) rfl ((ha 3).trans q3) (hK _ _ hI.op1)
      · obtain rfl := Option.some.inj hi
        have y1 := hp ⟨1, .data⟩ (by simp) rfl
        have n8 : dn 8 = false := bf fun h => f_t hd (c5 (c6 (c7 (c8 h).2))).1
        exact opLdT 18 _ _ rfl ((ha 18).trans (hI.s1 y1)) (cells_two (HIx.out X (hB n8)).kb).2 (hK _ _ hI.op2)
      · obtain rfl := Option.some.inj hi
        exact opMove 0 _ rfl ((ha 0).trans q0) (hK _ _ hI.op3)
      · obtain rfl := Option.some.inj hi
        have y3 := hp ⟨3, .data⟩ (by simp) rfl
        exact opSub1 20 _ _ rfl ((ha 20).trans (hI.s3 y3)) HSub.out (hK _ _ hI.op4)
      · obtain rfl := Option.some.inj hi
        have y2 := hp ⟨2, .data⟩ (by simp) rfl
        have y4 := hp ⟨4, .data⟩ (by simp) rfl
        exact opIxS 19 21 nl c2 j ad rfl ((ha 19).trans (hI.s2 y2)) ((ha 21).trans (hI.s4 y4)) hjn (hK _ _ hI.op5)
      · obtain rfl := Option.some.inj hi
        have y5 := hp ⟨5, .data⟩ (by simp) rfl
        have n8 : dn 8 = false := bf fun h => f_t hd (c7 (c8 h).2)
        exact opLdS 22 _ _ rfl ((ha 22).trans (hI.s5 y5)) (HC.out X (HIx.out X (hB n8)).bel) (hK _ _ hI.op6)
      · obtain rfl := Option.some.inj hi
        have y6 := hp ⟨6, .data⟩ (by simp) rfl
        have n8 : dn 8 = false := bf fun h => f_t hd (c8 h).2
        have n9 : dn 9 = false := bf fun h => f_t n8 (c9 h)
        exact opBoxS 23 _ _ _ rfl ((ha 23).trans (hI.s6 y6)) (hK _ _ (hI.op7 n8 n9))
      · obtain rfl := Option.some.inj hi
        have y0 := hp ⟨0, .data⟩ (by simp) rfl
        have y7 := hp ⟨7, .data⟩ (by simp) rfl
        have n9 : dn 9 = false := bf fun h => f_t hd (c9 h)
        obtain ⟨g, e7, h7⟩ := hI.e7 y7 hd
        refine run_app_lv (.tmp 17) (.tmp 24) rfl ((ha 17).trans (hI.s0 y0)) (HLx.out X (hB hd)).2 g ((ha 24).trans e7) h7 rfl HIn.out HLl.out ?_
        intro v' w' hL' hg' ho'
        exact hK _ _ (hI.op8 n9 ⟨X, hB hd, hL', hg', ho'⟩)
      · obtain rfl := Option.some.inj hi
        have y8 := hp ⟨8, .data⟩ (by simp) rfl
        obtain ⟨V2, hV2, hL2, hg2, ho2⟩ := hI.e8 y8 hd
        obtain ⟨A9, n9, d9, e9⟩ := hL2.slice
        have hl2 := (HLx.out V2 hV2).1
        obtain ⟨hYl, hS9, hGr9, hK9⟩ := (HIx.out V2 hV2).leaf HGb.out hl2 HL1.out.2.2 hL2 hg2 (by
          rcases ho2 with h | h
          · exact .inl h
          · exact .inr ⟨_, h, Nat.le_refl _⟩)
        rw [e9] at hS9 hGr9 hK9
        refine opStoreT 2 25 gl _ _ _ _ rfl ((ha 2).trans q2) ((ha 25).trans e9) hYl (fun u => hK u _ (hI.op9 (v := u) y8 ⟨_, hS9, ?_, (KA.of_below hV2).trans hK9⟩))
        rcases hGr9 with h | ⟨q, h, hq⟩
        · exact .inl h
        · exact .inr ⟨q, h, Nat.le_trans hV2.size hq⟩
    · intro dn val X' hdn hI
      have HR := Lib.hid (hI.e9 (hdn 9 (by simp)))
      simp only [Exit.then]
      clear hdn hI
      (try go_wp2_with fail)
      (try rw [Exit.noGoto_ret])
      refine bodyPost_ret (results_none rfl _ _ _) rfl ?_
      obtain ⟨rb', h1, h2, h3⟩ := HR.out
      refine ⟨rfl, rb', by rw [HF.out.1, HF.out.2]; exact h1, ?_, HK1.out.trans h3⟩
      rcases h2 with h | ⟨q, h, hq⟩
      · exact .inl h
      · exact .inr ⟨q, h, Nat.le_trans HG1.out hq⟩
  · obtain ⟨i, rfl⟩ : ∃ i : Nat, a = (i : Int) := ⟨a.toNat, by omega⟩
    have hin : i < nn := by omega
    obtain ⟨r, ad, Am, cm, hr, rfl, hY⟩ := hN.at_ hin
    have hrk := hok.nd i r hr
    obtain ⟨c, hc⟩ : ∃ c : Nat, r.nm = (c : Int) := ⟨r.nm.toNat, by omega⟩
    have hcn : c < ns := by omega
    obtain ⟨q, hq⟩ : ∃ q, r.may.length = q := ⟨_, rfl⟩
    have hq16 : q ≤ 16 := by
      have h1 : st[c]? = some st[c] := List.getElem?_eq_getElem (by omega)
      have h2 := hok.sv c _ h1
      have h3 := hrk.2.2.1
      rw [hc, Int.toNat_natCast, List.getD_eq_getElem?_getD, h1, hq] at h3
      simp only [Option.getD_some] at h3
      omega
    have HY := Lib.hid hY
    have HQl := Lib.hid hq
    have HCn := Lib.hid hc
    obtain ⟨y, adS, hy, rfl, hadS, hcy⟩ := (show InA W W.heap.size As seen from by obtain ⟨_, _, e, _, _, h⟩ := hS; cases e; exact h).at_ hns hcn
    have HCs := Lib.hid (fun (w1 : World) (hb : Below W.heap.size W w1) => (hb.cell (p := adS.add c) (by rw [add_block]; exact hadS)).trans hcy)
    have HYs := Lib.hid (show seen.getD c 0 = y from by rw [List.getD_eq_getElem?_getD, hy]; rfl)
    have HF := Lib.hid (walk_node (seen := seen) (d := d) HNo.out hr)
    have HLv := Lib.hid (lvs_nn (k := k) (B := B) (show (0 : Int) ≤ (i : Int) by omega))
    have HMy := Lib.hid hrk.2.2.2
    have hd1 : 1 ≤ d := by omega
    have HD := Lib.hid (show (nn : Int) + 1 ≤ (i : Int) + ((d : Int) + 1) from by have := had (by omega); omega)
    obtain ⟨Bt, hBt⟩ : ∃ Bt : Nat → List Int, Bt = fun t => (r.may.zipIdx.take t).foldl (wkStep k seen d r.nm) (B ++ [(i : Int)]) := ⟨_, rfl⟩
    have HB0 := Lib.hid (show Bt 0 = B ++ [(i : Int)] from by rw [hBt]; rfl)
    have HBn := Lib.hid (fun (t : Nat) (x : Int) (hx : r.may[t]? = some x) => show Bt (t + 1) = wkStep k seen d r.nm (Bt t) (x, t) from by rw [hBt]; exact fold_next (idx_getI hx) _)
    have HBe := Lib.hid (show Bt q = walkF k seen (d + 1) B (i : Int) from by rw [hBt, HF.out]; simp only; rw [List.take_of_length_le (by rw [List.length_zipIdx, hq]; exact Nat.le_refl _)])
    have HSt := Lib.hid (fun (t : Nat) (z x : Int) (B : List Int) (hz : bits BinOp.and IntKind.i64 y (2 ^ t) = z) => show wkStep k seen d r.nm B (x, t) = if z ≠ 0 then walkF k seen d B x else B from by
      unfold wkStep bitF
      rw [hc, Int.toNat_natCast, HYs.out]
      show (if decide (bits BinOp.and IntKind.i64 y (2 ^ t) ≠ 0) = true then _ else _) = _
      rw [hz]
      by_cases h : z = 0 <;> simp [h])
    clear hI ih hbb hG hN hV hS hk hok hnn hnl hns hss had hr hY hrk hq hc hy hadS hcy hBt HF
    have hi0 : ¬ (i : Int) < 0 := h0
    clear h0
    go_enter Tryz.func87, Tryz.ntmps87
    go_wp2_with (first | (at_lookup; refine wpList_lookup_mb rfl _ _ rfl HM.out rfl (i : Int) rfl HWf.out HBb.out ?_) | (at_mapUpdate; refine wpList_put_mb rfl _ _ _ rfl HM.out HLt.out rfl (i : Int) rfl HWf.out rfl ?_; intro w1 hM1 hg1; have HI1 := Lib.hid (HP1.out w1 hM1 hg1); have HK1 := Lib.hid (HKa.out w1 hg1); have HG1 := Lib.hid hg1.size; obtain ⟨k0, k1⟩ := cells_two HI1.out.kb; obtain ⟨d0, d1⟩ := (HY.out w1 HI1.out.bel).1; rw [HCn.out] at d0; rw [HQl.out] at d1; clear hM1 hg1))
    obtain ⟨V, hV⟩ : ∃ V, w1.alloc (.cells #[.int .i64 (c : Int), .slice Am q cm] 55) = V := ⟨_, rfl⟩
    rw [hV]
    have hbV := below_new (w := w1) (.cells #[.int .i64 (c : Int), .slice Am q cm] 55)
    have hnV := World.alloc_heap_new w1 (.cells #[.int .i64 (c : Int), .slice Am q cm] 55)
    rw [hV] at hbV hnV
    have HIV := Lib.hid (HI1.out.step hbV)
    have HBV := Lib.hid hbV
    have HNV := Lib.hid hnV
    have HNe := Lib.hid (show some w1.heap.size ≠ rb from fun e => by have := (HI1.out.rbt e.symm).2; omega)
    clear k0 k1 d0 d1 hV hbV hnV
    go_loopw [34] (fun iv wr => ∃ (t : Nat) (rb2 : Option Nat), iv = .int .i64 (t : Int) ∧ t ≤ q ∧ WkS W T gk gs gl mb gb gw k (.slice (some ad) nn c1) (.slice A2 nl c2) (.slice (some adS) ns cs) (Bt t) (lvsF k (Bt t)) rb2 wr ∧ Grows rb rb2 V ∧ KA T rb V wr) (fun iv _ => q - (intOf iv).toNat)
    case atStart => exact ⟨0, rb, rfl, by omega, by rw [HB0.out, HLv.out]; exact HIV.out, .inl rfl, KA.refl _ _ _⟩
    case round =>
      obtain ⟨t, rb2, rfl, htq, hI2, hgr, hka⟩ := hrel
      have HI2 := Lib.hid hI2
      have HGr := Lib.hid hgr
      have HKa2 := Lib.hid hka
      have hnb := hka.same _ _ HI1.out.top HNV.out HNe.out
      have HNb := Lib.hid hnb
      clear hI2 hgr hka hnb
      by_cases hlt : t < q
      · obtain ⟨x, adm, hx, rfl, _, hcx⟩ := (show InA wr wr.heap.size Am r.may from by obtain ⟨_, _, e, _, _, h⟩ := (HY.out wr HI2.out.bel).2; cases e; exact h).at_ HQl.out hlt
        have HX := Lib.hid hx
        have HSo := Lib.hid (fun z : World => setOf_any t z (by omega))
        have hxr := HMy.out x (List.mem_of_getElem? hx)
        have HXr := Lib.hid (show -(nl : Int) ≤ x ∧ x < nn ∧ (0 ≤ x → (nn : Int) + 1 ≤ x + d) from ⟨by have := HQ.out.2.1; omega, by have := HQ.out.1; omega, fun h => by have := HD.out; have := hxr.2.2 h; omega⟩)
        have ss := fun z : Wb wr => And.intro (cell_one (HI2.out.step z.h).sb) (And.intro (cells_two ((z.h.block _ (Array.getElem?_eq_some_iff.1 HNb.out).1).trans HNb.out)) (HCs.out z.v (HI2.out.step z.h).bel))
        have HSs := Lib.hid ss
        obtain ⟨z, hz⟩ : ∃ z, bits BinOp.and IntKind.i64 y (2 ^ t) = z := ⟨_, rfl⟩
        have HZ := Lib.hid hz
        clear ss hx hxr
        by_cases h0 : z = 0
        · have HN1 := Lib.hid (show Bt (t + 1) = Bt t from by rw [HBn.out t x HX.out, HSt.out t z x _ HZ.out, h0]; simp)
          have ss := HSs.out
          go_wp2_with fail
          refine wp_region_wb (by kernel_rfl) (by kernel_rfl) ?_; (repeat ((with_reducible refine wpQuiet_step ?_); intro K hK; go_simp; (try (refine ite_neg_of (by simp [undef]) ?_)); first | (with_reducible refine hK _ ?_; clear hK K) | (apply Exists.intro; (with_reducible refine ⟨fun _ => ?_, hK _ ?_⟩); ((go_at_call 61; exact Calls.wb0 (HSo.out _))); clear hK K))); (with_reducible refine wpQuiet_nil ?_); rintro w1 ⟨⟨_, hb1⟩, rfl⟩; (try dsimp only)
          have HB1 := Lib.hid hb1
          clear hb1 ss hcx
          go_wp2_with fail
          go_roundw
          case rel => exact ⟨t + 1, rb2, by go_num, by omega, by rw [HN1.out]; exact HI2.out.step HB1.out, HGr.out, HKa2.out.trans (KA.of_below HB1.out)⟩
          case measure => simp [intOf]; try omega
        · have HN1 := Lib.hid (show Bt (t + 1) = walkF k seen d (Bt t) x from by rw [HBn.out t x HX.out, HSt.out t z x _ HZ.out, if_pos h0])
          have ss := HSs.out
          go_wp2_with fail
          refine wp_region_wb (by kernel_rfl) (by kernel_rfl) ?_; (repeat ((with_reducible refine wpQuiet_step ?_); intro K hK; go_simp; (try (refine ite_neg_of (by simp [undef]) ?_)); first | (with_reducible refine hK _ ?_; clear hK K) | (apply Exists.intro; (with_reducible refine ⟨fun _ => ?_, hK _ ?_⟩); ((go_at_call 61; exact Calls.wb0 (HSo.out _))); clear hK K))); (with_reducible refine wpQuiet_nil ?_); rintro w1 ⟨⟨_, hb1⟩, rfl⟩; (try dsimp only)
          have HB1 := Lib.hid hb1
          have g0 := cell_one (HI2.out.step hb1).wb
          have HC := Lib.hid (HIh.out x (Bt t) rb2 _ (HI2.out.step hb1) HXr.out.1 HXr.out.2.1 hd1 HXr.out.2.2)
          clear hb1 ss hcx
          go_wp2_with fail
          (with_reducible refine HC.out.mono ?_)
          rintro e w4 ⟨rfl, rb4, hI4, hgr4, hka4⟩
          have H4 := Lib.hid (And.intro hI4 (And.intro hgr4 hka4))
          clear hI4 hgr4 hka4 g0 HC
          go_wp2_with fail
          go_roundw
          case rel => exact ⟨t + 1, rb4, by go_num, by omega, by rw [HN1.out]; exact H4.out.1, HGr.out.trans2 (HKa2.out.trans (KA.of_below HB1.out)).size H4.out.2.1, (HKa2.out.trans (KA.of_below HB1.out)).trans2 HGr.out H4.out.2.2⟩
          case measure => simp [intOf]; try omega
      · obtain rfl : q = t := by omega
        go_wp2_with fail
        go_end0
        refine ⟨rfl, rb2, by rw [← HBe.out]; exact HI2.out, ?_, (HK1.out.trans (KA.of_below HBV.out)).trans HKa2.out⟩
        rcases HGr.out with h | ⟨g, h, hg⟩
        · exact .inl h
        · exact .inr ⟨g, h, Nat.le_trans (Nat.le_trans HG1.out HBV.out.size) hg⟩
end Go.Proofs.YthfegbcbpeedbaaGreatDoor
