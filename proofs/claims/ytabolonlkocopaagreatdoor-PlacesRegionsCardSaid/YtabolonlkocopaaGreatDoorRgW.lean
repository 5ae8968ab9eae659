/- PlacesRegions: the walk. -/
import Derived.Test.YtabolonlkocopaaGreatDoorTrec
import Derived.Test.YtabolonlkocopaaGreatDoorAwk
import Derived.Test.YtabolonlkocopaaGreatDoorAlgW
namespace Go.Proofs.YtabolonlkocopaaGreatDoor
open Go.RowKit Go.Plc

set_option maxHeartbeats 2000000 in
theorem rUnion_is (u v : Value) (a b R : List Sq) (er : Int) (w : World) (hu : SqSl w w.heap.size u a) (hv : SqSl w w.heap.size v b) (hna : a.length ≤ 100000) (hnb : b.length ≤ 100000) (h : MixD 0 a b R er) :
    Calls Tryz.prog 11 #[u, v] w fun e w' => (∃ x, e = .returned (.tuple #[x, .int .i64 er]) ∧ SqSl w' w'.heap.size x R) ∧ Below w.heap.size w w' := by
  have HC := Lib.hid (mixed_any 0 (by decide) u v a b R er w hu hv hna hnb h)
  obtain ⟨A, ca, rfl⟩ := sl_formJ hu
  obtain ⟨B, cb, rfl⟩ := sl_formJ hv
  clear hu hv hna hnb h
  go_enter Tryz.func11, Tryz.ntmps11
  go_wp2_with fail
  refine HC.out.mono ?_
  rintro e w1 ⟨⟨x, rfl, hs⟩, hb⟩
  obtain ⟨A1, c1, rfl⟩ := sl_formJ hs
  have HS := Lib.hid hs
  clear hs
  go_wp2_with fail
  go_ret2
  exact ⟨⟨_, rfl, HS.out⟩, hb⟩
set_option maxHeartbeats 2000000 in
theorem rIntersect_is (u v : Value) (a b R : List Sq) (er : Int) (w : World) (hu : SqSl w w.heap.size u a) (hv : SqSl w w.heap.size v b) (hna : a.length ≤ 100000) (hnb : b.length ≤ 100000) (h : MixD 1 a b R er) :
    Calls Tryz.prog 16 #[u, v] w fun e w' => (∃ x, e = .returned (.tuple #[x, .int .i64 er]) ∧ SqSl w' w'.heap.size x R) ∧ Below w.heap.size w w' := by
  have HC := Lib.hid (mixed_any 1 (by decide) u v a b R er w hu hv hna hnb h)
  obtain ⟨A, ca, rfl⟩ := sl_formJ hu
  obtain ⟨B, cb, rfl⟩ := sl_formJ hv
  clear hu hv hna hnb h
  go_enter Tryz.func16, Tryz.ntmps16
  go_wp2_with fail
  refine HC.out.mono ?_
  rintro e w1 ⟨⟨x, rfl, hs⟩, hb⟩
  obtain ⟨A1, c1, rfl⟩ := sl_formJ hs
  have HS := Lib.hid hs
  clear hs
  go_wp2_with fail
  go_ret2
  exact ⟨⟨_, rfl, HS.out⟩, hb⟩
set_option maxHeartbeats 2000000 in
theorem rMinus_is (u v : Value) (a b R : List Sq) (er : Int) (w : World) (hu : SqSl w w.heap.size u a) (hv : SqSl w w.heap.size v b) (hna : a.length ≤ 100000) (hnb : b.length ≤ 100000) (h : MixD 2 a b R er) :
    Calls Tryz.prog 18 #[u, v] w fun e w' => (∃ x, e = .returned (.tuple #[x, .int .i64 er]) ∧ SqSl w' w'.heap.size x R) ∧ Below w.heap.size w w' := by
  have HC := Lib.hid (mixed_any 2 (by decide) u v a b R er w hu hv hna hnb h)
  obtain ⟨A, ca, rfl⟩ := sl_formJ hu
  obtain ⟨B, cb, rfl⟩ := sl_formJ hv
  clear hu hv hna hnb h
  go_enter Tryz.func18, Tryz.ntmps18
  go_wp2_with fail
  refine HC.out.mono ?_
  rintro e w1 ⟨⟨x, rfl, hs⟩, hb⟩
  obtain ⟨A1, c1, rfl⟩ := sl_formJ hs
  have HS := Lib.hid hs
  clear hs
  go_wp2_with fail
  go_ret2
  exact ⟨⟨_, rfl, HS.out⟩, hb⟩
theorem kb_ab {w X : World} {x y : Value} {a b : List Sq} (h : Below w.heap.size w X) (hx : SqSl w w.heap.size x a) (hy : SqSl w w.heap.size y b) : KB w [] [(y, b), (x, a)] X :=
  KB.slice (KB.slice ⟨h, fun _ hp => absurd hp (List.not_mem_nil), fun _ hq => absurd hq (List.not_mem_nil)⟩ ((hx.below h).mono h.size)) ((hy.below h).mono h.size)
set_option maxRecDepth 100000 in
set_option maxHeartbeats 16000000 in
theorem PlacesRegions_any (va vb : Value) (a b : List Sq) (w : World) (hM : MonthDays w) (hT : TabW w) (ha : SqSl w w.heap.size va a) (hb : SqSl w w.heap.size vb b) :
    Calls Tryz.prog 3 #[va, vb] w fun e w' => e = .returned (.bool true) ∧ Below w.heap.size w w' := by
  have HM := Lib.hid hM
  have HT := Lib.hid hT
  have HS := Lib.hid (And.intro ha hb)
  obtain ⟨Aa, ca, rfl⟩ := sl_formJ ha
  obtain ⟨Ab, cb, rfl⟩ := sl_formJ hb
  have HFa := Lib.hid (fun w => few_any Aa a ca w)
  have HFb := Lib.hid (fun w => few_any Ab b cb w)
  have HD := Lib.hid (fun ha hb => reg_data (a := a) (b := b) ha hb)
  have HLn := Lib.hid (And.intro (few_len (L := a)) (few_len (L := b)))
  clear hM hT ha hb
  generalize hfa : fewB a = fa at *
  generalize hfb : fewB b = fb at *
  have HFF := Lib.hid (And.intro hfa hfb)
  clear hfa hfb
  go_enter Tryz.func3, Tryz.ntmps3
  go_wp2_with fail
  refine (awake_any _ HM.out HT.out).mono ?_
  rintro e w1 ⟨rfl, hb1⟩
  have H1 := Lib.hid hb1
  clear hb1
  go_wp2_with fail
  refine (HFa.out w1).mono ?_
  rintro e w2 ⟨rfl, hb1⟩
  have H2 := Lib.hid (H1.out.trans (hb1.mono H1.out.size))
  clear hb1
  cases fa
  · go_wp2_with fail
    go_ret
    exact ⟨rfl, H2.out⟩
  · go_wp2_with fail
    refine (HFb.out w2).mono ?_
    rintro e w3 ⟨rfl, hb1⟩
    have H3 := Lib.hid (H2.out.trans (hb1.mono H2.out.size))
    clear hb1
    cases fb
    · go_wp2_with fail
      go_ret
      exact ⟨rfl, H3.out⟩
    · obtain ⟨lc, lm, lp, lx, ec, em, ep, ex, hD⟩ := HD.out (by first | trivial | rfl) (by first | trivial | rfl)
      have HR := Lib.hid hD
      have HL := Lib.hid (And.intro (HLn.out.1 (by first | trivial | rfl)) (HLn.out.2 (by first | trivial | rfl)))
      have K3 := Lib.hid (kb_ab H3.out HS.out.1 HS.out.2)
      clear hD HD HLn HFa HFb H1 H2 H3 HS HM HT
      go_wp2_with fail
      refine ((Normal_any _ a _ (K3.out.sl (.slice Aa a.length ca, a) (List.mem_cons_of_mem _ List.mem_cons_self)) (by have := HL.out.1; omega)).mono fun _ _ hO => hO.is HR.out.n1).mono ?_
      rintro e w4 ⟨⟨u1, rfl, hs⟩, hb⟩
      obtain ⟨Au1, cu1, rfl⟩ := sl_formJ hs
      have K4 := Lib.hid ((K3.out.step hb).slice hs)
      clear hs hb K3
      go_wp2_with fail
      refine (rNormal_any _ a lc ec _ (K4.out.sl (.slice Aa a.length ca, a) (List.mem_cons_of_mem _ (List.mem_cons_of_mem _ List.mem_cons_self))) (by have := HL.out.1; omega) HR.out.n2).mono ?_
      rintro e w5 ⟨⟨u2, rfl, hs⟩, hb⟩
      obtain ⟨Au2, cu2, rfl⟩ := sl_formJ hs
      have K5 := Lib.hid ((K4.out.step hb).slice hs)
      clear hs hb K4
      go_wp2_with fail
      refine (((Union_any _ _ a b _ (K5.out.sl (.slice Aa a.length ca, a) (List.mem_cons_of_mem _ (List.mem_cons_of_mem _ (List.mem_cons_of_mem _ List.mem_cons_self)))) (K5.out.sl (.slice Ab b.length cb, b) (List.mem_cons_of_mem _ (List.mem_cons_of_mem _ List.mem_cons_self))) (by have := HL.out.1; omega) (by have := HL.out.2; omega))).mono fun _ _ hO => hO.is HR.out.u1).mono ?_
      rintro e w6 ⟨⟨u3, rfl, hs⟩, hb⟩
      obtain ⟨Au3, cu3, rfl⟩ := sl_formJ hs
      have K6 := Lib.hid ((K5.out.step hb).slice hs)
      clear hs hb K5
      go_wp2_with fail
      refine (rUnion_is _ _ a b lm em _ (K6.out.sl (.slice Aa a.length ca, a) (List.mem_cons_of_mem _ (List.mem_cons_of_mem _ (List.mem_cons_of_mem _ (List.mem_cons_of_mem _ List.mem_cons_self))))) (K6.out.sl (.slice Ab b.length cb, b) (List.mem_cons_of_mem _ (List.mem_cons_of_mem _ (List.mem_cons_of_mem _ List.mem_cons_self)))) (by have := HL.out.1; omega) (by have := HL.out.2; omega) HR.out.u2).mono ?_
      rintro e w7 ⟨⟨u4, rfl, hs⟩, hb⟩
      obtain ⟨Au4, cu4, rfl⟩ := sl_formJ hs
      have K7 := Lib.hid ((K6.out.step hb).slice hs)
      clear hs hb K6
      go_wp2_with fail
      refine (ValidRegion_any _ a _ (K7.out.sl (.slice Aa a.length ca, a) (List.mem_cons_of_mem _ (List.mem_cons_of_mem _ (List.mem_cons_of_mem _ (List.mem_cons_of_mem _ (List.mem_cons_of_mem _ List.mem_cons_self)))))) (by have := HL.out.1; omega)).mono ?_
      rintro e w8 ⟨rfl, hb⟩
      have K8 := Lib.hid (K7.out.step hb)
      clear hb K7
      go_wp2_with fail
      refine (rValidRegion_any _ a _ (K8.out.sl (.slice Aa a.length ca, a) (List.mem_cons_of_mem _ (List.mem_cons_of_mem _ (List.mem_cons_of_mem _ (List.mem_cons_of_mem _ (List.mem_cons_of_mem _ List.mem_cons_self)))))) (by have := HL.out.1; omega)).mono ?_
      rintro e w9 ⟨rfl, hb⟩
      have K9 := Lib.hid (K8.out.step hb)
      clear hb K8
      generalize regB a = ra at *
      go_wp2_with fail
      refine (Same_is _ _ lc _ (K9.out.sl (.slice Au1 lc.length cu1, lc) (List.mem_cons_of_mem _ (List.mem_cons_of_mem _ (List.mem_cons_of_mem _ List.mem_cons_self)))) (K9.out.sl (.slice Au2 lc.length cu2, lc) (List.mem_cons_of_mem _ (List.mem_cons_of_mem _ List.mem_cons_self))) HR.out.len.1).mono ?_
      rintro e w10 ⟨rfl, hb⟩
      have K10 := Lib.hid (K9.out.step hb)
      clear hb K9
      go_wp2_with fail
      refine (Same_is _ _ lm _ (K10.out.sl (.slice Au3 lm.length cu3, lm) (List.mem_cons_of_mem _ List.mem_cons_self)) (K10.out.sl (.slice Au4 lm.length cu4, lm) List.mem_cons_self) HR.out.len.2.1).mono ?_
      rintro e w11 ⟨rfl, hb⟩
      have K11 := Lib.hid (K10.out.step hb)
      clear hb K10
      go_wp2_with fail
      refine (((Intersect_any _ _ a b _ (K11.out.sl (.slice Aa a.length ca, a) (List.mem_cons_of_mem _ (List.mem_cons_of_mem _ (List.mem_cons_of_mem _ (List.mem_cons_of_mem _ (List.mem_cons_of_mem _ List.mem_cons_self)))))) (K11.out.sl (.slice Ab b.length cb, b) (List.mem_cons_of_mem _ (List.mem_cons_of_mem _ (List.mem_cons_of_mem _ (List.mem_cons_of_mem _ List.mem_cons_self))))) (by have := HL.out.1; omega) (by have := HL.out.2; omega))).mono fun _ _ hO => hO.is HR.out.i1).mono ?_
      rintro e w12 ⟨⟨u5, rfl, hs⟩, hb⟩
      obtain ⟨Au5, cu5, rfl⟩ := sl_formJ hs
      have K12 := Lib.hid ((K11.out.step hb).slice hs)
      clear hs hb K11
      go_wp2_with fail
      refine (rIntersect_is _ _ a b lp ep _ (K12.out.sl (.slice Aa a.length ca, a) (List.mem_cons_of_mem _ (List.mem_cons_of_mem _ (List.mem_cons_of_mem _ (List.mem_cons_of_mem _ (List.mem_cons_of_mem _ (List.mem_cons_of_mem _ List.mem_cons_self))))))) (K12.out.sl (.slice Ab b.length cb, b) (List.mem_cons_of_mem _ (List.mem_cons_of_mem _ (List.mem_cons_of_mem _ (List.mem_cons_of_mem _ (List.mem_cons_of_mem _ List.mem_cons_self)))))) (by have := HL.out.1; omega) (by have := HL.out.2; omega) HR.out.i2).mono ?_
      rintro e w13 ⟨⟨u6, rfl, hs⟩, hb⟩
      obtain ⟨Au6, cu6, rfl⟩ := sl_formJ hs
      have K13 := Lib.hid ((K12.out.step hb).slice hs)
      clear hs hb K12
      go_wp2_with fail
      refine (((Minus_any _ _ a b _ (K13.out.sl (.slice Aa a.length ca, a) (List.mem_cons_of_mem _ (List.mem_cons_of_mem _ (List.mem_cons_of_mem _ (List.mem_cons_of_mem _ (List.mem_cons_of_mem _ (List.mem_cons_of_mem _ (List.mem_cons_of_mem _ List.mem_cons_self)))))))) (K13.out.sl (.slice Ab b.length cb, b) (List.mem_cons_of_mem _ (List.mem_cons_of_mem _ (List.mem_cons_of_mem _ (List.mem_cons_of_mem _ (List.mem_cons_of_mem _ (List.mem_cons_of_mem _ List.mem_cons_self))))))) (by have := HL.out.1; omega) (by have := HL.out.2; omega))).mono fun _ _ hO => hO.is HR.out.m1).mono ?_
      rintro e w14 ⟨⟨u7, rfl, hs⟩, hb⟩
      obtain ⟨Au7, cu7, rfl⟩ := sl_formJ hs
      have K14 := Lib.hid ((K13.out.step hb).slice hs)
      clear hs hb K13
      go_wp2_with fail
      refine (rMinus_is _ _ a b lx ex _ (K14.out.sl (.slice Aa a.length ca, a) (List.mem_cons_of_mem _ (List.mem_cons_of_mem _ (List.mem_cons_of_mem _ (List.mem_cons_of_mem _ (List.mem_cons_of_mem _ (List.mem_cons_of_mem _ (List.mem_cons_of_mem _ (List.mem_cons_of_mem _ List.mem_cons_self))))))))) (K14.out.sl (.slice Ab b.length cb, b) (List.mem_cons_of_mem _ (List.mem_cons_of_mem _ (List.mem_cons_of_mem _ (List.mem_cons_of_mem _ (List.mem_cons_of_mem _ (List.mem_cons_of_mem _ (List.mem_cons_of_mem _ List.mem_cons_self)))))))) (by have := HL.out.1; omega) (by have := HL.out.2; omega) HR.out.m2).mono ?_
      rintro e w15 ⟨⟨u8, rfl, hs⟩, hb⟩
      obtain ⟨Au8, cu8, rfl⟩ := sl_formJ hs
      have K15 := Lib.hid ((K14.out.step hb).slice hs)
      clear hs hb K14
      go_wp2_with fail
      refine (Same_is _ _ lp _ (K15.out.sl (.slice Au5 lp.length cu5, lp) (List.mem_cons_of_mem _ (List.mem_cons_of_mem _ (List.mem_cons_of_mem _ List.mem_cons_self)))) (K15.out.sl (.slice Au6 lp.length cu6, lp) (List.mem_cons_of_mem _ (List.mem_cons_of_mem _ List.mem_cons_self))) HR.out.len.2.2.1).mono ?_
      rintro e w16 ⟨rfl, hb⟩
      have K16 := Lib.hid (K15.out.step hb)
      clear hb K15
      go_wp2_with fail
      refine (Same_is _ _ lx _ (K16.out.sl (.slice Au7 lx.length cu7, lx) (List.mem_cons_of_mem _ List.mem_cons_self)) (K16.out.sl (.slice Au8 lx.length cu8, lx) List.mem_cons_self) HR.out.len.2.2.2).mono ?_
      rintro e w17 ⟨rfl, hb⟩
      have K17 := Lib.hid (K16.out.step hb)
      clear hb K16
      go_wp2_with fail
      go_ret
      exact ⟨rfl, K17.out.bel⟩
end Go.Proofs.YtabolonlkocopaaGreatDoor
