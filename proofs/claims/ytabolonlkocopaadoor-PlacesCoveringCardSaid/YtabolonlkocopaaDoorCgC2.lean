/- PlacesCovering: the walk, case 2 of a valid square. -/
import Derived.Test.YtabolonlkocopaaDoorCgx
namespace Go.Proofs.YtabolonlkocopaaDoor
open Go.RowKit Go.Plc

set_option maxRecDepth 100000 in
set_option maxHeartbeats 16000000 in
theorem PlacesCovering_c2 (va : Value) (a : List Sq) (s : Sq) (L : Int) (w : World) (hM : MonthDays w) (hT : TabW w) (ha : SqSl w w.heap.size va a)
    (hk : (∀ s ∈ a, s.okB = true) → a.length ≤ 40 → ∃ l kids, nrm a = l ∧ CgD l s L true true kids 0 ∧ s.l ≠ 0) :
    Calls Tryd.prog 9 #[va, sqv s, .int .i64 L] w fun e w' => e = .returned (.bool true) ∧ Below w.heap.size w w' := by
  have HM := Lib.hid hM
  have HT := Lib.hid hT
  have HK := Lib.hid hk
  have K0 := Lib.hid (show KB w [(w.heap.size, sqO s)] [(va, a)] (w.alloc (sqO s)) from
    (KB.slice (KB.mk (Below.refl _ _) (fun p hp => (by cases hp)) (fun q hq => (by cases hq)) : KB w [] [] w) ha).new (sqO s))
  clear hM hT ha hk
  unfold sqv sqO at *
  go_enter Tryd.func9, Tryd.ntmps9
  go_wp2_with fail
  refine (awake_any _ (HM.out.below K0.out.bel) (HT.out.below K0.out.bel)).mono ?_
  rintro e w1 ⟨rfl, hb1⟩
  have K1 := Lib.hid (K0.out.step hb1)
  clear hb1 K0
  go_wp2_with fail
  refine (three_any va (.slice none 0 0) (.slice none 0 0) a [] [] w1 (K1.out.sl _ List.mem_cons_self) (nil_sq _ _) (nil_sq _ _)).mono ?_
  rintro e w2 ⟨(⟨x, y, z, rfl, hl, ho, hx, hy, hz⟩ | ⟨x, y, z, rfl⟩), hb2⟩
  · obtain ⟨l, kids, hle, hD, hz0⟩ := HK.out ho.1 hl.1
    rw [hle] at hx
    have K2 := Lib.hid ((K1.out.step hb2).slice hx)
    have HD := Lib.hid hD
    have hz := hz0
    clear hl ho hx hy hb2 K1 hle hD HK hz0
    obtain ⟨a0, a1, a2⟩ := sq_cells (s := s) (K2.out.mem (w.heap.size, _) List.mem_cons_self)
    generalize hg : w.heap.size = g at *
    have HG := Lib.hid hg
    clear hg
    have HZ := Lib.hid hz
    clear hz
    go_wp2_with fail
    refine (Has_is _ l s _ _ _ (K2.out.sl (x, l) List.mem_cons_self) HD.out.len HD.out.c1).mono ?_
    rintro e w3 ⟨rfl, hb3⟩
    have K3 := Lib.hid (K2.out.step hb3)
    clear hb3 K2 a0 a1 a2
    obtain ⟨a0, a1, a2⟩ := sq_cells (s := s) (K3.out.mem (g, _) List.mem_cons_self)
    go_wp2_with fail
    refine (Meets_is _ l s _ _ _ (K3.out.sl (x, l) List.mem_cons_self) HD.out.len HD.out.c2).mono ?_
    rintro e w4 ⟨rfl, hb4⟩
    have K4 := Lib.hid (K3.out.step hb4)
    clear hb4 K3 a0 a1 a2
    obtain ⟨a0, a1, a2⟩ := sq_cells (s := s) (K4.out.mem (g, _) List.mem_cons_self)
    have hz := HZ.out
    go_wp2_with fail
    clear hz
    refine (Children_is s kids 0 _ HD.out.c3).mono ?_
    rintro e w5 ⟨⟨kv, rfl, hs⟩, hb5⟩
    obtain ⟨Ak, ck, rfl⟩ := sl_form hs
    have K5 := Lib.hid ((K4.out.step hb5).slice hs)
    clear hs hb5 K4 a0 a1 a2
    generalize hnk : kids.length = nk at *
    have HNk := Lib.hid hnk
    clear hnk
    have hnk4 : nk ≤ 4 := by have := HD.out.kn; have := HNk.out; omega
    go_wp2_with fail
    go_loopw [18, 19, 20] (fun al on k wr => ∃ i : Nat, k = .int .i64 (i : Int) ∧ al = .bool ((kids.take i).all (hasS l)) ∧ on = .bool ((kids.take i).any (meetsS l)) ∧ i ≤ nk ∧ Below w5.heap.size w5 wr) (fun _ _ k _ => nk - (intOf k).toNat)
    case atStart => exact ⟨0, rfl, rfl, rfl, Nat.zero_le _, Below.refl _ _⟩
    case round =>
      obtain ⟨i, rfl, rfl, rfl, hin, hbel⟩ := hrel
      have KI := Lib.hid (K5.out.step hbel)
      have HBi := Lib.hid hbel
      clear hbel
      by_cases hlt : i < nk
      · obtain ⟨q, ad, hq, hqm, rfl, hbd, d1, d2, d3⟩ := sl_at (KI.out.sl (.slice Ak nk ck, kids) List.mem_cons_self) hlt
        obtain ⟨b3, hb3⟩ : ∃ b, hasS l q = b := ⟨_, rfl⟩
        obtain ⟨b4, hb4⟩ : ∃ b, meetsS l q = b := ⟨_, rfl⟩
        have HQ := Lib.hid (show askOut l q (hasS l q) = (b3, 0) ∧ askOut l q (meetsS l q) = (b4, 0) ∧ (kids.take (i + 1)).all (hasS l) = ((kids.take i).all (hasS l) && b3) ∧ (kids.take (i + 1)).any (meetsS l) = ((kids.take i).any (meetsS l) || b4) from
          ⟨(HD.out.kh q hqm).trans (by rw [hb3]), (HD.out.km q hqm).trans (by rw [hb4]), by rw [← hb3]; exact all_next hq, by rw [← hb4]; exact any_next hq⟩)
        clear hq hqm hb3 hb4
        generalize (kids.take i).all (hasS l) = b1 at *
        generalize (kids.take i).any (meetsS l) = b2 at *
        cases b1 <;> cases b2
        all_goals
          go_wp2_with fail
          refine (Has_is _ l q b3 0 _ (KI.out.sl (x, l) (List.mem_cons_of_mem _ List.mem_cons_self)) HD.out.len HQ.out.1).mono ?_
          rintro e w6 ⟨rfl, hb6⟩
          have hbd2 : (ad.add (i * 3)).block < wr.heap.size := by rw [add_block]; exact hbd
          have e1 := (hb6.cell (p := ad.add (i * 3)) hbd2).trans d1
          have e2 := (hb6.cell (p := ⟨(ad.add (i * 3)).block, (ad.add (i * 3)).off + 1, none⟩) hbd2).trans d2
          have e3 := (hb6.cell (p := ⟨(ad.add (i * 3)).block, (ad.add (i * 3)).off + 2, none⟩) hbd2).trans d3
          have KI2 := Lib.hid (KI.out.step hb6)
          have HBi2 := Lib.hid (HBi.out.trans (hb6.mono HBi.out.size))
          clear hb6 KI HBi d1 d2 d3 hbd hbd2
          go_wp2_with fail
          refine (Meets_is _ l q b4 0 _ (KI2.out.sl (x, l) (List.mem_cons_of_mem _ List.mem_cons_self)) HD.out.len HQ.out.2.1).mono ?_
          rintro e w7 ⟨rfl, hb7⟩
          have HBi3 := Lib.hid (HBi2.out.trans (hb7.mono HBi2.out.size))
          clear hb7 KI2 HBi2 e1 e2 e3
          go_wp2_with fail
          go_roundw
          case rel => exact ⟨i + 1, by go_num, by rw [HQ.out.2.2.1]; rfl, by rw [HQ.out.2.2.2]; rfl, by omega, HBi3.out⟩
          case measure => simp [intOf]; omega
      · have hall : kids.take i = kids := List.take_of_length_le (by have := HNk.out; omega)
        rw [hall]
        rw [(HD.out.ke rfl).1, (HD.out.ke rfl).2]
        clear hall K5 HBi
        go_wp2_with fail
        rcases HD.out.co with (e1 | e1) | ⟨c, wide, e1, hCD, hcm⟩
        · refine (Coarse_is _ l L [] 1 _ (KI.out.sl (x, l) (List.mem_cons_of_mem _ List.mem_cons_self)) HD.out.len e1).mono ?_
          rintro e w7 ⟨⟨cv, rfl, _⟩, hb7⟩
          have K7 := Lib.hid (KI.out.step hb7)
          clear hb7 KI e1
          go_wp2_with fail
          go_ret
          exact ⟨rfl, K7.out.bel⟩
        · refine (Coarse_is _ l L [] 2 _ (KI.out.sl (x, l) (List.mem_cons_of_mem _ List.mem_cons_self)) HD.out.len e1).mono ?_
          rintro e w7 ⟨⟨cv, rfl, _⟩, hb7⟩
          have K7 := Lib.hid (KI.out.step hb7)
          clear hb7 KI e1
          go_wp2_with fail
          go_ret
          exact ⟨rfl, K7.out.bel⟩
        · refine (Coarse_is _ l L c 0 _ (KI.out.sl (x, l) (List.mem_cons_of_mem _ List.mem_cons_self)) HD.out.len e1).mono ?_
          rintro e w7 ⟨⟨cv, rfl, hs⟩, hb7⟩
          obtain ⟨Ac, cc, rfl⟩ := sl_form hs
          have K7 := Lib.hid ((KI.out.step hb7).slice hs)
          have HCD := Lib.hid (And.intro hCD hcm)
          clear hs hb7 KI e1 hCD hcm
          generalize hnc : c.length = nc at *
          have HNc := Lib.hid hnc
          clear hnc
          have hnc4 : nc ≤ 4096 := by have := HCD.out.1.len; have := HNc.out; omega
          go_wp2_with fail
          go_loopw [27, 28] (fun iv k wr => ∃ i : Nat, k = .int .i64 (i : Int) ∧ iv = .bool (decide (s ∈ c.take i)) ∧ i ≤ nc ∧ Below w7.heap.size w7 wr) (fun _ k _ => nc - (intOf k).toNat)
          case atStart => exact ⟨0, rfl, by simp, Nat.zero_le _, Below.refl _ _⟩
          case round =>
            obtain ⟨i, rfl, rfl, hin, hbel⟩ := hrel
            have KI := Lib.hid (K7.out.step hbel)
            have HBi := Lib.hid hbel
            clear hbel
            by_cases hlt : i < nc
            · obtain ⟨q, ad, hq, hqm, rfl, hbd, d1, d2, d3⟩ := sl_at (KI.out.sl (.slice Ac nc cc, c) List.mem_cons_self) hlt
              have HQ := Lib.hid (And.intro (HCD.out.2 q hqm) (And.intro (HCD.out.1.lvl q hqm) (mem_next (s := s) hq)))
              have HQi := Lib.hid hq
              clear hq hqm
              generalize decide (s ∈ c.take i) = b5 at *
              go_wp2_with fail
              refine (Meets_is _ l q true 0 _ (KI.out.sl (x, l) (List.mem_cons_of_mem _ (List.mem_cons_of_mem _ List.mem_cons_self))) HD.out.len HQ.out.1).mono ?_
              rintro e w8 ⟨rfl, hb8⟩
              have KJ := Lib.hid (KI.out.step hb8)
              have HBj := Lib.hid (HBi.out.trans (hb8.mono HBi.out.size))
              clear hb8 KI HBi d1 d2 d3 hbd
              obtain ⟨q', ad', hq, hqm, had, hbd, d1, d2, d3⟩ := sl_at (KJ.out.sl (.slice (some ad) nc cc, c) List.mem_cons_self) hlt
              obtain rfl : q = q' := by have := HQi.out; rw [hq] at this; injection this with this; exact this.symm
              injection had with had
              subst had
              rw [HQ.out.2.1] at d1
              clear hq hqm
              by_cases h0 : (0 : Int) < (i : Int)
              · obtain ⟨p, ad', hp, hpm, had, hpbd, g1, g2, g3⟩ := sl_at (KJ.out.sl (.slice (some ad) nc cc, c) List.mem_cons_self) (show i - 1 < nc by omega)
                injection had with had
                subst had
                have hwr1 : IntKind.i64.wrap ((i : Int) - 1) = ((i - 1 : Nat) : Int) := by rw [IntKind.wrap_i64]; omega
                have HAh := Lib.hid (fun w => show Calls Tryd.prog 45 #[.agg #[.int .i64 L, .int .i64 p.x, .int .i64 p.y], .agg #[.int .i64 L, .int .i64 q.x, .int .i64 q.y]] w fun e w' => e = .returned (.bool true) ∧ Below w.heap.size w w' from by
                  have h := rAhead_any p q w
                  rw [next_of_sorted HCD.out.1.sorted hp (by rw [show i - 1 + 1 = i by omega]; exact HQi.out), HQ.out.2.1, HCD.out.1.lvl p hpm] at h
                  exact h)
                rw [HCD.out.1.lvl p hpm] at g1
                have ss := fun z => (⟨⟨Wb.cell d1 z, Wb.cell d2 z, Wb.cell d3 z⟩, ⟨Wb.cell g1 z, Wb.cell g2 z, Wb.cell g3 z⟩⟩ : (_ ∧ _ ∧ _) ∧ (_ ∧ _ ∧ _))
                clear hp hpm hpbd g1 g2 g3
                have hi1 : i - 1 < nc := by omega
                have h0' : 0 < i := by omega
                have h0n : ¬ i = 0 := by omega
                go_wp2_with fail
                refine wp_region_wb (by kernel_rfl) (by kernel_rfl) ?_; (repeat ((with_reducible refine wpQuiet_step ?_); intro K hK; go_simp; (try (refine ite_neg_of (by simp [undef]) ?_)); first | (with_reducible refine hK _ ?_; clear hK K) | (apply Exists.intro; (with_reducible refine ⟨fun _ => ?_, hK _ ?_⟩); ((go_at_call 45; exact Calls.wb (HAh.out _))); clear hK K))); (with_reducible refine wpQuiet_nil ?_); rintro w1 ⟨⟨_, hb1⟩, rfl⟩; (try dsimp only)
                go_wp2_with fail
                have KL := Lib.hid (KJ.out.step hb1)
                have HBl := Lib.hid (HBj.out.trans (hb1.mono HBj.out.size))
                clear hb1 KJ HBj ss HAh d1 d2 d3 hbd
                obtain ⟨q', ad', hq, hqm, had, hbd, d1, d2, d3⟩ := sl_at (KL.out.sl (.slice (some ad) nc cc, c) List.mem_cons_self) hlt
                obtain rfl : q = q' := by have := HQi.out; rw [hq] at this; injection this with this; exact this.symm
                injection had with had
                subst had
                rw [HQ.out.2.1] at d1
                clear hq hqm
                obtain ⟨a0, a1, a2⟩ := sq_cells (s := s) (KL.out.mem (g, _) List.mem_cons_self)
                have HNx := Lib.hid HQ.out.2.2
                cases b5
                · by_cases el : s.l = L
                  · rw [el] at a0
                    by_cases ex : q.x = s.x
                    · rw [ex] at d2
                      by_cases ey : q.y = s.y
                      · rw [ey] at d3
                        have HE := Lib.hid (show decide (q = s) = true from decide_eq_true (Sq.ext3 (HQ.out.2.1.trans el.symm) ex ey))
                        clear el ex ey
                        have ss := fun z => (⟨⟨Wb.cell d1 z, Wb.cell d2 z, Wb.cell d3 z⟩, ⟨Wb.cell a0 z, Wb.cell a1 z, Wb.cell a2 z⟩⟩ : (_ ∧ _ ∧ _) ∧ (_ ∧ _ ∧ _))
                        refine wp_region_wb (by kernel_rfl) (by kernel_rfl) ?_; (repeat ((with_reducible refine wpQuiet_step ?_); intro K hK; go_simp; (try (refine ite_neg_of (by simp [undef]) ?_)); first | (with_reducible refine hK _ ?_; clear hK K) | (apply Exists.intro; (with_reducible refine ⟨fun _ => ?_, hK _ ?_⟩); (fail); clear hK K))); (with_reducible refine wpQuiet_nil ?_); rintro w1 ⟨⟨_, hb1⟩, rfl⟩; (try dsimp only)
                        go_wp2_with fail
                        have HBm := Lib.hid (HBl.out.trans (hb1.mono HBl.out.size))
                        clear hb1 ss a0 a1 a2 d1 d2 d3 KL HBl
                        go_roundw
                        case rel => exact ⟨i + 1, by go_num, by rw [HNx.out, HE.out]; rfl, by omega, HBm.out⟩
                        case measure => simp [intOf]; omega
                      · have HE := Lib.hid (show decide (q = s) = false from decide_eq_false (fun h => ey (by rw [h])))
                        clear el ex
                        have ss := fun z => (⟨⟨Wb.cell d1 z, Wb.cell d2 z, Wb.cell d3 z⟩, ⟨Wb.cell a0 z, Wb.cell a1 z, Wb.cell a2 z⟩⟩ : (_ ∧ _ ∧ _) ∧ (_ ∧ _ ∧ _))
                        refine wp_region_wb (by kernel_rfl) (by kernel_rfl) ?_; (repeat ((with_reducible refine wpQuiet_step ?_); intro K hK; go_simp; (try (refine ite_neg_of (by simp [undef]) ?_)); first | (with_reducible refine hK _ ?_; clear hK K) | (apply Exists.intro; (with_reducible refine ⟨fun _ => ?_, hK _ ?_⟩); (fail); clear hK K))); (with_reducible refine wpQuiet_nil ?_); rintro w1 ⟨⟨_, hb1⟩, rfl⟩; (try dsimp only)
                        go_wp2_with fail
                        have HBm := Lib.hid (HBl.out.trans (hb1.mono HBl.out.size))
                        clear hb1 ss a0 a1 a2 d1 d2 d3 KL HBl
                        go_roundw
                        case rel => exact ⟨i + 1, by go_num, by rw [HNx.out, HE.out]; rfl, by omega, HBm.out⟩
                        case measure => simp [intOf]; omega
                    · have HE := Lib.hid (show decide (q = s) = false from decide_eq_false (fun h => ex (by rw [h])))
                      clear el
                      have ss := fun z => (⟨⟨Wb.cell d1 z, Wb.cell d2 z, Wb.cell d3 z⟩, ⟨Wb.cell a0 z, Wb.cell a1 z, Wb.cell a2 z⟩⟩ : (_ ∧ _ ∧ _) ∧ (_ ∧ _ ∧ _))
                      refine wp_region_wb (by kernel_rfl) (by kernel_rfl) ?_; (repeat ((with_reducible refine wpQuiet_step ?_); intro K hK; go_simp; (try (refine ite_neg_of (by simp [undef]) ?_)); first | (with_reducible refine hK _ ?_; clear hK K) | (apply Exists.intro; (with_reducible refine ⟨fun _ => ?_, hK _ ?_⟩); (fail); clear hK K))); (with_reducible refine wpQuiet_nil ?_); rintro w1 ⟨⟨_, hb1⟩, rfl⟩; (try dsimp only)
                      go_wp2_with fail
                      have HBm := Lib.hid (HBl.out.trans (hb1.mono HBl.out.size))
                      clear hb1 ss a0 a1 a2 d1 d2 d3 KL HBl
                      go_roundw
                      case rel => exact ⟨i + 1, by go_num, by rw [HNx.out, HE.out]; rfl, by omega, HBm.out⟩
                      case measure => simp [intOf]; omega
                  · have HE := Lib.hid (show decide (q = s) = false from decide_eq_false (fun h => el (by rw [← h]; exact HQ.out.2.1)))
                    have el' : ¬ L = s.l := fun h => el h.symm
                    clear el
                    have ss := fun z => (⟨⟨Wb.cell d1 z, Wb.cell d2 z, Wb.cell d3 z⟩, ⟨Wb.cell a0 z, Wb.cell a1 z, Wb.cell a2 z⟩⟩ : (_ ∧ _ ∧ _) ∧ (_ ∧ _ ∧ _))
                    refine wp_region_wb (by kernel_rfl) (by kernel_rfl) ?_; (repeat ((with_reducible refine wpQuiet_step ?_); intro K hK; go_simp; (try (refine ite_neg_of (by simp [undef]) ?_)); first | (with_reducible refine hK _ ?_; clear hK K) | (apply Exists.intro; (with_reducible refine ⟨fun _ => ?_, hK _ ?_⟩); (fail); clear hK K))); (with_reducible refine wpQuiet_nil ?_); rintro w1 ⟨⟨_, hb1⟩, rfl⟩; (try dsimp only)
                    go_wp2_with fail
                    have HBm := Lib.hid (HBl.out.trans (hb1.mono HBl.out.size))
                    clear hb1 ss a0 a1 a2 d1 d2 d3 KL HBl
                    go_roundw
                    case rel => exact ⟨i + 1, by go_num, by rw [HNx.out, HE.out]; rfl, by omega, HBm.out⟩
                    case measure => simp [intOf]; omega
                · have ss := fun z => (⟨⟨Wb.cell d1 z, Wb.cell d2 z, Wb.cell d3 z⟩, ⟨Wb.cell a0 z, Wb.cell a1 z, Wb.cell a2 z⟩⟩ : (_ ∧ _ ∧ _) ∧ (_ ∧ _ ∧ _))
                  refine wp_region_wb (by kernel_rfl) (by kernel_rfl) ?_; (repeat ((with_reducible refine wpQuiet_step ?_); intro K hK; go_simp; (try (refine ite_neg_of (by simp [undef]) ?_)); first | (with_reducible refine hK _ ?_; clear hK K) | (apply Exists.intro; (with_reducible refine ⟨fun _ => ?_, hK _ ?_⟩); (fail); clear hK K))); (with_reducible refine wpQuiet_nil ?_); rintro w1 ⟨⟨_, hb1⟩, rfl⟩; (try dsimp only)
                  go_wp2_with fail
                  have HBm := Lib.hid (HBl.out.trans (hb1.mono HBl.out.size))
                  clear hb1 ss a0 a1 a2 d1 d2 d3 KL HBl
                  go_roundw
                  case rel => exact ⟨i + 1, by go_num, by rw [HNx.out]; rfl, by omega, HBm.out⟩
                  case measure => simp [intOf]; omega
              · have h0' : ¬ (0 < i) := by omega
                have ss := fun z => (⟨Wb.cell d1 z, Wb.cell d2 z, Wb.cell d3 z⟩ : _ ∧ _ ∧ _)
                go_wp2_with fail
                refine wp_region_wb (by kernel_rfl) (by kernel_rfl) ?_; (repeat ((with_reducible refine wpQuiet_step ?_); intro K hK; go_simp; (try (refine ite_neg_of (by simp [undef]) ?_)); first | (with_reducible refine hK _ ?_; clear hK K) | (apply Exists.intro; (with_reducible refine ⟨fun _ => ?_, hK _ ?_⟩); (fail); clear hK K))); (with_reducible refine wpQuiet_nil ?_); rintro w1 ⟨⟨_, hb1⟩, rfl⟩; (try dsimp only)
                go_wp2_with fail
                have KL := Lib.hid (KJ.out.step hb1)
                have HBl := Lib.hid (HBj.out.trans (hb1.mono HBj.out.size))
                clear hb1 KJ HBj ss d1 d2 d3 hbd
                obtain ⟨q', ad', hq, hqm, had, hbd, d1, d2, d3⟩ := sl_at (KL.out.sl (.slice (some ad) nc cc, c) List.mem_cons_self) hlt
                obtain rfl : q = q' := by have := HQi.out; rw [hq] at this; injection this with this; exact this.symm
                injection had with had
                subst had
                rw [HQ.out.2.1] at d1
                clear hq hqm
                obtain ⟨a0, a1, a2⟩ := sq_cells (s := s) (KL.out.mem (g, _) List.mem_cons_self)
                have HNx := Lib.hid HQ.out.2.2
                cases b5
                · by_cases el : s.l = L
                  · rw [el] at a0
                    by_cases ex : q.x = s.x
                    · rw [ex] at d2
                      by_cases ey : q.y = s.y
                      · rw [ey] at d3
                        have HE := Lib.hid (show decide (q = s) = true from decide_eq_true (Sq.ext3 (HQ.out.2.1.trans el.symm) ex ey))
                        clear el ex ey
                        have ss := fun z => (⟨⟨Wb.cell d1 z, Wb.cell d2 z, Wb.cell d3 z⟩, ⟨Wb.cell a0 z, Wb.cell a1 z, Wb.cell a2 z⟩⟩ : (_ ∧ _ ∧ _) ∧ (_ ∧ _ ∧ _))
                        refine wp_region_wb (by kernel_rfl) (by kernel_rfl) ?_; (repeat ((with_reducible refine wpQuiet_step ?_); intro K hK; go_simp; (try (refine ite_neg_of (by simp [undef]) ?_)); first | (with_reducible refine hK _ ?_; clear hK K) | (apply Exists.intro; (with_reducible refine ⟨fun _ => ?_, hK _ ?_⟩); (fail); clear hK K))); (with_reducible refine wpQuiet_nil ?_); rintro w1 ⟨⟨_, hb1⟩, rfl⟩; (try dsimp only)
                        go_wp2_with fail
                        have HBm := Lib.hid (HBl.out.trans (hb1.mono HBl.out.size))
                        clear hb1 ss a0 a1 a2 d1 d2 d3 KL HBl
                        go_roundw
                        case rel => exact ⟨i + 1, by go_num, by rw [HNx.out, HE.out]; rfl, by omega, HBm.out⟩
                        case measure => simp [intOf]; omega
                      · have HE := Lib.hid (show decide (q = s) = false from decide_eq_false (fun h => ey (by rw [h])))
                        clear el ex
                        have ss := fun z => (⟨⟨Wb.cell d1 z, Wb.cell d2 z, Wb.cell d3 z⟩, ⟨Wb.cell a0 z, Wb.cell a1 z, Wb.cell a2 z⟩⟩ : (_ ∧ _ ∧ _) ∧ (_ ∧ _ ∧ _))
                        refine wp_region_wb (by kernel_rfl) (by kernel_rfl) ?_; (repeat ((with_reducible refine wpQuiet_step ?_); intro K hK; go_simp; (try (refine ite_neg_of (by simp [undef]) ?_)); first | (with_reducible refine hK _ ?_; clear hK K) | (apply Exists.intro; (with_reducible refine ⟨fun _ => ?_, hK _ ?_⟩); (fail); clear hK K))); (with_reducible refine wpQuiet_nil ?_); rintro w1 ⟨⟨_, hb1⟩, rfl⟩; (try dsimp only)
                        go_wp2_with fail
                        have HBm := Lib.hid (HBl.out.trans (hb1.mono HBl.out.size))
                        clear hb1 ss a0 a1 a2 d1 d2 d3 KL HBl
                        go_roundw
                        case rel => exact ⟨i + 1, by go_num, by rw [HNx.out, HE.out]; rfl, by omega, HBm.out⟩
                        case measure => simp [intOf]; omega
                    · have HE := Lib.hid (show decide (q = s) = false from decide_eq_false (fun h => ex (by rw [h])))
                      clear el
                      have ss := fun z => (⟨⟨Wb.cell d1 z, Wb.cell d2 z, Wb.cell d3 z⟩, ⟨Wb.cell a0 z, Wb.cell a1 z, Wb.cell a2 z⟩⟩ : (_ ∧ _ ∧ _) ∧ (_ ∧ _ ∧ _))
                      refine wp_region_wb (by kernel_rfl) (by kernel_rfl) ?_; (repeat ((with_reducible refine wpQuiet_step ?_); intro K hK; go_simp; (try (refine ite_neg_of (by simp [undef]) ?_)); first | (with_reducible refine hK _ ?_; clear hK K) | (apply Exists.intro; (with_reducible refine ⟨fun _ => ?_, hK _ ?_⟩); (fail); clear hK K))); (with_reducible refine wpQuiet_nil ?_); rintro w1 ⟨⟨_, hb1⟩, rfl⟩; (try dsimp only)
                      go_wp2_with fail
                      have HBm := Lib.hid (HBl.out.trans (hb1.mono HBl.out.size))
                      clear hb1 ss a0 a1 a2 d1 d2 d3 KL HBl
                      go_roundw
                      case rel => exact ⟨i + 1, by go_num, by rw [HNx.out, HE.out]; rfl, by omega, HBm.out⟩
                      case measure => simp [intOf]; omega
                  · have HE := Lib.hid (show decide (q = s) = false from decide_eq_false (fun h => el (by rw [← h]; exact HQ.out.2.1)))
                    have el' : ¬ L = s.l := fun h => el h.symm
                    clear el
                    have ss := fun z => (⟨⟨Wb.cell d1 z, Wb.cell d2 z, Wb.cell d3 z⟩, ⟨Wb.cell a0 z, Wb.cell a1 z, Wb.cell a2 z⟩⟩ : (_ ∧ _ ∧ _) ∧ (_ ∧ _ ∧ _))
                    refine wp_region_wb (by kernel_rfl) (by kernel_rfl) ?_; (repeat ((with_reducible refine wpQuiet_step ?_); intro K hK; go_simp; (try (refine ite_neg_of (by simp [undef]) ?_)); first | (with_reducible refine hK _ ?_; clear hK K) | (apply Exists.intro; (with_reducible refine ⟨fun _ => ?_, hK _ ?_⟩); (fail); clear hK K))); (with_reducible refine wpQuiet_nil ?_); rintro w1 ⟨⟨_, hb1⟩, rfl⟩; (try dsimp only)
                    go_wp2_with fail
                    have HBm := Lib.hid (HBl.out.trans (hb1.mono HBl.out.size))
                    clear hb1 ss a0 a1 a2 d1 d2 d3 KL HBl
                    go_roundw
                    case rel => exact ⟨i + 1, by go_num, by rw [HNx.out, HE.out]; rfl, by omega, HBm.out⟩
                    case measure => simp [intOf]; omega
                · have ss := fun z => (⟨⟨Wb.cell d1 z, Wb.cell d2 z, Wb.cell d3 z⟩, ⟨Wb.cell a0 z, Wb.cell a1 z, Wb.cell a2 z⟩⟩ : (_ ∧ _ ∧ _) ∧ (_ ∧ _ ∧ _))
                  refine wp_region_wb (by kernel_rfl) (by kernel_rfl) ?_; (repeat ((with_reducible refine wpQuiet_step ?_); intro K hK; go_simp; (try (refine ite_neg_of (by simp [undef]) ?_)); first | (with_reducible refine hK _ ?_; clear hK K) | (apply Exists.intro; (with_reducible refine ⟨fun _ => ?_, hK _ ?_⟩); (fail); clear hK K))); (with_reducible refine wpQuiet_nil ?_); rintro w1 ⟨⟨_, hb1⟩, rfl⟩; (try dsimp only)
                  go_wp2_with fail
                  have HBm := Lib.hid (HBl.out.trans (hb1.mono HBl.out.size))
                  clear hb1 ss a0 a1 a2 d1 d2 d3 KL HBl
                  go_roundw
                  case rel => exact ⟨i + 1, by go_num, by rw [HNx.out]; rfl, by omega, HBm.out⟩
                  case measure => simp [intOf]; omega
            · obtain ⟨a0, a1, a2⟩ := sq_cells (s := s) (KI.out.mem (g, _) List.mem_cons_self)
              have HIn := Lib.hid (show s.l = L → decide (s ∈ c.take i) = true from fun h => by
                rw [List.take_of_length_le (by have := HNc.out; omega), Bool.eq_iff_iff, decide_eq_true_iff, HCD.out.1.mem s h, HD.out.mb])
              clear K7
              generalize decide (s ∈ c.take i) = b5 at *
              by_cases el : s.l = L
              · rw [HIn.out el]
                rw [el] at a0
                clear el
                go_wp2_with fail
                refine (NormalOut_is _ c wide 0 _ (KI.out.sl (.slice Ac nc cc, c) List.mem_cons_self) HCD.out.1.len.1 HCD.out.1.c1).mono ?_
                rintro e w9 ⟨⟨wv, rfl, hs⟩, hb9⟩
                have K9 := Lib.hid ((KI.out.step hb9).slice hs)
                clear hs hb9 KI a0 a1 a2
                go_wp2_with fail
                refine (Minus_is _ _ l wide [] _ (K9.out.sl (x, l) (List.mem_cons_of_mem _ (List.mem_cons_of_mem _ (List.mem_cons_of_mem _ List.mem_cons_self)))) (K9.out.sl (wv, wide) List.mem_cons_self) HD.out.len HCD.out.1.len.2 HCD.out.1.c2).mono ?_
                rintro e w10 ⟨⟨rv, rfl, hs⟩, hb10⟩
                obtain ⟨Ar, cr, rfl⟩ := sl_form hs
                have K10 := Lib.hid (K9.out.step hb10)
                clear hs hb10 K9
                go_wp2_with fail
                go_ret
                exact ⟨rfl, K10.out.bel⟩
              · go_wp2_with fail
                refine (NormalOut_is _ c wide 0 _ (KI.out.sl (.slice Ac nc cc, c) List.mem_cons_self) HCD.out.1.len.1 HCD.out.1.c1).mono ?_
                rintro e w9 ⟨⟨wv, rfl, hs⟩, hb9⟩
                have K9 := Lib.hid ((KI.out.step hb9).slice hs)
                clear hs hb9 KI a0 a1 a2
                go_wp2_with fail
                refine (Minus_is _ _ l wide [] _ (K9.out.sl (x, l) (List.mem_cons_of_mem _ (List.mem_cons_of_mem _ (List.mem_cons_of_mem _ List.mem_cons_self)))) (K9.out.sl (wv, wide) List.mem_cons_self) HD.out.len HCD.out.1.len.2 HCD.out.1.c2).mono ?_
                rintro e w10 ⟨⟨rv, rfl, hs⟩, hb10⟩
                obtain ⟨Ar, cr, rfl⟩ := sl_form hs
                have K10 := Lib.hid (K9.out.step hb10)
                clear hs hb10 K9
                go_wp2_with fail
                go_ret
                exact ⟨rfl, K10.out.bel⟩
  · have K2 := Lib.hid (K1.out.step hb2)
    clear hb2 K1
    go_wp2_with fail
    go_ret
    exact ⟨rfl, K2.out.bel⟩
end Go.Proofs.YtabolonlkocopaaDoor
