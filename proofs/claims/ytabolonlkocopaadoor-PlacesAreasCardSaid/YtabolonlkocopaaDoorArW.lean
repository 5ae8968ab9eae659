/- PlacesAreas: the walk. -/
import Derived.Test.YtabolonlkocopaaDoorOwI
import Derived.Test.YtabolonlkocopaaDoorBck
namespace Go.Proofs.YtabolonlkocopaaDoor
open Go.RowKit Go.Plc

theorem kb_two {w X : World} {x y : Value} {a b : List Sq} (h : Below w.heap.size w X) (hx : SqSl X X.heap.size x a) (hy : SqSl X X.heap.size y b) : KB w [] [(y, b), (x, a)] X :=
  KB.slice (KB.slice ⟨h, fun _ hp => absurd hp (List.not_mem_nil), fun _ hq => absurd hq (List.not_mem_nil)⟩ hx) hy
theorem area_three {w w1 w2 : World} {x y : Value} {a b : List Sq} (h1 : Below w.heap.size w w1) (h2 : Below w1.heap.size w1 w2) (hl : a.length ≤ 40 ∧ b.length ≤ 40) (ho : (∀ s ∈ a, s.okB = true) ∧ (∀ s ∈ b, s.okB = true)) (hx : SqSl w2 w2.heap.size x (nrm a)) (hy : SqSl w2 w2.heap.size y (nrm b)) :
    ∃ lx ly u m d, KB w [] [(y, ly), (x, lx)] w2 ∧ AreaD lx ly u m d := by
  obtain ⟨u, m, d, h⟩ := area_data (Rg.nrm ho.1 hl.1 (by decide)) (Rg.nrm ho.2 hl.2 (by decide))
  exact ⟨nrm a, nrm b, u, m, d, kb_two (h1.trans (h2.mono h1.size)) hx hy, h⟩
/-- five cells of a box -/
theorem five_cells {w : World} {g : Nat} {a b c d e : Value} {t : TypeId} (h : w.heap[g]? = some (.cells #[a, b, c, d, e] t)) :
    w.cell? ⟨g, 0, none⟩ = some a ∧ w.cell? ⟨g, 1, none⟩ = some b ∧ w.cell? ⟨g, 2, none⟩ = some c ∧ w.cell? ⟨g, 3, none⟩ = some d ∧ w.cell? ⟨g, 4, none⟩ = some e := by
  refine ⟨?_, ?_, ?_, ?_, ?_⟩ <;> simp [World.cell?, h]
set_option maxRecDepth 100000 in
set_option maxHeartbeats 16000000 in
theorem PlacesAreas_any (va vb : Value) (a b : List Sq) (w : World) (hM : MonthDays w) (hT : TabW w) (ha : SqSl w w.heap.size va a) (hb : SqSl w w.heap.size vb b) :
    Calls Tryd.prog 8 #[va, vb] w fun e w' => e = .returned (.bool true) ∧ Below w.heap.size w w' := by
  have HM := Lib.hid hM
  have HT := Lib.hid hT
  have HS := Lib.hid (And.intro ha hb)
  clear hM hT ha hb
  go_enter Tryd.func8, Tryd.ntmps8
  go_wp2_with fail
  refine (awake_any _ HM.out HT.out).mono ?_
  rintro e w1 ⟨rfl, hb1⟩
  have H1 := Lib.hid hb1
  clear hb1
  go_wp2_with fail
  refine (three_any va vb (.slice none 0 0) a b [] w1 (HS.out.1.step H1.out) (HS.out.2.step H1.out) (nil_sq _ _)).mono ?_
  rintro e w2 ⟨(⟨x, y, z, rfl, hl, ho, hx, hy, hz⟩ | ⟨x, y, z, rfl⟩), hb2⟩
  · obtain ⟨lx, ly, lu, lm, ld, hK, hD⟩ := area_three H1.out hb2 ⟨hl.1, hl.2.1⟩ ⟨ho.1, ho.2.1⟩ hx hy
    obtain ⟨Ax, cx, rfl⟩ := sl_form (show SqSl w2 w2.heap.size x lx from hK.sl _ (List.mem_cons_of_mem _ List.mem_cons_self))
    obtain ⟨Ay, cy, rfl⟩ := sl_form (show SqSl w2 w2.heap.size y ly from hK.sl _ List.mem_cons_self)
    have K0 := Lib.hid hK
    have HD := Lib.hid hD
    clear hl ho hx hy hz hK hD hb2 H1 HS
    go_wp2_with fail
    refine (Union_is _ _ lx ly lu _ (K0.out.sl (.slice Ax lx.length cx, lx) (List.mem_cons_of_mem _ List.mem_cons_self)) (K0.out.sl (.slice Ay ly.length cy, ly) List.mem_cons_self) HD.out.len.1 HD.out.len.2.1 HD.out.c1).mono ?_
    rintro e w3 ⟨⟨u, rfl, hs⟩, hb⟩
    obtain ⟨Au, cu, rfl⟩ := sl_form hs
    have K1 := Lib.hid ((K0.out.step hb).slice hs)
    clear hs hb K0
    go_wp2_with fail
    refine (Intersect_is _ _ lx ly lm _ (K1.out.sl (.slice Ax lx.length cx, lx) (List.mem_cons_of_mem _ (List.mem_cons_of_mem _ List.mem_cons_self))) (K1.out.sl (.slice Ay ly.length cy, ly) (List.mem_cons_of_mem _ List.mem_cons_self)) HD.out.len.1 HD.out.len.2.1 HD.out.c2).mono ?_
    rintro e w4 ⟨⟨m, rfl, hs⟩, hb⟩
    obtain ⟨Am, cm, rfl⟩ := sl_form hs
    have K2 := Lib.hid ((K1.out.step hb).slice hs)
    clear hs hb K1
    go_wp2_with fail
    refine (Minus_is _ _ lx ly ld _ (K2.out.sl (.slice Ax lx.length cx, lx) (List.mem_cons_of_mem _ (List.mem_cons_of_mem _ (List.mem_cons_of_mem _ List.mem_cons_self)))) (K2.out.sl (.slice Ay ly.length cy, ly) (List.mem_cons_of_mem _ (List.mem_cons_of_mem _ List.mem_cons_self))) HD.out.len.1 HD.out.len.2.1 HD.out.c3).mono ?_
    rintro e w5 ⟨⟨d, rfl, hs⟩, hb⟩
    obtain ⟨Ad, cd, rfl⟩ := sl_form hs
    have K3 := Lib.hid ((K2.out.step hb).slice hs)
    clear hs hb K2
    go_wp2_with fail
    refine (Intersect_is _ _ ld lm ([] : List Sq) _ (K3.out.sl (.slice Ad ld.length cd, ld) List.mem_cons_self) (K3.out.sl (.slice Am lm.length cm, lm) (List.mem_cons_of_mem _ List.mem_cons_self)) HD.out.len.2.2.2.2 HD.out.len.2.2.2.1 HD.out.c4).mono ?_
    rintro e w6 ⟨⟨none, rfl, hs⟩, hb⟩
    obtain ⟨Anone, cnone, rfl⟩ := sl_form hs
    have K4 := Lib.hid ((K3.out.step hb).slice hs)
    clear hs hb K3
    go_wp2_with fail
    refine (Union_is _ _ ld lm lx _ (K4.out.sl (.slice Ad ld.length cd, ld) (List.mem_cons_of_mem _ List.mem_cons_self)) (K4.out.sl (.slice Am lm.length cm, lm) (List.mem_cons_of_mem _ (List.mem_cons_of_mem _ List.mem_cons_self))) HD.out.len.2.2.2.2 HD.out.len.2.2.2.1 HD.out.c5).mono ?_
    rintro e w7 ⟨⟨back, rfl, hs⟩, hb⟩
    obtain ⟨Aback, cback, rfl⟩ := sl_form hs
    have K5 := Lib.hid ((K4.out.step hb).slice hs)
    clear hs hb K4
    have KB0 := Lib.hid (K5.out.new (.cells #[.slice Ax lx.length cx, .slice Ay ly.length cy, .slice Au lu.length cu, .slice Am lm.length cm, .slice Ad ld.length cd] 27))
    clear K5
    go_wp2_with fail
    obtain ⟨X0, hX0⟩ : ∃ X0, w7.alloc (.cells #[.slice Ax lx.length cx, .slice Ay ly.length cy, .slice Au lu.length cu, .slice Am lm.length cm, .slice Ad ld.length cd] 27) = X0 := ⟨_, rfl⟩
    rw [hX0] at KB0 ⊢
    clear hX0
    generalize hg : w7.heap.size = g at *
    clear hg
    obtain ⟨i0, hi0, hz0, hz1, hz2⟩ := info_parts infoInt
    have HZ := Lib.hid (show i0.size = 1 ∧ i0.bytes = 8 ∧ Tryd.prog.info? 3 = some i0 ∧ i0.zero = some (.int .i64 0) from ⟨hz1, hz2, hi0, hz0⟩)
    clear hz0 hz1 hz2 hi0
    go_loopw [21, 22] (fun v k wr => ∃ i : Nat, k = .int .i64 (i : Int) ∧ i ≤ 5 ∧ OwI X0 3 1 v i (intsV ([areaS lx, areaS ly, areaS lu, areaS lm, areaS ld].take i)) wr) (fun _ k _ => 5 - (intOf k).toNat)
    case atStart => exact ⟨0, rfl, by omega, OwI.start _ _ _⟩
    case round =>
      obtain ⟨i, rfl, hi5, hI⟩ := hrel
      have HI := Lib.hid hI
      clear hI
      have KJ := Lib.hid (KB0.out.step HI.out.bel)
      have hc : i = 0 ∨ i = 1 ∨ i = 2 ∨ i = 3 ∨ i = 4 ∨ i = 5 := by omega
      rcases hc with rfl | rfl | rfl | rfl | rfl | rfl
      · have HJ := Lib.hid (show OwI X0 3 1 u21 0 (intsV ([] : List Int)) wr from HI.out)
        clear HI hi5
        obtain ⟨q0, q1, q2, q3, q4⟩ := five_cells (KJ.out.mem (g, _) List.mem_cons_self)
        go_wp2_with fail
        refine (Area_is _ lx (areaS lx) _ (KJ.out.sl (.slice Ax lx.length cx, lx) (List.mem_cons_of_mem _ (List.mem_cons_of_mem _ (List.mem_cons_of_mem _ (List.mem_cons_of_mem _ (List.mem_cons_of_mem _ (List.mem_cons_of_mem _ List.mem_cons_self))))))) HD.out.len.1 HD.out.a1).mono ?_
        rintro e w8 ⟨rfl, hb⟩
        have HJ1 := Lib.hid (HJ.out.step hb)
        clear hb HJ KJ q0 q1 q2 q3 q4
        have HO := Lib.hid ((HJ1.out.own).alloc (.cells #[.int .i64 (areaS lx)] 3))
        have HCn := Lib.hid (cell_one_new w8 (.int .i64 (areaS lx)) 3)
        have HBs := Lib.hid (show X0.heap.size ≤ (w8.alloc (.cells #[.int .i64 (areaS lx)] 3)).heap.size from by have := HJ1.out.bound; simp; omega)
        go_wp2_with (at_builtin; refine wpList_append_own _ rfl _ _ 58 rfl X0.heap.size 3 i0 (.int .i64 0) 1 8 Tryd.underlying58 HZ.out.2.2.1 HZ.out.2.2.2 HZ.out.1 HZ.out.2.1 rfl (by decide) u21 0 (intsV ([] : List Int)) rfl HO.out ⟨w8.heap.size, 0, none⟩ 1 1 [.int .i64 (areaS lx)] rfl rfl HCn.out (by intro u hu; simp at hu; subst hu; rfl) (by unfold maxLen; omega) (by omega) HBs.out ?_; intro v4 w4 hown4 hg4 hnn4)
        go_roundw
        case rel => exact ⟨1, by go_num, by omega, HJ1.out.grown (below_new _) hg4 hown4⟩
        case measure => simp [intOf]
      · have HJ := Lib.hid (show OwI X0 3 1 u21 1 (intsV [areaS lx]) wr from HI.out)
        clear HI hi5
        obtain ⟨q0, q1, q2, q3, q4⟩ := five_cells (KJ.out.mem (g, _) List.mem_cons_self)
        go_wp2_with fail
        refine (Area_is _ ly (areaS ly) _ (KJ.out.sl (.slice Ay ly.length cy, ly) (List.mem_cons_of_mem _ (List.mem_cons_of_mem _ (List.mem_cons_of_mem _ (List.mem_cons_of_mem _ (List.mem_cons_of_mem _ List.mem_cons_self)))))) HD.out.len.2.1 HD.out.a2).mono ?_
        rintro e w8 ⟨rfl, hb⟩
        have HJ1 := Lib.hid (HJ.out.step hb)
        clear hb HJ KJ q0 q1 q2 q3 q4
        have HO := Lib.hid ((HJ1.out.own).alloc (.cells #[.int .i64 (areaS ly)] 3))
        have HCn := Lib.hid (cell_one_new w8 (.int .i64 (areaS ly)) 3)
        have HBs := Lib.hid (show X0.heap.size ≤ (w8.alloc (.cells #[.int .i64 (areaS ly)] 3)).heap.size from by have := HJ1.out.bound; simp; omega)
        go_wp2_with (at_builtin; refine wpList_append_own _ rfl _ _ 58 rfl X0.heap.size 3 i0 (.int .i64 0) 1 8 Tryd.underlying58 HZ.out.2.2.1 HZ.out.2.2.2 HZ.out.1 HZ.out.2.1 rfl (by decide) u21 1 (intsV [areaS lx]) rfl HO.out ⟨w8.heap.size, 0, none⟩ 1 1 [.int .i64 (areaS ly)] rfl rfl HCn.out (by intro u hu; simp at hu; subst hu; rfl) (by unfold maxLen; omega) (by omega) HBs.out ?_; intro v4 w4 hown4 hg4 hnn4)
        go_roundw
        case rel => exact ⟨2, by go_num, by omega, HJ1.out.grown (below_new _) hg4 hown4⟩
        case measure => simp [intOf]
      · have HJ := Lib.hid (show OwI X0 3 1 u21 2 (intsV [areaS lx, areaS ly]) wr from HI.out)
        clear HI hi5
        obtain ⟨q0, q1, q2, q3, q4⟩ := five_cells (KJ.out.mem (g, _) List.mem_cons_self)
        go_wp2_with fail
        refine (Area_is _ lu (areaS lu) _ (KJ.out.sl (.slice Au lu.length cu, lu) (List.mem_cons_of_mem _ (List.mem_cons_of_mem _ (List.mem_cons_of_mem _ (List.mem_cons_of_mem _ List.mem_cons_self))))) HD.out.len.2.2.1 HD.out.a3).mono ?_
        rintro e w8 ⟨rfl, hb⟩
        have HJ1 := Lib.hid (HJ.out.step hb)
        clear hb HJ KJ q0 q1 q2 q3 q4
        have HO := Lib.hid ((HJ1.out.own).alloc (.cells #[.int .i64 (areaS lu)] 3))
        have HCn := Lib.hid (cell_one_new w8 (.int .i64 (areaS lu)) 3)
        have HBs := Lib.hid (show X0.heap.size ≤ (w8.alloc (.cells #[.int .i64 (areaS lu)] 3)).heap.size from by have := HJ1.out.bound; simp; omega)
        go_wp2_with (at_builtin; refine wpList_append_own _ rfl _ _ 58 rfl X0.heap.size 3 i0 (.int .i64 0) 1 8 Tryd.underlying58 HZ.out.2.2.1 HZ.out.2.2.2 HZ.out.1 HZ.out.2.1 rfl (by decide) u21 2 (intsV [areaS lx, areaS ly]) rfl HO.out ⟨w8.heap.size, 0, none⟩ 1 1 [.int .i64 (areaS lu)] rfl rfl HCn.out (by intro u hu; simp at hu; subst hu; rfl) (by unfold maxLen; omega) (by omega) HBs.out ?_; intro v4 w4 hown4 hg4 hnn4)
        go_roundw
        case rel => exact ⟨3, by go_num, by omega, HJ1.out.grown (below_new _) hg4 hown4⟩
        case measure => simp [intOf]
      · have HJ := Lib.hid (show OwI X0 3 1 u21 3 (intsV [areaS lx, areaS ly, areaS lu]) wr from HI.out)
        clear HI hi5
        obtain ⟨q0, q1, q2, q3, q4⟩ := five_cells (KJ.out.mem (g, _) List.mem_cons_self)
        go_wp2_with fail
        refine (Area_is _ lm (areaS lm) _ (KJ.out.sl (.slice Am lm.length cm, lm) (List.mem_cons_of_mem _ (List.mem_cons_of_mem _ (List.mem_cons_of_mem _ List.mem_cons_self)))) HD.out.len.2.2.2.1 HD.out.a4).mono ?_
        rintro e w8 ⟨rfl, hb⟩
        have HJ1 := Lib.hid (HJ.out.step hb)
        clear hb HJ KJ q0 q1 q2 q3 q4
        have HO := Lib.hid ((HJ1.out.own).alloc (.cells #[.int .i64 (areaS lm)] 3))
        have HCn := Lib.hid (cell_one_new w8 (.int .i64 (areaS lm)) 3)
        have HBs := Lib.hid (show X0.heap.size ≤ (w8.alloc (.cells #[.int .i64 (areaS lm)] 3)).heap.size from by have := HJ1.out.bound; simp; omega)
        go_wp2_with (at_builtin; refine wpList_append_own _ rfl _ _ 58 rfl X0.heap.size 3 i0 (.int .i64 0) 1 8 Tryd.underlying58 HZ.out.2.2.1 HZ.out.2.2.2 HZ.out.1 HZ.out.2.1 rfl (by decide) u21 3 (intsV [areaS lx, areaS ly, areaS lu]) rfl HO.out ⟨w8.heap.size, 0, none⟩ 1 1 [.int .i64 (areaS lm)] rfl rfl HCn.out (by intro u hu; simp at hu; subst hu; rfl) (by unfold maxLen; omega) (by omega) HBs.out ?_; intro v4 w4 hown4 hg4 hnn4)
        go_roundw
        case rel => exact ⟨4, by go_num, by omega, HJ1.out.grown (below_new _) hg4 hown4⟩
        case measure => simp [intOf]
      · have HJ := Lib.hid (show OwI X0 3 1 u21 4 (intsV [areaS lx, areaS ly, areaS lu, areaS lm]) wr from HI.out)
        clear HI hi5
        obtain ⟨q0, q1, q2, q3, q4⟩ := five_cells (KJ.out.mem (g, _) List.mem_cons_self)
        go_wp2_with fail
        refine (Area_is _ ld (areaS ld) _ (KJ.out.sl (.slice Ad ld.length cd, ld) (List.mem_cons_of_mem _ (List.mem_cons_of_mem _ List.mem_cons_self))) HD.out.len.2.2.2.2 HD.out.a5).mono ?_
        rintro e w8 ⟨rfl, hb⟩
        have HJ1 := Lib.hid (HJ.out.step hb)
        clear hb HJ KJ q0 q1 q2 q3 q4
        have HO := Lib.hid ((HJ1.out.own).alloc (.cells #[.int .i64 (areaS ld)] 3))
        have HCn := Lib.hid (cell_one_new w8 (.int .i64 (areaS ld)) 3)
        have HBs := Lib.hid (show X0.heap.size ≤ (w8.alloc (.cells #[.int .i64 (areaS ld)] 3)).heap.size from by have := HJ1.out.bound; simp; omega)
        go_wp2_with (at_builtin; refine wpList_append_own _ rfl _ _ 58 rfl X0.heap.size 3 i0 (.int .i64 0) 1 8 Tryd.underlying58 HZ.out.2.2.1 HZ.out.2.2.2 HZ.out.1 HZ.out.2.1 rfl (by decide) u21 4 (intsV [areaS lx, areaS ly, areaS lu, areaS lm]) rfl HO.out ⟨w8.heap.size, 0, none⟩ 1 1 [.int .i64 (areaS ld)] rfl rfl HCn.out (by intro u hu; simp at hu; subst hu; rfl) (by unfold maxLen; omega) (by omega) HBs.out ?_; intro v4 w4 hown4 hg4 hnn4)
        go_roundw
        case rel => exact ⟨5, by go_num, by omega, HJ1.out.grown (below_new _) hg4 hown4⟩
        case measure => simp [intOf]
      · have HJ := Lib.hid (show OwI X0 3 1 u21 5 (intsV [areaS lx, areaS ly, areaS lu, areaS lm, areaS ld]) wr from HI.out)
        clear HI hi5
        obtain ⟨gv, cv, rfl, hgv1, hgv2, hcv⟩ := own_cells (L := [areaS lx, areaS ly, areaS lu, areaS lm, areaS ld]) HJ.out.own (by simp)
        have q0 := hcv 0 (areaS lx) rfl
        have q1 := hcv 1 (areaS ly) rfl
        have q2 := hcv 2 (areaS lu) rfl
        have q3 := hcv 3 (areaS lm) rfl
        have q4 := hcv 4 (areaS ld) rfl
        have ss := fun p => (⟨Wb.cell q0 p, Wb.cell q1 p, Wb.cell q2 p, Wb.cell q3 p, Wb.cell q4 p⟩ : _ ∧ _ ∧ _ ∧ _ ∧ _)
        have HSm := Lib.hid (fun p : Wb wr => Same_is (.slice Aback lx.length cback) (.slice Ax lx.length cx) lx p.v ((KJ.out.step p.h).sl (_, lx) List.mem_cons_self) ((KJ.out.step p.h).sl (_, lx) (List.mem_cons_of_mem _ (List.mem_cons_of_mem _ (List.mem_cons_of_mem _ (List.mem_cons_of_mem _ (List.mem_cons_of_mem _ (List.mem_cons_of_mem _ List.mem_cons_self))))))) HD.out.len.1)
        have hd := HD.out.s1
        have he := HD.out.s2
        have hbs := HD.out.b1
        have hbs2 := HD.out.b2
        have hbs3 := HD.out.b3
        have hbs4 := HD.out.b4
        have hbs5 := HD.out.b5
        generalize areaS lx = n1 at *
        generalize areaS ly = n2 at *
        generalize areaS lu = n3 at *
        generalize areaS lm = n4 at *
        generalize areaS ld = n5 at *
        clear hcv q0 q1 q2 q3 q4 KB0 HD HM HT HZ
        go_wp2_with fail
        refine wp_region_wb (by kernel_rfl) (by kernel_rfl) ?_; (repeat ((with_reducible refine wpQuiet_step ?_); intro K hK; go_simp; (try (refine ite_neg_of (by simp [undef]) ?_)); first | (with_reducible refine hK _ ?_; clear hK K) | (apply Exists.intro; (with_reducible refine ⟨fun _ => ?_, hK _ ?_⟩); ((go_at_call 24; exact Calls.wb (HSm.out _))); clear hK K))); (with_reducible refine wpQuiet_nil ?_); rintro w1 ⟨⟨_, hb1⟩, rfl⟩; (try dsimp only)
        go_wp2_with fail
        have hw1 : IntKind.i64.wrap n1 = n1 := by rw [IntKind.wrap_i64]; omega
        go_ret
        exact ⟨ret_b (by rw [hw1]; simp), (KJ.out.step hb1).bel⟩
  · have H2 := Lib.hid (H1.out.trans (hb2.mono H1.out.size))
    clear hb2
    go_wp2_with fail
    go_ret
    exact ⟨rfl, H2.out⟩
end Go.Proofs.YtabolonlkocopaaDoor
