/- The reference's texts: of a date, of a square, of a night. -/
import Derived.Test.YtabolonlkocopaaGreatDoorTxD
import Derived.Test.YtabolonlkocopaaGreatDoorRnt
import Derived.Test.YtabolonlkocopaaGreatDoorBck
import Derived.Test.YtabolonlkocopaaGreatDoorSquW
namespace Go.Proofs.YtabolonlkocopaaGreatDoor
open Go.RowKit Go.Plc
attribute [local go_sem] ba_app

theorem rdig_is (n k : Int) (R : List UInt8) (w : World) (h0 : 0 ≤ n) (h1 : n < 10000) (hk0 : 0 ≤ k) (hk : k ≤ 4) (e : digF 6 n.toNat k.toNat [] = R) :
    Calls Tryz.prog 72 #[.int .i64 n, .int .i64 k] w fun e w' => e = .returned (.string ⟨R.toArray⟩) ∧ Below w.heap.size w w' := by
  have h := rdigits_any n.toNat k.toNat w (by omega) (by omega)
  rw [e, Int.toNat_of_nonneg h0, Int.toNat_of_nonneg hk0] at h
  exact h
theorem digI_one {n : Int} (h0 : 0 ≤ n) (h : n < 10000) : digF 6 n.toNat (1 : Int).toNat [] = Lib.itoa n := by
  have := dig_one (n := n.toNat) (by omega); rwa [Int.toNat_of_nonneg h0] at this
theorem digI_two {n : Int} (h0 : 0 ≤ n) (h : n < 100) : digF 6 n.toNat (2 : Int).toNat [] = two n := by
  have := dig_two (n := n.toNat) (by omega); rwa [Int.toNat_of_nonneg h0] at this
theorem digI_four {n : Int} (h0 : 1000 ≤ n) (h : n < 10000) : digF 6 n.toNat (4 : Int).toNat [] = Lib.itoa n := by
  have := dig_four (n := n.toNat) (by omega) (by omega); rwa [Int.toNat_of_nonneg (by omega)] at this

set_option maxRecDepth 100000 in
set_option maxHeartbeats 4000000 in
theorem rtext_any (y m d : Int) (w : World) (hv : vdate y m d = true) :
    Calls Tryz.prog 79 #[.agg #[.int .i64 y, .int .i64 m, .int .i64 d]] w fun e w' => e = .returned (.string ⟨(dateT y m d).toArray⟩) ∧ Below w.heap.size w w' := by
  obtain ⟨v1, v2, v3, v4, v5, v6⟩ := (vdate_iff y m d).1 hv
  have hdm := dom_bd y m
  have l1 := Lib.itoa_length_le (2000 + y) (by omega) (by omega)
  have l2 := two_len m (by omega) (by omega)
  have l3 := two_len d (by omega) (by omega)
  have HD := Lib.hid (show dateT y m d = Lib.itoa (2000 + y) ++ [45] ++ two m ++ [45] ++ two d from rfl)
  have HM := Lib.hid (fun w => rdig_is m 2 _ w (by omega) (by omega) (by omega) (by omega) (digI_two (n := m) (by omega) (by omega)))
  have HDd := Lib.hid (fun w => rdig_is d 2 _ w (by omega) (by omega) (by omega) (by omega) (digI_two (n := d) (by omega) (by omega)))
  have HI := Lib.hid (fun w => rdig_is (2000 + y) 4 _ w (by omega) (by omega) (by omega) (by omega) (digI_four (n := 2000 + y) (by omega) (by omega)))
  have hwr : IntKind.i64.wrap (2000 + y) = 2000 + y := by rw [IntKind.wrap_i64]; omega
  generalize Lib.itoa (2000 + y) = s1 at *
  generalize two m = s2 at *
  generalize two d = s3 at *
  clear hv
  go_enter Tryz.func79, Tryz.ntmps79
  go_wp2_with fail
  have tt := (show (w.alloc (.cells #[.int .i64 y, .int .i64 m, .int .i64 d] 48)).cell? ⟨w.heap.size, 0, none⟩ = some (.int .i64 y) ∧ (w.alloc (.cells #[.int .i64 y, .int .i64 m, .int .i64 d] 48)).cell? ⟨w.heap.size, 1, none⟩ = some (.int .i64 m) ∧ (w.alloc (.cells #[.int .i64 y, .int .i64 m, .int .i64 d] 48)).cell? ⟨w.heap.size, 2, none⟩ = some (.int .i64 d) by simp)
  have ss := fun p => (⟨Wb.cell tt.1 p, Wb.cell tt.2.1 p, Wb.cell tt.2.2 p⟩ : _ ∧ _ ∧ _)
  refine wp_region_wb (by kernel_rfl) (by kernel_rfl) ?_; (repeat ((with_reducible refine wpQuiet_step ?_); intro K hK; go_simp; (try (refine ite_neg_of (by simp [undef]) ?_)); first | (with_reducible refine hK _ ?_; clear hK K) | (apply Exists.intro; (with_reducible refine ⟨fun _ => ?_, hK _ ?_⟩); (first | (go_at_call 72; first | with_reducible exact Calls.wb (HI.out _) | with_reducible exact Calls.wb (HM.out _) | with_reducible exact Calls.wb (HDd.out _)) | (rw [if_neg (by omega)]; exact ⟨rfl, rfl⟩)); clear hK K))); (with_reducible refine wpQuiet_nil ?_); rintro w1 ⟨⟨_, hb1⟩, rfl⟩; (try dsimp only)
  go_wp2_with fail
  go_ret
  exact ⟨ret_v (by rw [HD.out]; simp), (below_new _).trans (hb1.mono (by simp))⟩

set_option maxRecDepth 100000 in
set_option maxHeartbeats 4000000 in
theorem rPrintSquare_any (s : Sq) (w : World) :
    Calls Tryz.prog 28 #[sqv s] w fun e w' => e = .returned (.tuple #[.string ⟨(printOut s).1.toArray⟩, .int .i64 (printOut s).2]) ∧ Below w.heap.size w w' := by
  have HV := Lib.hid (rValidSquare_any s.l s.x s.y (w.alloc (.cells #[.int .i64 s.l, .int .i64 s.x, .int .i64 s.y] 31)))
  rw [show (Sq.mk s.l s.x s.y) = s from rfl] at HV
  cases hs : s.okB
  · have HO := Lib.hid (show printOut s = ([], 10) by unfold printOut; rw [hs]; rfl)
    rw [hs] at HV
    clear hs
    rw [HO.out]
    unfold sqv
    go_enter Tryz.func28, Tryz.ntmps28
    go_wp2_with fail
    refine HV.out.mono ?_
    rintro e w1 ⟨rfl, hb1⟩
    have HB := Lib.hid (show Below w.heap.size w w1 from (below_new _).trans (hb1.mono (by simp)))
    clear hb1
    go_wp2_with fail
    go_ret2
    exact ⟨rfl, HB.out⟩
  · obtain ⟨v1, v2, v3, v4, v5, v6⟩ := (Sq.okB_iff s).1 hs
    have hsd := side_le s.l v1
    have l1 := Lib.itoa_length_le s.l (by omega) (by omega)
    have l2 := Lib.itoa_length_le s.x (by omega) (by omega)
    have l3 := Lib.itoa_length_le s.y (by omega) (by omega)
    have HO := Lib.hid (show printOut s = (Lib.itoa s.l ++ [58] ++ Lib.itoa s.x ++ [44] ++ Lib.itoa s.y, 0) by unfold printOut; rw [hs]; rfl)
    have HI := Lib.hid (fun w => rdig_is s.l 1 _ w (by omega) (by omega) (by omega) (by omega) (digI_one (n := s.l) (by omega) (by omega)))
    have HX := Lib.hid (fun w => rdig_is s.x 1 _ w (by omega) (by omega) (by omega) (by omega) (digI_one (n := s.x) (by omega) (by omega)))
    have HY := Lib.hid (fun w => rdig_is s.y 1 _ w (by omega) (by omega) (by omega) (by omega) (digI_one (n := s.y) (by omega) (by omega)))
    rw [hs] at HV
    clear hs
    rw [HO.out]
    clear HO
    generalize Lib.itoa s.l = s1 at *
    generalize Lib.itoa s.x = s2 at *
    generalize Lib.itoa s.y = s3 at *
    unfold sqv at *
    go_enter Tryz.func28, Tryz.ntmps28
    go_wp2_with fail
    refine HV.out.mono ?_
    rintro e w1 ⟨rfl, hb1⟩
    have HB := Lib.hid (show Below w.heap.size w w1 from (below_new _).trans (hb1.mono (by simp)))
    have tt := sq_cells (s := s) ((hb1.block w.heap.size (by simp)).trans (World.alloc_heap_new w _))
    clear hb1
    have ss := fun p => (⟨Wb.cell tt.1 p, Wb.cell tt.2.1 p, Wb.cell tt.2.2 p⟩ : _ ∧ _ ∧ _)
    go_wp2_with fail
    refine wp_region_wb (by kernel_rfl) (by kernel_rfl) ?_; (repeat ((with_reducible refine wpQuiet_step ?_); intro K hK; go_simp; (try (refine ite_neg_of (by simp [undef]) ?_)); first | (with_reducible refine hK _ ?_; clear hK K) | (apply Exists.intro; (with_reducible refine ⟨fun _ => ?_, hK _ ?_⟩); (first | (go_at_call 72; first | with_reducible exact Calls.wb (HI.out _) | with_reducible exact Calls.wb (HX.out _) | with_reducible exact Calls.wb (HY.out _)) | (rw [if_neg (by omega)]; exact ⟨rfl, rfl⟩)); clear hK K))); (with_reducible refine wpQuiet_nil ?_); rintro w1 ⟨⟨_, hb1⟩, rfl⟩; (try dsimp only)
    go_wp2_with fail
    go_ret2
    exact ⟨by simp, HB.out.trans (hb1.mono HB.out.size)⟩

set_option maxRecDepth 100000 in
set_option maxHeartbeats 4000000 in
theorem rPrintNight_any (n : Int) (w : World) : Calls Tryz.prog 32 #[.int .i64 n] w (PrintRes n w) := by
  have HV := Lib.hid (fun w => rwithin_any n 0 99999 w)
  by_cases hn : 0 ≤ n ∧ n ≤ 99999
  · have e1 : (decide (0 ≤ n) && decide (n ≤ 99999)) = true := by simp; omega
    have hwr : IntKind.i64.wrap (n + 1) = n + 1 := by rw [IntKind.wrap_i64]; omega
    rw [e1] at HV
    have HN := Lib.hid hn
    have HD := Lib.hid (fun w => rdate_any n w hn.1 (by omega))
    have HD2 := Lib.hid (fun w => rdate_any (n + 1) w (by omega) (by omega))
    clear hn e1
    go_enter Tryz.func32, Tryz.ntmps32
    go_wp2_with fail
    refine (HV.out _).mono ?_
    rintro e w1 ⟨rfl, rfl⟩
    go_wp2_with fail
    refine (HD.out _).mono ?_
    rintro e w2 ⟨y, m, d, rfl, hv, hnm, hb⟩
    have H2 := Lib.hid (And.intro hv hnm)
    have K1 := Lib.hid ((KB.mk hb (fun p hp => (by cases hp)) (fun q hq => (by cases hq)) : KB w [] [] w2).new (.cells #[.int .i64 y, .int .i64 m, .int .i64 d] 48))
    clear hb hv hnm
    go_wp2_with fail
    refine (HD2.out _).mono ?_
    rintro e w3 ⟨y', m', d', rfl, hv, hnm, hb⟩
    have H3 := Lib.hid (And.intro hv hnm)
    have K2 := Lib.hid ((K1.out.step hb).new (.cells #[.int .i64 y', .int .i64 m', .int .i64 d'] 48))
    clear hb hv hnm K1 HD HD2 HV hwr
    generalize hg1 : w2.heap.size = g1 at *
    generalize hg2 : w3.heap.size = g2 at *
    clear hg1
    have l1 := dateT_len y m d H2.out.1
    have l2 := dateT_len y' m' d' H3.out.1
    obtain ⟨v1, v2, v3, v4, v5, v6⟩ := (vdate_iff y' m' d').1 H3.out.1
    have hdm := dom_bd y' m'
    have l3 := two_len m' (by omega) (by omega)
    have l4 := two_len d' (by omega) (by omega)
    have HD := Lib.hid (fun w => rtext_any y m d w H2.out.1)
    have HD' := Lib.hid (fun w => rtext_any y' m' d' w H3.out.1)
    have HTm := Lib.hid (fun w => rdig_is m' 2 _ w (by omega) (by omega) (by omega) (by omega) (digI_two (n := m') (by omega) (by omega)))
    have HTd := Lib.hid (fun w => rdig_is d' 2 _ w (by omega) (by omega) (by omega) (by omega) (digI_two (n := d') (by omega) (by omega)))
    have HNt := Lib.hid (show nightT y m d y' m' d' = dateT y m d ++ [47] ++ (if y' ≠ y then dateT y' m' d' else if m' ≠ m then two m' ++ [45] ++ two d' else two d') from rfl)
    have HFin := Lib.hid (fun (W : World) (hW : Below w.heap.size w W) (tx : List UInt8) (hx : nightT y m d y' m' d' = tx) => show PrintRes n w (.returned (.tuple #[.string ⟨tx.toArray⟩, .int .i64 0])) W from
      ⟨.inl ⟨HN.out.1, HN.out.2, y, m, d, y', m', d', by rw [hx], H2.out.1, H2.out.2, H3.out.1, H3.out.2⟩, hW⟩)
    generalize dateT y m d = s1 at *
    generalize dateT y' m' d' = s2 at *
    generalize two m' = s3 at *
    generalize two d' = s4 at *
    clear v1 v2 v3 v4 v5 v6 hdm H2 H3
    obtain ⟨b0, b1, b2⟩ := date_cells (K2.out.mem (g1, _) (List.mem_cons_of_mem _ List.mem_cons_self))
    obtain ⟨e0, e1, e2⟩ := date_cells (K2.out.mem (g2, _) List.mem_cons_self)
    have hz1 := K2.out.lt (g := g1) (List.mem_cons_of_mem _ List.mem_cons_self)
    have hz2 := K2.out.lt (g := g2) List.mem_cons_self
    cases a1 : (y != y') <;> cases a2 : (m != m')
    · have HR := Lib.hid (And.intro a1 a2)
      have ss := fun p => (⟨⟨Wb.cell b0 p, Wb.cell b1 p, Wb.cell b2 p⟩, ⟨Wb.cell e0 p, Wb.cell e1 p, Wb.cell e2 p⟩⟩ : (_ ∧ _ ∧ _) ∧ (_ ∧ _ ∧ _))
      go_wp2_with fail
      refine wp_region_wb (by kernel_rfl) (by kernel_rfl) ?_; (repeat ((with_reducible refine wpQuiet_step ?_); intro K hK; go_simp; (try (refine ite_neg_of (by simp [undef]) ?_)); first | (with_reducible refine hK _ ?_; clear hK K) | (apply Exists.intro; (with_reducible refine ⟨fun _ => ?_, hK _ ?_⟩); ((first | (go_at_call 79; first | with_reducible exact Calls.wb (HD.out _) | with_reducible exact Calls.wb (HD'.out _)) | (go_at_call 72; first | with_reducible exact Calls.wb (HTm.out _) | with_reducible exact Calls.wb (HTd.out _)) | (rw [if_neg (by omega)]; exact ⟨rfl, rfl⟩))); clear hK K))); (with_reducible refine wpQuiet_nil ?_); rintro w1 ⟨⟨_, hb1⟩, rfl⟩; (try dsimp only)
      go_wp2_with fail
      go_ret2
      exact HFin.out _ (K2.out.bel.trans (hb1.mono K2.out.bel.size)) _ (by rw [HNt.out]; have h := HR.out; simp at h; simp [h.1, h.2])
    · have HR := Lib.hid (And.intro a1 a2)
      have ss := fun p => (⟨⟨Wb.cell b0 p, Wb.cell b1 p, Wb.cell b2 p⟩, ⟨Wb.cell e0 p, Wb.cell e1 p, Wb.cell e2 p⟩⟩ : (_ ∧ _ ∧ _) ∧ (_ ∧ _ ∧ _))
      go_wp2_with fail
      refine wp_region_wb (by kernel_rfl) (by kernel_rfl) ?_; (repeat ((with_reducible refine wpQuiet_step ?_); intro K hK; go_simp; (try (refine ite_neg_of (by simp [undef]) ?_)); first | (with_reducible refine hK _ ?_; clear hK K) | (apply Exists.intro; (with_reducible refine ⟨fun _ => ?_, hK _ ?_⟩); ((first | (go_at_call 79; first | with_reducible exact Calls.wb (HD.out _) | with_reducible exact Calls.wb (HD'.out _)) | (go_at_call 72; first | with_reducible exact Calls.wb (HTm.out _) | with_reducible exact Calls.wb (HTd.out _)) | (rw [if_neg (by omega)]; exact ⟨rfl, rfl⟩))); clear hK K))); (with_reducible refine wpQuiet_nil ?_); rintro w1 ⟨⟨_, hb1⟩, rfl⟩; (try dsimp only)
      go_wp2_with fail
      go_ret2
      exact HFin.out _ (K2.out.bel.trans (hb1.mono K2.out.bel.size)) _ (by rw [HNt.out]; have h := HR.out; simp at h; simp [h.1, Ne.symm h.2])
    · have HR := Lib.hid (And.intro a1 a2)
      have ss := fun p => (⟨⟨Wb.cell b0 p, Wb.cell b1 p, Wb.cell b2 p⟩, ⟨Wb.cell e0 p, Wb.cell e1 p, Wb.cell e2 p⟩⟩ : (_ ∧ _ ∧ _) ∧ (_ ∧ _ ∧ _))
      go_wp2_with fail
      refine wp_region_wb (by kernel_rfl) (by kernel_rfl) ?_; (repeat ((with_reducible refine wpQuiet_step ?_); intro K hK; go_simp; (try (refine ite_neg_of (by simp [undef]) ?_)); first | (with_reducible refine hK _ ?_; clear hK K) | (apply Exists.intro; (with_reducible refine ⟨fun _ => ?_, hK _ ?_⟩); ((first | (go_at_call 79; first | with_reducible exact Calls.wb (HD.out _) | with_reducible exact Calls.wb (HD'.out _)) | (go_at_call 72; first | with_reducible exact Calls.wb (HTm.out _) | with_reducible exact Calls.wb (HTd.out _)) | (rw [if_neg (by omega)]; exact ⟨rfl, rfl⟩))); clear hK K))); (with_reducible refine wpQuiet_nil ?_); rintro w1 ⟨⟨_, hb1⟩, rfl⟩; (try dsimp only)
      go_wp2_with fail
      go_ret2
      exact HFin.out _ (K2.out.bel.trans (hb1.mono K2.out.bel.size)) _ (by rw [HNt.out]; have h := HR.out; simp at h; simp [Ne.symm h.1])
    · have HR := Lib.hid (And.intro a1 a2)
      have ss := fun p => (⟨⟨Wb.cell b0 p, Wb.cell b1 p, Wb.cell b2 p⟩, ⟨Wb.cell e0 p, Wb.cell e1 p, Wb.cell e2 p⟩⟩ : (_ ∧ _ ∧ _) ∧ (_ ∧ _ ∧ _))
      go_wp2_with fail
      refine wp_region_wb (by kernel_rfl) (by kernel_rfl) ?_; (repeat ((with_reducible refine wpQuiet_step ?_); intro K hK; go_simp; (try (refine ite_neg_of (by simp [undef]) ?_)); first | (with_reducible refine hK _ ?_; clear hK K) | (apply Exists.intro; (with_reducible refine ⟨fun _ => ?_, hK _ ?_⟩); ((first | (go_at_call 79; first | with_reducible exact Calls.wb (HD.out _) | with_reducible exact Calls.wb (HD'.out _)) | (go_at_call 72; first | with_reducible exact Calls.wb (HTm.out _) | with_reducible exact Calls.wb (HTd.out _)) | (rw [if_neg (by omega)]; exact ⟨rfl, rfl⟩))); clear hK K))); (with_reducible refine wpQuiet_nil ?_); rintro w1 ⟨⟨_, hb1⟩, rfl⟩; (try dsimp only)
      go_wp2_with fail
      go_ret2
      exact HFin.out _ (K2.out.bel.trans (hb1.mono K2.out.bel.size)) _ (by rw [HNt.out]; have h := HR.out; simp at h; simp [Ne.symm h.1])
  · have e1 : (decide (0 ≤ n) && decide (n ≤ 99999)) = false := by
      rw [Bool.and_eq_false_iff]; simp; omega
    rw [e1] at HV
    have HN := Lib.hid hn
    clear hn e1
    go_enter Tryz.func32, Tryz.ntmps32
    go_wp2_with fail
    refine (HV.out _).mono ?_
    rintro e w1 ⟨rfl, rfl⟩
    go_wp2_with fail
    go_ret2
    exact ⟨.inr ⟨HN.out, rfl⟩, Below.refl _ _⟩
end Go.Proofs.YtabolonlkocopaaGreatDoor
