
/- ParseNight. -/
import Derived.Test.YtabolonlkocopaaGreatDoorBck
import Derived.Test.YtabolonlkocopaaGreatDoorDatW
import Derived.Test.YtabolonlkocopaaGreatDoorNgtW
namespace Go.Proofs.YtabolonlkocopaaGreatDoor
open Go.RowKit Go.Plc

def da3 (p : Int × Int × Int) : Obj := .cells #[.int .i64 p.1, .int .i64 p.2.1, .int .i64 p.2.2] 48
theorem night_of_text {cs : List UInt8} {n : Int} (h : NightOfText cs n) : ∃ p q, readD (numsS ngM cs) = (p, q) ∧ vdate p.1 p.2.1 p.2.2 = true ∧ num p.1 p.2.1 p.2.2 = n ∧ n ≤ 99999 ∧ vdate q.1 q.2.1 q.2.2 = true ∧ num q.1 q.2.1 q.2.2 = n + 1 ∧ nightT p.1 p.2.1 p.2.2 q.1 q.2.1 q.2.2 = cs := by
  obtain ⟨y, m, d, y', m', d', h1, h2, h3, h4, h5, rfl⟩ := h
  exact ⟨(y, m, d), (y', m', d'), read_night h1 h4, h1, h2, h3, h4, h5, rfl⟩

set_option maxRecDepth 100000 in
set_option maxHeartbeats 8000000 in
theorem ParseNight_any (cs : List UInt8) (w : World) (hM : MonthDays w) (hT : TabW w) (hc : cs.length ≤ 1000000) :
    Calls Tryz.prog 33 #[.string ⟨cs.toArray⟩] w (ParseRes cs w) := by
  have HM := Lib.hid hM
  have HT := Lib.hid hT
  have HRd := Lib.hid (readNight_any cs w hc)
  have HT1 := Lib.hid (fun n (h : NightOfText cs n) => night_of_text h)
  have hdate := fun (n : Int) h0 h1 => date_has (n := n) w h0 h1
  clear hM hT
  generalize readD (numsS ngM cs) = pq at *
  obtain ⟨⟨y, m, d⟩, y', m', d'⟩ := pq
  unfold dav at HRd
  dsimp only at HRd HT1
  have HN := Lib.hid (fun w h => NightOf_any y m d w h)
  rcases nightE_cases y m d with ⟨hv, hn, e1, e2⟩ | hne
  · rw [e1, e2] at HN
    have hb := (vdate_iff y m d).1 hv
    have hnb := num_bd hb.2.2.1 hb.2.2.2.1 hb.2.2.2.2.1 hb.2.2.2.2.2
    have hdy := dby_bd hb.1 (show y ≤ 274 by omega)
    obtain ⟨y2, m2, d2, hv2, hn2⟩ := hdate (num y m d + 1) (by omega) (by omega)
    have HD := Lib.hid (fun w hM => show Calls Tryz.prog 77 #[.int .i64 (num y m d + 1)] w fun e w' => e = .returned (.agg #[.int .i64 y2, .int .i64 m2, .int .i64 d2]) ∧ Below w.heap.size w w' from
      (dateBehind_any (num y m d + 1) w hM (by omega) (by omega)).mono fun e w' ⟨y3, m3, d3, he, hv3, hn3, hb3⟩ => by
        obtain ⟨rfl, rfl, rfl⟩ := date_one hv3 hv2 (hn3.trans hn2.symm)
        exact ⟨he, hb3⟩)
    have HV := Lib.hid (And.intro (And.intro hv hn) (And.intro hv2 hn2))
    have hwr : IntKind.i64.wrap (num y m d + 1) = num y m d + 1 := by rw [IntKind.wrap_i64]; omega
    have hn0 : 0 ≤ num y m d := by omega
    have hn9 : num y m d ≤ 99999 := hn
    have HNx := Lib.hid (fun w hT => nightText_any y m d y2 m2 d2 w hT hv hv2)
    clear hdate e1 e2 hv hn hb hnb hdy hv2 hn2
    generalize hnn : num y m d = n at *
    have HNN := Lib.hid hnn
    clear hnn
    have K0 := Lib.hid (show KB w [] [] w from ⟨Below.refl _ _, fun p hp => (by cases hp), fun q hq => (by cases hq)⟩)
    by_cases hq : y' = y2 ∧ m' = m2 ∧ d' = d2
    · obtain ⟨rfl, rfl, rfl⟩ := hq
      have hbe := bytes_eq (nightT y m d y' m' d') cs
      by_cases htx : nightT y m d y' m' d' = cs
      · have HTx := Lib.hid htx
        rw [show decide (nightT y m d y' m' d' = cs) = true by simpa using htx] at hbe
        clear htx
        generalize (⟨(nightT y m d y' m' d').toArray⟩ : ByteArray) = s1 at *
        go_enter Tryz.func33, Tryz.ntmps33
        go_wp2_with fail
        refine HRd.out.mono ?_
        rintro e x1 ⟨rfl, hb1⟩
        have K1 := Lib.hid (((K0.out.step hb1).new (da3 (y, m, d))).new (da3 (y', m', d')))
        unfold da3 at K1
        dsimp only at K1
        rw [World.size_alloc] at K1
        clear hb1
        go_wp2_with fail
        refine (HN.out _ (HM.out.below K1.out.bel)).mono ?_
        rintro e x2 ⟨rfl, hb2⟩
        have K2 := Lib.hid (K1.out.step hb2)
        clear hb2 K1
        generalize x1.heap.size = g at *
        go_wp2_with fail
        have ta := date_cells (K2.out.mem (g, _) (List.mem_cons_of_mem _ List.mem_cons_self))
        have tb := date_cells (K2.out.mem (g + 1, _) List.mem_cons_self)
        have ss := fun p => (⟨⟨Wb.cell ta.1 p, Wb.cell ta.2.1 p, Wb.cell ta.2.2 p⟩, ⟨Wb.cell tb.1 p, Wb.cell tb.2.1 p, Wb.cell tb.2.2 p⟩⟩ : (_ ∧ _ ∧ _) ∧ (_ ∧ _ ∧ _))
        have HDp := Lib.hid (fun p : Wb x2 => HD.out p.v (HM.out.below (K2.out.step p.h).bel))
        have HXp := Lib.hid (fun p : Wb x2 => HNx.out p.v (HT.out.below (K2.out.step p.h).bel))
        clear ta tb
        refine wp_region_wb (by kernel_rfl) (by kernel_rfl) ?_; (repeat ((with_reducible refine wpQuiet_step ?_); intro K hK; go_simp; (try (refine ite_neg_of (by simp [undef]) ?_)); first | (with_reducible refine hK _ ?_; clear hK K) | (apply Exists.intro; (with_reducible refine ⟨fun _ => ?_, hK _ ?_⟩); (first | (go_at_call 77; exact Calls.wb (HDp.out _)) | (go_at_call 76; exact Calls.wb (HXp.out _))); clear hK K))); (with_reducible refine wpQuiet_nil ?_); rintro w1 ⟨⟨_, hb1⟩, rfl⟩; (try dsimp only)
        go_wp2_with fail
        go_ret2
        exact ⟨.inl ⟨n, rfl, y, m, d, y', m', d', HV.out.1.1, HNN.out, HV.out.1.2, HV.out.2.1, HV.out.2.2, HTx.out⟩, K2.out.bel.trans (hb1.mono K2.out.bel.size)⟩
      · have HNo := Lib.hid (show ∀ n', ¬ NightOfText cs n' from by
          rintro n' hno
          obtain ⟨p, q, e, h1, h2, h3, h4, h5, h6⟩ := HT1.out n' hno
          injection e with e1 e2
          subst e1; subst e2
          exact htx h6)
        rw [show decide (nightT y m d y' m' d' = cs) = false by simpa using htx] at hbe
        clear htx
        generalize (⟨(nightT y m d y' m' d').toArray⟩ : ByteArray) = s1 at *
        go_enter Tryz.func33, Tryz.ntmps33
        go_wp2_with fail
        refine HRd.out.mono ?_
        rintro e x1 ⟨rfl, hb1⟩
        have K1 := Lib.hid (((K0.out.step hb1).new (da3 (y, m, d))).new (da3 (y', m', d')))
        unfold da3 at K1
        dsimp only at K1
        rw [World.size_alloc] at K1
        clear hb1
        go_wp2_with fail
        refine (HN.out _ (HM.out.below K1.out.bel)).mono ?_
        rintro e x2 ⟨rfl, hb2⟩
        have K2 := Lib.hid (K1.out.step hb2)
        clear hb2 K1
        generalize x1.heap.size = g at *
        go_wp2_with fail
        have ta := date_cells (K2.out.mem (g, _) (List.mem_cons_of_mem _ List.mem_cons_self))
        have tb := date_cells (K2.out.mem (g + 1, _) List.mem_cons_self)
        have ss := fun p => (⟨⟨Wb.cell ta.1 p, Wb.cell ta.2.1 p, Wb.cell ta.2.2 p⟩, ⟨Wb.cell tb.1 p, Wb.cell tb.2.1 p, Wb.cell tb.2.2 p⟩⟩ : (_ ∧ _ ∧ _) ∧ (_ ∧ _ ∧ _))
        have HDp := Lib.hid (fun p : Wb x2 => HD.out p.v (HM.out.below (K2.out.step p.h).bel))
        have HXp := Lib.hid (fun p : Wb x2 => HNx.out p.v (HT.out.below (K2.out.step p.h).bel))
        clear ta tb
        refine wp_region_wb (by kernel_rfl) (by kernel_rfl) ?_; (repeat ((with_reducible refine wpQuiet_step ?_); intro K hK; go_simp; (try (refine ite_neg_of (by simp [undef]) ?_)); first | (with_reducible refine hK _ ?_; clear hK K) | (apply Exists.intro; (with_reducible refine ⟨fun _ => ?_, hK _ ?_⟩); (first | (go_at_call 77; exact Calls.wb (HDp.out _)) | (go_at_call 76; exact Calls.wb (HXp.out _))); clear hK K))); (with_reducible refine wpQuiet_nil ?_); rintro w1 ⟨⟨_, hb1⟩, rfl⟩; (try dsimp only)
        go_wp2_with fail
        go_ret2
        exact ⟨.inr ⟨rfl, HNo.out⟩, K2.out.bel.trans (hb1.mono K2.out.bel.size)⟩
    · have HNo := Lib.hid (show ∀ n', ¬ NightOfText cs n' from by
        rintro n' hno
        obtain ⟨p, q, e, h1, h2, h3, h4, h5, h6⟩ := HT1.out n' hno
        injection e with e1 e2
        subst e1; subst e2
        have hnn : n' = n := h2.symm.trans HNN.out
        obtain ⟨k1, k2, k3⟩ := date_one h4 HV.out.2.1 (h5.trans (by rw [hnn]; exact HV.out.2.2.symm))
        exact hq ⟨k1, k2, k3⟩)
      clear HNx
      have HQ := Lib.hid hq
      clear hq
      cases b0 : (y' == y2) <;> cases b1 : (m' == m2) <;> cases b2 : (d' == d2)
      case true.true.true => exact absurd ⟨by simpa using b0, by simpa using b1, by simpa using b2⟩ HQ.out
      all_goals
        go_enter Tryz.func33, Tryz.ntmps33
        go_wp2_with fail
        refine HRd.out.mono ?_
        rintro e x1 ⟨rfl, hb1⟩
        have K1 := Lib.hid (((K0.out.step hb1).new (da3 (y, m, d))).new (da3 (y', m', d')))
        unfold da3 at K1
        dsimp only at K1
        rw [World.size_alloc] at K1
        clear hb1
        go_wp2_with fail
        refine (HN.out _ (HM.out.below K1.out.bel)).mono ?_
        rintro e x2 ⟨rfl, hb2⟩
        have K2 := Lib.hid (K1.out.step hb2)
        clear hb2 K1
        generalize x1.heap.size = g at *
        go_wp2_with fail
        have ta := date_cells (K2.out.mem (g, _) (List.mem_cons_of_mem _ List.mem_cons_self))
        have tb := date_cells (K2.out.mem (g + 1, _) List.mem_cons_self)
        have ss := fun p => (⟨⟨Wb.cell ta.1 p, Wb.cell ta.2.1 p, Wb.cell ta.2.2 p⟩, ⟨Wb.cell tb.1 p, Wb.cell tb.2.1 p, Wb.cell tb.2.2 p⟩⟩ : (_ ∧ _ ∧ _) ∧ (_ ∧ _ ∧ _))
        have HDp := Lib.hid (fun p : Wb x2 => HD.out p.v (HM.out.below (K2.out.step p.h).bel))
        clear ta tb
        refine wp_region_wb (by kernel_rfl) (by kernel_rfl) ?_; (repeat ((with_reducible refine wpQuiet_step ?_); intro K hK; go_simp; (try (refine ite_neg_of (by simp [undef]) ?_)); first | (with_reducible refine hK _ ?_; clear hK K) | (apply Exists.intro; (with_reducible refine ⟨fun _ => ?_, hK _ ?_⟩); (first | (go_at_call 77; exact Calls.wb (HDp.out _))); clear hK K))); (with_reducible refine wpQuiet_nil ?_); rintro w1 ⟨⟨_, hb1⟩, rfl⟩; (try dsimp only)
        go_wp2_with fail
        go_ret2
        exact ⟨.inr ⟨rfl, HNo.out⟩, K2.out.bel.trans (hb1.mono K2.out.bel.size)⟩
  · have HNo := Lib.hid (show ∀ n', ¬ NightOfText cs n' from by
      rintro n' hno
      obtain ⟨p, q, e, h1, h2, h3, h4, h5, h6⟩ := HT1.out n' hno
      injection e with e1 e2
      subst e1; subst e2
      have := (night_small h1 (by rw [h2]; omega)).2
      dsimp only at this
      rw [this] at hne
      cases hne)
    have K0 := Lib.hid (show KB w [] [] w from ⟨Below.refl _ _, fun p hp => (by cases hp), fun q hq => (by cases hq)⟩)
    clear hdate
    generalize nightV y m d = nv at *
    generalize nightE y m d = ne at *
    go_enter Tryz.func33, Tryz.ntmps33
    go_wp2_with fail
    refine HRd.out.mono ?_
    rintro e x1 ⟨rfl, hb1⟩
    have K1 := Lib.hid (((K0.out.step hb1).new (da3 (y, m, d))).new (da3 (y', m', d')))
    unfold da3 at K1
    dsimp only at K1
    rw [World.size_alloc] at K1
    clear hb1
    go_wp2_with fail
    refine (HN.out _ (HM.out.below K1.out.bel)).mono ?_
    rintro e x2 ⟨rfl, hb2⟩
    have K2 := Lib.hid (K1.out.step hb2)
    clear hb2 K1
    generalize x1.heap.size = g at *
    go_wp2_with fail
    have ta := date_cells (K2.out.mem (g, _) (List.mem_cons_of_mem _ List.mem_cons_self))
    have tb := date_cells (K2.out.mem (g + 1, _) List.mem_cons_self)
    have ss := fun p => (⟨⟨Wb.cell ta.1 p, Wb.cell ta.2.1 p, Wb.cell ta.2.2 p⟩, ⟨Wb.cell tb.1 p, Wb.cell tb.2.1 p, Wb.cell tb.2.2 p⟩⟩ : (_ ∧ _ ∧ _) ∧ (_ ∧ _ ∧ _))
    clear ta tb
    refine wp_region_wb (by kernel_rfl) (by kernel_rfl) ?_; (repeat ((with_reducible refine wpQuiet_step ?_); intro K hK; go_simp; (try (refine ite_neg_of (by simp [undef]) ?_)); first | (with_reducible refine hK _ ?_; clear hK K) | (apply Exists.intro; (with_reducible refine ⟨fun _ => ?_, hK _ ?_⟩); (fail); clear hK K))); (with_reducible refine wpQuiet_nil ?_); rintro w1 ⟨⟨_, hb1⟩, rfl⟩; (try dsimp only)
    go_wp2_with fail
    go_ret2
    exact ⟨.inr ⟨rfl, HNo.out⟩, K2.out.bel.trans (hb1.mono K2.out.bel.size)⟩
end Go.Proofs.YtabolonlkocopaaGreatDoor
