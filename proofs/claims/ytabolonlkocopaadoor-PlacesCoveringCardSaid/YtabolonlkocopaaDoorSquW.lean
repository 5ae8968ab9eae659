/- PlacesSquares: the walk. -/
import Derived.Test.YtabolonlkocopaaDoorSqs
import Derived.Test.YtabolonlkocopaaDoorAwk
namespace Go.Proofs.YtabolonlkocopaaDoor
open Go.RowKit Go.Plc

/-- what lies in boxes, and what slices hold, through a long walk -/
structure KB (w : World) (L : List (Nat × Obj)) (S : List (Value × List Sq)) (X : World) : Prop where
  bel : Below w.heap.size w X
  mem : ∀ p ∈ L, X.heap[p.1]? = some p.2
  sl : ∀ q ∈ S, SqSl X X.heap.size q.1 q.2
theorem KB.step {w X Y : World} {L : List (Nat × Obj)} {S : List (Value × List Sq)} (h : KB w L S X) (hb : Below X.heap.size X Y) : KB w L S Y :=
  ⟨h.bel.trans (hb.mono h.bel.size), fun p hp => (hb.block _ (Array.getElem?_eq_some_iff.1 (h.mem p hp)).1).trans (h.mem p hp), fun q hq => ((h.sl q hq).below hb).mono hb.size⟩
theorem KB.new {w X : World} {L : List (Nat × Obj)} {S : List (Value × List Sq)} (h : KB w L S X) (o : Obj) : KB w ((X.heap.size, o) :: L) S (X.alloc o) := by
  have h2 := h.step (below_new o)
  refine ⟨h2.bel, fun p hp => ?_, h2.sl⟩
  rcases List.mem_cons.1 hp with rfl | hp
  · exact World.alloc_heap_new X o
  · exact h2.mem p hp
theorem KB.slice {w X : World} {L : List (Nat × Obj)} {S : List (Value × List Sq)} (h : KB w L S X) {v : Value} {R : List Sq} (hv : SqSl X X.heap.size v R) : KB w L ((v, R) :: S) X :=
  ⟨h.bel, h.mem, fun q hq => by
    rcases List.mem_cons.1 hq with rfl | hq
    · exact hv
    · exact h.sl q hq⟩
def sqO (s : Sq) : Obj := .cells #[.int .i64 s.l, .int .i64 s.x, .int .i64 s.y] 23
theorem KB.lt {w X : World} {L : List (Nat × Obj)} {S : List (Value × List Sq)} (h : KB w L S X) {g : Nat} {o : Obj} (hm : (g, o) ∈ L) : g < X.heap.size := (Array.getElem?_eq_some_iff.1 (h.mem _ hm)).1

theorem child_len (s : Sq) : (childOut s).1.length ≤ 1000000 := by
  unfold childOut
  split
  · split
    · simp
    · simp [kidsS]
  · simp
set_option maxRecDepth 100000 in
set_option maxHeartbeats 16000000 in
theorem PlacesSquares_any (a b : Sq) (lv : Int) (w : World) (hM : MonthDays w) (hT : TabW w) :
    Calls Tryd.prog 3 #[sqv a, sqv b, .int .i64 lv] w fun e w' => e = .returned (.bool true) ∧ Below w.heap.size w w' := by
  have HM := Lib.hid hM
  have HT := Lib.hid hT
  clear hM hT
  have HP := Lib.hid (And.intro (fun w => Parent_any a w) (fun w => rParent_any a w))
  have HB := Lib.hid (And.intro (fun w => Blur_any a lv w) (fun w => rBlur_any a lv w))
  have HW := Lib.hid (And.intro (fun w => Within_any a b w) (fun w => rWithin_any a b w))
  have HC := Lib.hid (And.intro (fun w => Children_any a w) (fun w => rChildren_any a w))
  have HV := Lib.hid (And.intro (fun w => ValidSquare_any a.l a.x a.y w) (fun w => rValidSquare_any a.l a.x a.y w))
  have HCl := Lib.hid (child_len a)
  generalize parentOut a = po at *
  generalize blurOut a lv = bo at *
  generalize withinOut a b = wo at *
  generalize childOut a = co at *
  generalize Sq.okB ⟨a.l, a.x, a.y⟩ = v0 at *
  obtain ⟨pc, pe⟩ := po
  obtain ⟨bc, be⟩ := bo
  obtain ⟨wc, we⟩ := wo
  obtain ⟨cc, ce⟩ := co
  unfold sqv at *
  have K2 := Lib.hid (show KB w [(w.heap.size + 1, sqO b), (w.heap.size, sqO a)] [] ((w.alloc (sqO a)).alloc (sqO b)) from by
    have h := ((KB.mk (Below.refl _ _) (fun p hp => by cases hp) (fun q hq => by cases hq) : KB w [] [] w).new (sqO a)).new (sqO b)
    rwa [World.size_alloc] at h)
  unfold sqO at K2
  go_enter Tryd.func3, Tryd.ntmps3
  go_wp2_with fail
  refine (HP.out.1 _).mono ?_
  rintro e x1 ⟨rfl, hb1⟩
  have K3 := Lib.hid ((K2.out.step hb1).new (sqO pc))
  have hg1 : w.heap.size < x1.heap.size := (K2.out.step hb1).lt (List.mem_cons_of_mem _ List.mem_cons_self)
  obtain ⟨a0, a1, a2⟩ := sq_cells (s := a) ((K2.out.step hb1).mem _ (List.mem_cons_of_mem _ List.mem_cons_self))
  clear hb1 K2
  unfold sqO at K3
  go_wp2_with fail
  refine (HP.out.2 _).mono ?_
  rintro e x2 ⟨rfl, hb2⟩
  have K4 := Lib.hid ((K3.out.step hb2).new (sqO pc))
  have k3 := K3.out.step hb2
  have hg2 : w.heap.size < x2.heap.size := k3.lt (List.mem_cons_of_mem _ (List.mem_cons_of_mem _ List.mem_cons_self))
  obtain ⟨a0, a1, a2⟩ := sq_cells (s := a) (k3.mem _ (List.mem_cons_of_mem _ (List.mem_cons_of_mem _ List.mem_cons_self)))
  clear hb2 k3 K3
  unfold sqO at K4
  generalize x1.heap.size = gc at *
  go_wp2_with fail
  refine (HC.out.1 _).mono ?_
  rintro e x3 ⟨⟨A3, c3, rfl, hA3⟩, hb3⟩
  dsimp only at hA3 ⊢
  have K5 := Lib.hid ((K4.out.step hb3).slice (v := .slice A3 cc.length c3) (R := cc) ⟨A3, c3, rfl, hA3⟩)
  obtain ⟨a0, a1, a2⟩ := sq_cells (s := a) (K5.out.mem (w.heap.size, _) (List.mem_cons_of_mem _ (List.mem_cons_of_mem _ (List.mem_cons_of_mem _ List.mem_cons_self))))
  clear hb3 hA3 K4
  generalize (Value.slice A3 cc.length c3) = v3 at *
  generalize x2.heap.size = gd at *
  go_wp2_with fail
  refine (HC.out.2 _).mono ?_
  rintro e x4 ⟨⟨A4, c4, rfl, hA4⟩, hb4⟩
  dsimp only at hA4 ⊢
  have K6 := Lib.hid ((K5.out.step hb4).slice (v := .slice A4 cc.length c4) (R := cc) ⟨A4, c4, rfl, hA4⟩)
  obtain ⟨a0, a1, a2⟩ := sq_cells (s := a) (K6.out.mem (w.heap.size, _) (List.mem_cons_of_mem _ (List.mem_cons_of_mem _ (List.mem_cons_of_mem _ List.mem_cons_self))))
  obtain ⟨b0, b1, b2⟩ := sq_cells (s := b) (K6.out.mem (w.heap.size + 1, _) (List.mem_cons_of_mem _ (List.mem_cons_of_mem _ List.mem_cons_self)))
  clear hb4 hA4 K5
  generalize (Value.slice A4 cc.length c4) = v4 at *
  go_wp2_with fail
  refine (HW.out.1 _).mono ?_
  rintro e x5 ⟨rfl, hb5⟩
  dsimp only
  have K7 := Lib.hid (K6.out.step hb5)
  obtain ⟨a0, a1, a2⟩ := sq_cells (s := a) (K7.out.mem (w.heap.size, _) (List.mem_cons_of_mem _ (List.mem_cons_of_mem _ (List.mem_cons_of_mem _ List.mem_cons_self))))
  obtain ⟨b0, b1, b2⟩ := sq_cells (s := b) (K7.out.mem (w.heap.size + 1, _) (List.mem_cons_of_mem _ (List.mem_cons_of_mem _ List.mem_cons_self)))
  clear hb5 K6
  go_wp2_with fail
  refine (HW.out.2 _).mono ?_
  rintro e x6 ⟨rfl, hb6⟩
  dsimp only
  have K8 := Lib.hid (K7.out.step hb6)
  obtain ⟨a0, a1, a2⟩ := sq_cells (s := a) (K8.out.mem (w.heap.size, _) (List.mem_cons_of_mem _ (List.mem_cons_of_mem _ (List.mem_cons_of_mem _ List.mem_cons_self))))
  clear hb6 K7 b0 b1 b2
  go_wp2_with fail
  refine (HB.out.1 _).mono ?_
  rintro e x7 ⟨rfl, hb7⟩
  dsimp only
  have K9 := Lib.hid ((K8.out.step hb7).new (sqO bc))
  have k8 := K8.out.step hb7
  have hg7 : w.heap.size < x7.heap.size := k8.lt (List.mem_cons_of_mem _ (List.mem_cons_of_mem _ (List.mem_cons_of_mem _ List.mem_cons_self)))
  obtain ⟨a0, a1, a2⟩ := sq_cells (s := a) (k8.mem (w.heap.size, _) (List.mem_cons_of_mem _ (List.mem_cons_of_mem _ (List.mem_cons_of_mem _ List.mem_cons_self))))
  clear hb7 k8 K8
  unfold sqO at K9
  go_wp2_with fail
  refine (HB.out.2 _).mono ?_
  rintro e x8 ⟨rfl, hb8⟩
  dsimp only
  have KA := Lib.hid ((K9.out.step hb8).new (sqO bc))
  clear hb8 K9
  unfold sqO at KA
  generalize x7.heap.size = gx at *
  have hsz8 : x8.heap.size < (x8.alloc (.cells #[.int .i64 bc.l, .int .i64 bc.x, .int .i64 bc.y] 23)).heap.size := by simp
  go_wp2_with fail
  generalize x8.alloc (.cells #[.int .i64 bc.l, .int .i64 bc.x, .int .i64 bc.y] 23) = X at *
  generalize x8.heap.size = gy at *
  have ta := sq_cells (s := a) (KA.out.mem (w.heap.size, _) (List.mem_cons_of_mem _ (List.mem_cons_of_mem _ (List.mem_cons_of_mem _ (List.mem_cons_of_mem _ (List.mem_cons_of_mem _ List.mem_cons_self))))))
  have tc := sq_cells (s := pc) (KA.out.mem (gc, _) (List.mem_cons_of_mem _ (List.mem_cons_of_mem _ (List.mem_cons_of_mem _ List.mem_cons_self))))
  have td := sq_cells (s := pc) (KA.out.mem (gd, _) (List.mem_cons_of_mem _ (List.mem_cons_of_mem _ List.mem_cons_self)))
  have tx := sq_cells (s := bc) (KA.out.mem (gx, _) (List.mem_cons_of_mem _ List.mem_cons_self))
  have ty := sq_cells (s := bc) (KA.out.mem (gy, _) List.mem_cons_self)
  have ss := fun p => (⟨⟨Wb.cell ta.1 p, Wb.cell ta.2.1 p, Wb.cell ta.2.2 p⟩, ⟨Wb.cell tc.1 p, Wb.cell tc.2.1 p, Wb.cell tc.2.2 p⟩, ⟨Wb.cell td.1 p, Wb.cell td.2.1 p, Wb.cell td.2.2 p⟩, ⟨Wb.cell tx.1 p, Wb.cell tx.2.1 p, Wb.cell tx.2.2 p⟩, ⟨Wb.cell ty.1 p, Wb.cell ty.2.1 p, Wb.cell ty.2.2 p⟩⟩ : (_ ∧ _ ∧ _) ∧ (_ ∧ _ ∧ _) ∧ (_ ∧ _ ∧ _) ∧ (_ ∧ _ ∧ _) ∧ (_ ∧ _ ∧ _))
  have HAw := Lib.hid (fun p : Wb X => awake_any p.v (HM.out.below (KA.out.step p.h).bel) (HT.out.below (KA.out.step p.h).bel))
  have HSm := Lib.hid (fun p : Wb X => show Calls Tryd.prog 24 #[v3, v4] p.v fun e w' => e = .returned (.bool true) ∧ Below p.v.heap.size p.v w' from by
    have hl : cc.length ≤ 1000000 := HCl.out
    have h := SameSquares_any v3 v4 cc cc p.v ((KA.out.step p.h).sl (v3, cc) (List.mem_cons_of_mem _ List.mem_cons_self)) ((KA.out.step p.h).sl (v4, cc) List.mem_cons_self) hl
    rwa [show decide (cc = cc) = true by simp] at h)
  clear a0 a1 a2 hg1 hg2 hg7 HM HT HP HB HW HC ta tc td tx ty
  refine wp_region_wb (by kernel_rfl) (by kernel_rfl) ?_; (repeat ((with_reducible refine wpQuiet_step ?_); intro K hK; go_simp; (try (refine ite_neg_of (by simp [undef]) ?_)); first | (with_reducible refine hK _ ?_; clear hK K) | (apply Exists.intro; (with_reducible refine ⟨fun _ => ?_, hK _ ?_⟩); (first | (go_at_call 21; exact Calls.wb (HAw.out _)) | (go_at_call 22; exact Calls.wb (HV.out.1 _)) | (go_at_call 23; exact Calls.wb (HV.out.2 _)) | (go_at_call 24; exact Calls.wb (HSm.out _))); clear hK K))); (with_reducible refine wpQuiet_nil ?_); rintro w1 ⟨⟨_, hb1⟩, rfl⟩; (try dsimp only)
  go_wp2_with fail
  go_ret
  exact ⟨ret_b (by simp), KA.out.bel.trans (hb1.mono KA.out.bel.size)⟩
end Go.Proofs.YtabolonlkocopaaDoor
