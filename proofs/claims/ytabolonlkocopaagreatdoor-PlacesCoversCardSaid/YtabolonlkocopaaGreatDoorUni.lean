
/- slices.Concat over squares, Union. -/
import Derived.Test.YtabolonlkocopaaGreatDoorLayU
import Derived.Test.YtabolonlkocopaaGreatDoorMns
import Derived.Test.YtabolonlkocopaaGreatDoorHas
import Derived.Test.YtabolonlkocopaaGreatDoorSeaW
import Derived.Shelf.Spec.SlicesGrow
import Derived.Laws.AppendOwnNone
namespace Go.Proofs.YtabolonlkocopaaGreatDoor
open Go.RowKit Go.Plc Go.Shelf

theorem Grow_own (n : Nat) (w : World) (hn : n ≤ 2000000) :
    Calls Tryz.prog 91 #[.slice none 0 0, .int .i64 n] w fun e w' => ∃ v, e = .returned v ∧ w'.ownsRow w.heap.size 31 3 v 0 [] ∧ Below w.heap.size w w' := by
  obtain ⟨i0, hi0, hz0, hz1, hz2⟩ := info_parts infoSq
  by_cases h0 : n = 0
  · subst h0
    refine (Any8.slices_Grow_room Tryz.growSq none 0 0 0 w (by omega) (by omega) (by omega) (by omega)).mono ?_
    rintro e w' ⟨rfl, rfl⟩
    exact ⟨_, rfl, World.ownsRow_nil _ _ _ _, Below.refl _ _⟩
  · refine (Any8.slices_Grow_grow Tryz.growSq i0 (.agg #[.int .i64 0, .int .i64 0, .int .i64 0]) hi0 hz0 (by omega) none 0 0 n [] w (by omega) (by omega) (by rw [hz2]; omega) (by omega) (by simp) (fun _ => rfl) (fun a h => by cases h)).mono ?_
    rintro e w' ⟨rfl, rfl⟩
    have hge := grownCap_ge w (0 + n) 0 (Tryz.growSq_ren.t 25)
    have hle := grownCap_le_maxLen w (0 + n) 0 (Tryz.growSq_ren.t 25) (by unfold maxLen; omega)
    refine ⟨_, rfl, ?_, (Below.refl _ _).drew.trans ((below_new _).mono (Nat.le_refl _))⟩
    refine World.ownsRow_made w.drew _ _ (Nat.le_refl _) hle ?_
    generalize grownCap w (0 + n) 0 (Tryz.growSq_ren.t 25) = k at *
    simp [size_zeroCells, Value.cells]
    omega

/-- nothing is appended -/
theorem run_append_nil {P : Program} {w : World} (base : Nat) (t ty e : TypeId) (i : TypeInfo) (size c : Nat) (ht : P.underlying t = some (.slice e)) (hi : P.info? e = some i)
    (v : Value) (n : Nat) (xs : List Value) (hown : w.ownsRow base e size v n xs) :
    (Builtin.append_ #[t, t] ty #[v, .slice none 0 c]).run P w = .ok v w := by
  rcases hown.2 with ⟨rfl, rfl⟩ | ⟨g, cap, cur, rfl, _, _, hnc, _⟩
  · simp [Builtin.append_, run_underlying ht, Go.sizeOf, typeInfo, hi, Builtin.lenOf, Builtin.firstCells]
  · simp [Builtin.append_, run_underlying ht, Go.sizeOf, typeInfo, hi, Builtin.lenOf, Builtin.firstCells, hnc, storeCells]
theorem wpList_append_nil {P : Program} {w : World} {ops : Array Oper} {rest : List Oper} {o : Oper} {a : Act} {Q : Exit → Act → World → Prop} (hgd : o.guard = none) (s x : Operand) (t : TypeId)
    (ho : o.op = .call { callee := .builtin .append, args := #[s, x], argTypes := #[t, t] })
    (base : Nat) (e : TypeId) (i : TypeInfo) (size c : Nat) (ht : P.underlying t = some (.slice e)) (hi : P.info? e = some i)
    (v : Value) (n : Nat) (xs : List Value) (hs : a.eval s = v) (hown : w.ownsRow base e size v n xs) (hx : a.eval x = .slice none 0 c)
    (h : wpList P ops Q rest (a.put o.dst v) w) : wpList P ops Q (o :: rest) a w := by
  refine wpList_plain hgd fun K hK => ?_
  have hrun := run_append_nil (P := P) (w := w) base t o.type e i size c ht hi v n xs hown
  unfold Oper.wp
  simp [execOp, ho, resolve, invoke, builtin, hs, hx, hrun, Result.andThen]
  exact hK _ _ h

/-- two slices that are made one -/
structure CcI (w : World) (g : Nat) (u v : Value) (v6 : Value) (L : List Sq) (X : World) : Prop where
  box : X.heap[g]? = some (.cells #[u, v] 22)
  own : X.ownsRow w.heap.size 31 3 v6 L.length (cellsOf L)
  bel : Below w.heap.size w X
theorem CcI.grown {w X Y : World} {g : Nat} {u v v6 v7 : Value} {L M : List Sq} (h : CcI w g u v v6 L X) (hg : g < w.heap.size) (hG : X.grownBy Y v6.ownBlock) (ho : Y.ownsRow w.heap.size 31 3 v7 M.length (cellsOf M)) : CcI w g u v v7 M Y :=
  have hr := fun k e => (h.own.lt k e).1
  ⟨(hG.block _ (Array.getElem?_eq_some_iff.1 h.box).1 (fun e => by have := hr g e.symm; omega)).trans h.box, ho, h.bel.grown hG h.bel.size hr⟩

theorem nil_of_none {w : World} {B : Nat} {L : List Sq} (h : SqA w B none L) : L = [] := by
  cases L with
  | nil => rfl
  | cons s L => obtain ⟨ad, e, _⟩ := h 0 s rfl; cases e
set_option maxRecDepth 100000 in
set_option maxHeartbeats 8000000 in
theorem Concat_any (u v : Value) (a b : List Sq) (g : Nat) (w : World) (hbox : w.heap[g]? = some (.cells #[u, v] 22)) (hu : SqSl w w.heap.size u a) (hv : SqSl w w.heap.size v b) (hna : a.length ≤ 1000000) (hnb : b.length ≤ 1000000) :
    Calls Tryz.prog 44 #[.slice (some ⟨g, 0, none⟩) 2 2] w fun e w' => ∃ x, e = .returned x ∧ SqSl w' w'.heap.size x (a ++ b) ∧ Below w.heap.size w w' := by
  have hg : g < w.heap.size := (Array.getElem?_eq_some_iff.1 hbox).1
  obtain ⟨A, ca, rfl, hA⟩ := hu
  obtain ⟨B, cb, rfl, hB⟩ := hv
  obtain ⟨q0, q1⟩ := two_cells hbox
  have HBx := Lib.hid hbox
  have HGr := Lib.hid (fun n (hn : n ≤ 2000000) => Grow_own n w hn)
  have HA := Lib.hid (fun X (h : Below w.heap.size w X) => hA.below h)
  have HBs := Lib.hid (fun X (h : Below w.heap.size w X) => hB.below h)
  have HAn := Lib.hid (fun (e : A = none) => nil_of_none (e ▸ hA))
  have HBn := Lib.hid (fun (e : B = none) => nil_of_none (e ▸ hB))
  have HC := Lib.hid (And.intro (cellsOf_len a) (cellsOf_len b))
  have H1 := Lib.hid (And.intro (cellsOf_one a) (cellsOf_one b))
  obtain ⟨i0, hi0, hz0, hz1, hz2⟩ := info_parts infoSq
  have HI0 := Lib.hid (And.intro hi0 (And.intro hz0 (And.intro hz1 hz2)))
  clear hbox hA hB hi0 hz0 hz1 hz2
  generalize hn : a.length = n at *
  generalize hm : b.length = m at *
  have HL := Lib.hid (And.intro hn hm)
  clear hn hm
  go_enter Tryz.func44, Tryz.ntmps44
  go_wp2_with fail
  refine wp_loop_rounds 3 ?_
  iterate 3 (rw [rounds_succ]; go_wp2_with fail)
  refine (HGr.out (n + m) (by omega)).mono ?_
  rintro e w1 ⟨v6, rfl, hown, hb1⟩
  have HI := Lib.hid (show CcI w g (.slice A n ca) (.slice B m cb) v6 [] w1 from ⟨(hb1.block g hg).trans HBx.out, hown, hb1⟩)
  clear hown hb1 q0 q1
  obtain ⟨q0, q1⟩ := two_cells HI.out.box
  have hg1 : g < w1.heap.size := (Array.getElem?_eq_some_iff.1 HI.out.box).1
  have fin := Lib.hid (show ∀ v9 X, CcI w g (.slice A n ca) (.slice B m cb) v9 (a ++ b) X → SqSl X X.heap.size v9 (a ++ b) from fun v9 X h => SqA.of_own h.own)
  rcases A with _ | ad
  · obtain rfl := HAn.out rfl
    obtain rfl : n = 0 := HL.out.1.symm
    rcases B with _ | bd
    · obtain rfl := HBn.out rfl
      obtain rfl : m = 0 := HL.out.2.symm
      go_wp2_with fail
      refine wp_loop_rounds 3 ?_
      rw [rounds_succ]
      go_wp2_with (at_builtin; refine wpList_append_nil rfl _ _ 22 rfl w.heap.size 31 i0 3 ca Tryz.underlying22 HI0.out.1 v6 0 (cellsOf []) rfl HI.out.own rfl ?_)
      rw [rounds_succ]
      go_wp2_with (at_builtin; refine wpList_append_nil rfl _ _ 22 rfl w.heap.size 31 i0 3 cb Tryz.underlying22 HI0.out.1 v6 0 (cellsOf []) rfl HI.out.own rfl ?_)
      rw [rounds_succ]
      go_wp2_with fail
      go_ret
      exact ⟨_, rfl, fin.out _ _ HI.out, HI.out.bel⟩
    · have HCb := Lib.hid (HBs.out w1 HI.out.bel).cells_at
      go_wp2_with fail
      refine wp_loop_rounds 3 ?_
      rw [rounds_succ]
      go_wp2_with (at_builtin; refine wpList_append_nil rfl _ _ 22 rfl w.heap.size 31 i0 3 ca Tryz.underlying22 HI0.out.1 v6 0 (cellsOf []) rfl HI.out.own rfl ?_)
      rw [rounds_succ]
      go_wp2_with (at_builtin; refine wpList_append_own _ rfl _ _ 22 rfl w.heap.size 31 i0 (.agg #[.int .i64 0, .int .i64 0, .int .i64 0]) 3 24 Tryz.underlying22 HI0.out.1 HI0.out.2.1 HI0.out.2.2.1 HI0.out.2.2.2 rfl (by decide) _ 0 (cellsOf []) rfl HI.out.own bd m cb (cellsOf b) rfl (by rw [HC.out.2]) HCb.out H1.out.2 (by unfold maxLen; omega) (by omega) HI.out.bel.size ?_; intro v7 w2 hownw2 hgw2 hnnw2)
      have HI2 := Lib.hid (HI.out.grown (M := [] ++ b) hg hgw2 (by rw [cellsOf_app, List.length_append, HL.out.2]; exact hownw2))
      clear hownw2 hgw2 hnnw2 q0 q1 hg1
      obtain ⟨q0, q1⟩ := two_cells HI2.out.box
      have hg2 : g < w2.heap.size := (Array.getElem?_eq_some_iff.1 HI2.out.box).1
      rw [rounds_succ]
      go_wp2_with fail
      go_ret
      exact ⟨_, rfl, fin.out _ _ HI2.out, HI2.out.bel⟩
  · have HCa := Lib.hid (HA.out w1 HI.out.bel).cells_at
    rcases B with _ | bd
    · obtain rfl := HBn.out rfl
      obtain rfl : m = 0 := HL.out.2.symm
      go_wp2_with fail
      refine wp_loop_rounds 3 ?_
      rw [rounds_succ]
      go_wp2_with (at_builtin; refine wpList_append_own _ rfl _ _ 22 rfl w.heap.size 31 i0 (.agg #[.int .i64 0, .int .i64 0, .int .i64 0]) 3 24 Tryz.underlying22 HI0.out.1 HI0.out.2.1 HI0.out.2.2.1 HI0.out.2.2.2 rfl (by decide) _ 0 (cellsOf []) rfl HI.out.own ad n ca (cellsOf a) rfl (by rw [HC.out.1]) HCa.out H1.out.1 (by unfold maxLen; omega) (by omega) HI.out.bel.size ?_; intro v7 w2 hownw2 hgw2 hnnw2)
      have HI2 := Lib.hid (HI.out.grown (M := [] ++ a) hg hgw2 (by rw [cellsOf_app, List.length_append, HL.out.1]; exact hownw2))
      clear hownw2 hgw2 hnnw2 q0 q1 hg1
      obtain ⟨q0, q1⟩ := two_cells HI2.out.box
      have hg2 : g < w2.heap.size := (Array.getElem?_eq_some_iff.1 HI2.out.box).1
      have HO2 := Lib.hid (show w2.ownsRow w.heap.size 31 3 v7 n (cellsOf a) from by have h := HI2.out.own; rwa [List.nil_append, HL.out.1] at h)
      rw [rounds_succ]
      go_wp2_with (at_builtin; refine wpList_append_nil rfl _ _ 22 rfl w.heap.size 31 i0 3 cb Tryz.underlying22 HI0.out.1 v7 n (cellsOf a) rfl HO2.out rfl ?_)
      rw [rounds_succ]
      go_wp2_with fail
      go_ret
      exact ⟨_, rfl, fin.out _ _ (by rw [List.append_nil]; exact HI2.out), HI2.out.bel⟩
    · go_wp2_with fail
      refine wp_loop_rounds 3 ?_
      rw [rounds_succ]
      go_wp2_with (at_builtin; refine wpList_append_own _ rfl _ _ 22 rfl w.heap.size 31 i0 (.agg #[.int .i64 0, .int .i64 0, .int .i64 0]) 3 24 Tryz.underlying22 HI0.out.1 HI0.out.2.1 HI0.out.2.2.1 HI0.out.2.2.2 rfl (by decide) _ 0 (cellsOf []) rfl HI.out.own ad n ca (cellsOf a) rfl (by rw [HC.out.1]) HCa.out H1.out.1 (by unfold maxLen; omega) (by omega) HI.out.bel.size ?_; intro v7 w2 hownw2 hgw2 hnnw2)
      have HI2 := Lib.hid (HI.out.grown (M := [] ++ a) hg hgw2 (by rw [cellsOf_app, List.length_append, HL.out.1]; exact hownw2))
      clear hownw2 hgw2 hnnw2 q0 q1 hg1
      obtain ⟨q0, q1⟩ := two_cells HI2.out.box
      have hg2 : g < w2.heap.size := (Array.getElem?_eq_some_iff.1 HI2.out.box).1
      have HO2 := Lib.hid (show w2.ownsRow w.heap.size 31 3 v7 n (cellsOf a) from by have h := HI2.out.own; rwa [List.nil_append, HL.out.1] at h)
      have HCb := Lib.hid (HBs.out w2 HI2.out.bel).cells_at
      rw [rounds_succ]
      go_wp2_with (at_builtin; refine wpList_append_own _ rfl _ _ 22 rfl w.heap.size 31 i0 (.agg #[.int .i64 0, .int .i64 0, .int .i64 0]) 3 24 Tryz.underlying22 HI0.out.1 HI0.out.2.1 HI0.out.2.2.1 HI0.out.2.2.2 rfl (by decide) _ n (cellsOf a) rfl HO2.out bd m cb (cellsOf b) rfl (by rw [HC.out.2]) HCb.out H1.out.2 (by unfold maxLen; omega) (by omega) HI2.out.bel.size ?_; intro v8 w3 hownw3 hgw3 hnnw3)
      have HI3 := Lib.hid (HI2.out.grown (M := a ++ b) hg hgw3 (by rw [cellsOf_app, List.length_append, HL.out.1, HL.out.2]; exact hownw3))
      clear hownw3 hgw3 hnnw3 q0 q1 hg2
      obtain ⟨q0, q1⟩ := two_cells HI3.out.box
      have hg3 : g < w3.heap.size := (Array.getElem?_eq_some_iff.1 HI3.out.box).1
      rw [rounds_succ]
      go_wp2_with fail
      go_ret
      exact ⟨_, rfl, fin.out _ _ HI3.out, HI3.out.bel⟩

end Go.Proofs.YtabolonlkocopaaGreatDoor
