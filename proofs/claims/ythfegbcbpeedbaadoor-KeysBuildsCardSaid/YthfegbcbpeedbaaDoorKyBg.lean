/- The reference's builder in memory. -/
import Derived.Test.YthfegbcbpeedbaaDoorKyMk
import Derived.Test.YthfegbcbpeedbaaDoorKyRg
namespace Go.Proofs.YthfegbcbpeedbaaDoor
open Go.RowKit Go.Nm Go.Ky

theorem cells_four {w : World} {g : Nat} {a b c d : Value} {t : TypeId} (h : w.heap[g]? = some (.cells #[a, b, c, d] t)) : w.cell? ⟨g, 0, none⟩ = some a ∧ w.cell? ⟨g, 1, none⟩ = some b ∧ w.cell? ⟨g, 2, none⟩ = some c ∧ w.cell? ⟨g, 3, none⟩ = some d := by
  refine ⟨?_, ?_, ?_, ?_⟩ <;> simp [World.cell?, h]
structure KbS (R : Nat → Prop) (W : World) (m1 m2 : Value) (gk : Nat) (k : Kx) (vn vl : Value) (X : World) : Prop where
  bel : Below W.heap.size W X
  lo : W.heap.size ≤ gk
  box : X.heap[gk]? = some (.cells #[m1, m2, vn, vl] 114)
  own : ∃ nvals, X.ownsRow W.heap.size 65 2 vn k.nd.length nvals ∧ Els (fun r vm => Apt X (Orr R (Ob gk vn.ownBlock vl.ownBlock)) vm r.may) k.nd nvals
  lwn : ∃ lvals, X.ownsRow W.heap.size 22 1 vl k.lv.length lvals ∧ LvE (fun l u => Apt X (Orr R (Ob gk vn.ownBlock vl.ownBlock)) u l) k.lv lvals
  ne : vn.ownBlock ≠ some gk ∧ vl.ownBlock ≠ some gk ∧ ∀ g, vn.ownBlock = some g → vl.ownBlock ≠ some g
section
variable {R : Nat → Prop} {W X Y Z : World} {m1 m2 : Value} {gk : Nat} {k : Kx} {vn vl : Value}
theorem KbS.step (h : KbS R W m1 m2 gk k vn vl X) (hb : Below X.heap.size X Y) : KbS R W m1 m2 gk k vn vl Y := by
  obtain ⟨nv, n1, n2⟩ := h.own
  obtain ⟨lv, l1, l2⟩ := h.lwn
  exact ⟨h.bel.trans (hb.mono h.bel.size), h.lo, (hb.block _ (Array.getElem?_eq_some_iff.1 h.box).1).trans h.box, ⟨nv, own_step n1 hb, n2.mono fun r vm ha => ha.chgR (O := Ob gk vn.ownBlock vl.ownBlock) (Chg.of_below hb) (Fro.refl _ _)⟩, ⟨lv, own_step l1 hb, l2.mono fun l u ha => ha.chgR (O := Ob gk vn.ownBlock vl.ownBlock) (Chg.of_below hb) (Fro.refl _ _)⟩, h.ne⟩
theorem KbS.leaf (h : KbS R W m1 m2 gk k vn vl X) {lvals : List Value} {l : List Int} {u vl' : Value} (hE : LvE (fun l u => Apt X (Orr R (Ob gk vn.ownBlock vl.ownBlock)) u l) k.lv lvals) (hg : X.grownBy Y vl.ownBlock) (ho : Y.ownsRow W.heap.size 22 1 vl' (k.lv.length + 1) (lvals ++ [u]))
    (hob : vl'.ownBlock = vl.ownBlock ∨ vl'.ownBlock = some X.heap.size) (hu : Apt X (Orr R (Ob gk vn.ownBlock vl.ownBlock)) u l) :
    Y.heap[gk]? = some (.cells #[m1, m2, vn, vl] 114) ∧ KbS R W m1 m2 gk ⟨k.nd, k.lv ++ [l]⟩ vn vl' (Y.setCell ⟨gk, 3, none⟩ vl') ∧ Chg (Ob gk vn.ownBlock vl.ownBlock) X (Y.setCell ⟨gk, 3, none⟩ vl') ∧ Fro (Ob gk vn.ownBlock vl.ownBlock) (Ob gk vn.ownBlock vl'.ownBlock) X := by
  obtain ⟨nv, n1, n2⟩ := h.own
  obtain ⟨lv, l1, l2⟩ := h.lwn
  have hlt : gk < X.heap.size := (Array.getElem?_eq_some_iff.1 h.box).1
  have hY := (hg.block _ hlt (fun e => h.ne.2.1 e.symm)).trans h.box
  have hs := setCell_grown' Y gk 3 vl'
  have hc : Chg (Ob gk vn.ownBlock vl.ownBlock) X (Y.setCell ⟨gk, 3, none⟩ vl') := (Chg.of_grown hg (fun r e => .inr (.inr e))).trans2 (Fro.refl _ _) (Chg.of_grown hs (fun r e => by cases e; exact .inl rfl))
  have hf : Fro (Ob gk vn.ownBlock vl.ownBlock) (Ob gk vn.ownBlock vl'.ownBlock) X := fun g hg2 => by
    rcases hg2 with h1 | h1 | h1
    · exact .inl (.inl h1)
    · exact .inl (.inr (.inl h1))
    · rcases hob with h2 | h2
      · exact .inl (.inr (.inr (h2.symm.trans h1)))
      · rw [h2] at h1; injection h1 with h1; exact .inr (by omega)
  have hne' : vl'.ownBlock ≠ some gk := by
    rcases hob with h2 | h2
    · rw [h2]; exact h.ne.2.1
    · rw [h2]; intro e; injection e with e; omega
  have hdis : ∀ g, vn.ownBlock = some g → vl'.ownBlock ≠ some g := fun g e => by
    rcases hob with h2 | h2
    · rw [h2]; exact h.ne.2.2 g e
    · rw [h2]; intro e2; injection e2 with e2; have := (n1.lt g e).2; omega
  refine ⟨hY, ⟨(h.bel.grown hg h.bel.size (fun r e => (l1.lt r e).1)).setCell h.lo _, h.lo, heap_setCell_same Y gk 3 _ _ vl' hY, ⟨nv, kept_of (kept_of n1 hg (fun r e e2 => h.ne.2.2 r e2 e)) hs (fun r e => by cases e; exact h.ne.1), n2.mono fun r vm ha => ha.chgR hc hf⟩,
    ⟨lvals ++ [u], kept_of (by rw [List.length_append]; exact ho) hs (fun r e => by cases e; exact hne'), LvE.mono (hE.snoc hu) fun l u ha => ha.chgR hc hf⟩, h.ne.1, hne', hdis⟩, hc, hf⟩
theorem KbS.node (h : KbS R W m1 m2 gk k vn vl X) {nvals : List Value} {c : Int} {vn' : Value} (hE : Els (fun r vm => Apt X (Orr R (Ob gk vn.ownBlock vl.ownBlock)) vm r.may) k.nd nvals) (hg : X.grownBy Y vn.ownBlock) (ho : Y.ownsRow W.heap.size 65 2 vn' (k.nd.length + 1) (nvals ++ [.int .i64 c, .slice none 0 0]))
    (hob : vn'.ownBlock = vn.ownBlock ∨ vn'.ownBlock = some X.heap.size) :
    Y.heap[gk]? = some (.cells #[m1, m2, vn, vl] 114) ∧ KbS R W m1 m2 gk ⟨k.nd ++ [⟨c, []⟩], k.lv⟩ vn' vl (Y.setCell ⟨gk, 2, none⟩ vn') ∧ Chg (Ob gk vn.ownBlock vl.ownBlock) X (Y.setCell ⟨gk, 2, none⟩ vn') ∧ Fro (Ob gk vn.ownBlock vl.ownBlock) (Ob gk vn'.ownBlock vl.ownBlock) X := by
  obtain ⟨nv, n1, n2⟩ := h.own
  obtain ⟨lv, l1, l2⟩ := h.lwn
  have hlt : gk < X.heap.size := (Array.getElem?_eq_some_iff.1 h.box).1
  have hY := (hg.block _ hlt (fun e => h.ne.1 e.symm)).trans h.box
  have hs := setCell_grown' Y gk 2 vn'
  have hc : Chg (Ob gk vn.ownBlock vl.ownBlock) X (Y.setCell ⟨gk, 2, none⟩ vn') := (Chg.of_grown hg (fun r e => .inr (.inl e))).trans2 (Fro.refl _ _) (Chg.of_grown hs (fun r e => by cases e; exact .inl rfl))
  have hf : Fro (Ob gk vn.ownBlock vl.ownBlock) (Ob gk vn'.ownBlock vl.ownBlock) X := fun g hg2 => by
    rcases hg2 with h1 | h1 | h1
    · exact .inl (.inl h1)
    · rcases hob with h2 | h2
      · exact .inl (.inr (.inl (h2.symm.trans h1)))
      · rw [h2] at h1; injection h1 with h1; exact .inr (by omega)
    · exact .inl (.inr (.inr h1))
  have hne' : vn'.ownBlock ≠ some gk := by
    rcases hob with h2 | h2
    · rw [h2]; exact h.ne.1
    · rw [h2]; intro e; injection e with e; omega
  have hdis : ∀ g, vn'.ownBlock = some g → vl.ownBlock ≠ some g := fun g e e3 => by
    rcases hob with h2 | h2
    · exact h.ne.2.2 g (h2.symm.trans e) e3
    · rw [h2] at e; injection e with e; have := (l1.lt g e3).2; omega
  refine ⟨hY, ⟨(h.bel.grown hg h.bel.size (fun r e => (n1.lt r e).1)).setCell h.lo _, h.lo, heap_setCell_same Y gk 2 _ _ vn' hY, ⟨nvals ++ [.int .i64 c, .slice none 0 0], kept_of (by rw [List.length_append]; exact ho) hs (fun r e => by cases e; exact hne'), (hE.snoc (x := ⟨c, []⟩) (Apt.nil _ _)).mono fun r vm ha => ha.chgR hc hf⟩,
    ⟨lv, kept_of (kept_of l1 hg (fun r e e2 => h.ne.2.2 r e e2)) hs (fun r e => by cases e; exact h.ne.2.1), l2.mono fun l u ha => ha.chgR hc hf⟩, hne', h.ne.2.1, hdis⟩, hc, hf⟩
theorem KbS.next {gn n cap a : Nat} {c : Int} {nx : List Int} {u : Value} (h : KbS R W m1 m2 gk k (.slice (some ⟨gn, 0, none⟩) n cap) vl X) (ha : k.nd[a]? = some ⟨c, []⟩) (hu : Apt X (Orr R (Ob gk (some gn) vl.ownBlock)) u nx) :
    KbS R W m1 m2 gk ⟨k.nd.set a ⟨c, nx⟩, k.lv⟩ (.slice (some ⟨gn, 0, none⟩) n cap) vl (X.setCell ⟨gn, a * 2 + 1, none⟩ u) ∧ Chg (Ob gk (some gn) vl.ownBlock) X (X.setCell ⟨gn, a * 2 + 1, none⟩ u) ∧ (∃ v, X.cell? ⟨gn, a * 2 + 1, none⟩ = some v) ∧ X.frozen? ⟨gn, a * 2 + 1, none⟩ = false := by
  obtain ⟨nv, n1, n2⟩ := h.own
  obtain ⟨lv, l1, l2⟩ := h.lwn
  have hn : n = k.nd.length := by
    rcases n1.2 with ⟨e, _⟩ | ⟨g, cap', cur, e, _⟩
    · cases e
    · injection e
  subst hn
  have hai := (List.getElem?_eq_some_iff.1 ha).1
  have hs := setCell_grown' X gn (a * 2 + 1) u
  have hO : Ob gk (Value.ownBlock (.slice (some ⟨gn, 0, none⟩) k.nd.length cap)) vl.ownBlock = Ob gk (some gn) vl.ownBlock := rfl
  have hc : Chg (Ob gk (some gn) vl.ownBlock) X (X.setCell ⟨gn, a * 2 + 1, none⟩ u) := Chg.of_grown hs (fun r e => by cases e; exact .inr (.inl rfl))
  have hgn : W.heap.size ≤ gn := (n1.lt gn rfl).1
  have hne := h.ne
  have hl2 := n2.1
  obtain ⟨vm0, hv1, hv2, _⟩ := n2.2 a _ ha
  have hcell : X.cell? ⟨gn, a * 2 + 1, none⟩ = some vm0 := by rw [n1.cellAt (a * 2 + 1) (by omega)]; exact hv2
  refine ⟨⟨h.bel.setCell hgn _, h.lo, ?_, ⟨nv.set (a * 2 + 1) u, ?_, ?_⟩, ⟨lv, kept_of l1 hs (fun r e => by cases e; exact hne.2.2 gn rfl), l2.mono fun l u hx => hx.chgR hc (Fro.refl _ _)⟩, hne⟩, hc, ⟨vm0, hcell⟩, n1.frozenAt (a * 2 + 1)⟩
  · exact (hs.block _ (Array.getElem?_eq_some_iff.1 h.box).1 (fun e => hne.1 e.symm)).trans h.box
  · rw [List.length_set]; exact (n1.stored (a * 2 + 1) u).1
  · refine ⟨by rw [List.length_set, List.length_set]; exact hl2, fun i x hx => ?_⟩
    by_cases hia : i = a
    · subst hia
      rw [List.getElem?_set_self hai] at hx
      injection hx with hx
      subst hx
      obtain ⟨vm, h1, h2, h3⟩ := n2.2 i _ ha
      refine ⟨u, ?_, ?_, hu.chgR hc (Fro.refl _ _)⟩
      · rw [List.getElem?_set_ne (by omega)]; exact h1
      · rw [List.getElem?_set_self (by omega)]
    · rw [List.getElem?_set_ne (fun e => hia e.symm)] at hx
      obtain ⟨vm, h1, h2, h3⟩ := n2.2 i _ hx
      refine ⟨vm, ?_, ?_, h3.chgR hc (Fro.refl _ _)⟩
      · rw [List.getElem?_set_ne (by omega)]; exact h1
      · rw [List.getElem?_set_ne (by omega)]; exact h2
theorem KbS.less {R' : Nat → Prop} (h : KbS R' W m1 m2 gk k vn vl X) (hR : ∀ g, R g → R' g) : KbS R W m1 m2 gk k vn vl X := by
  obtain ⟨nv, n1, n2⟩ := h.own
  obtain ⟨lv, l1, l2⟩ := h.lwn
  have key : ∀ {u : Value} {L : List Int}, Apt X (Orr R' (Ob gk vn.ownBlock vl.ownBlock)) u L → Apt X (Orr R (Ob gk vn.ownBlock vl.ownBlock)) u L := fun ha => ⟨ha.1, fun hn g e h2 => ha.2 hn g e (by
    rcases h2 with h2 | h2
    · exact .inl h2
    · exact .inr (hR g h2))⟩
  exact ⟨h.bel, h.lo, h.box, ⟨nv, n1, n2.mono fun r vm ha => key ha⟩, ⟨lv, l1, l2.mono fun l u ha => key ha⟩, h.ne⟩
theorem KbS.more {g0 : Nat} (h : KbS R W m1 m2 gk k vn vl X) (hg : X.heap.size ≤ g0) : KbS (fun g => R g ∨ g = g0) W m1 m2 gk k vn vl X := by
  obtain ⟨nv, n1, n2⟩ := h.own
  obtain ⟨lv, l1, l2⟩ := h.lwn
  have key : ∀ {u : Value} {L : List Int}, Apt X (Orr R (Ob gk vn.ownBlock vl.ownBlock)) u L → Apt X (Orr (fun g => R g ∨ g = g0) (Ob gk vn.ownBlock vl.ownBlock)) u L := fun ha => ⟨ha.1, fun hn g e h2 => by
    rcases h2 with h2 | h2 | h2
    · exact ha.2 hn g e (.inl h2)
    · exact ha.2 hn g e (.inr h2)
    · have := ha.1.ownLt hn e; omega⟩
  exact ⟨h.bel, h.lo, h.box, ⟨nv, n1, n2.mono fun r vm ha => key ha⟩, ⟨lv, l1, l2.mono fun l u ha => key ha⟩, h.ne⟩
theorem KbS.outR {row : Option Nat} (h : KbS R W m1 m2 gk k vn vl X) (hg : X.grownBy Y row) (hr : ∀ g, row = some g → R g ∧ W.heap.size ≤ g ∧ ¬ Ob gk vn.ownBlock vl.ownBlock g) : KbS R W m1 m2 gk k vn vl Y := by
  obtain ⟨nv, n1, n2⟩ := h.own
  obtain ⟨lv, l1, l2⟩ := h.lwn
  have hc : Chg (Orr R (Ob gk vn.ownBlock vl.ownBlock)) X Y := Chg.of_grown hg (fun g e => .inr (hr g e).1)
  exact ⟨h.bel.grown hg h.bel.size (fun g e => (hr g e).2.1), h.lo, (hg.block _ (Array.getElem?_eq_some_iff.1 h.box).1 (fun e => (hr _ e.symm).2.2 (.inl rfl))).trans h.box,
    ⟨nv, kept_of n1 hg (fun g e e2 => (hr g e).2.2 (.inr (.inl e2))), n2.mono fun r vm ha => ha.chg hc (Fro.refl _ _)⟩, ⟨lv, kept_of l1 hg (fun g e e2 => (hr g e).2.2 (.inr (.inr e2))), l2.mono fun l u ha => ha.chg hc (Fro.refl _ _)⟩, h.ne⟩
end
set_option maxRecDepth 100000 in
set_option maxHeartbeats 8000000 in
theorem full_any {gk n1 d1 n2 d2 : Nat} {A1 A2 : Option Addr} {m1 m2 : Value} (w : World) (hg : w.heap[gk]? = some (.cells #[m1, m2, .slice A1 n1 d1, .slice A2 n2 d2] 114)) :
    Calls Tryd.prog 102 #[.pointer (some ⟨gk, 0, none⟩)] w fun e w' => e = .returned (.bool (decide (1000 < n1 ∨ 1000 < n2))) ∧ w' = w := by
  obtain ⟨k0, k1, k2, k3⟩ := cells_four hg
  by_cases h1 : (1000 : Int) < (n1 : Int)
  · have e : decide (1000 < n1 ∨ 1000 < n2) = true := decide_eq_true (.inl (by omega))
    rw [e]
    clear e hg
    go_enter Tryd.func102, Tryd.ntmps102
    go_wp2_with fail
    go_ret
    exact ⟨rfl, rfl⟩
  · by_cases h2 : (1000 : Int) < (n2 : Int)
    · have e : decide (1000 < n1 ∨ 1000 < n2) = true := decide_eq_true (.inr (by omega))
      rw [e]
      clear e hg
      go_enter Tryd.func102, Tryd.ntmps102
      go_wp2_with fail
      go_ret
      exact ⟨rfl, rfl⟩
    · have e : decide (1000 < n1 ∨ 1000 < n2) = false := decide_eq_false (by omega)
      rw [e]
      clear e hg
      go_enter Tryd.func102, Tryd.ntmps102
      go_wp2_with fail
      go_ret
      exact ⟨rfl, rfl⟩
end Go.Proofs.YthfegbcbpeedbaaDoor
