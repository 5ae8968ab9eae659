/- Minus: the copy of the list, and what its loop keeps. -/
import Derived.Test.YtabolonlkocopaaDoorMinM
namespace Go.Proofs.YtabolonlkocopaaDoor
open Go.RowKit Go.Plc Go.Shelf

theorem SqA.cells_at {w : World} {B : Nat} {ad : Addr} {L : List Sq} (h : SqA w B (some ad) L) : ∀ j u, (cellsOf L)[j]? = some u → w.cell? (ad.add j) = some u := by
  intro j u hj
  obtain ⟨i, s, hs, hc⟩ := cellsOf_at L j u hj
  obtain ⟨ad', e, _, h1, h2, h3⟩ := h i s hs
  injection e with e
  subst e
  rcases hc with ⟨rfl, rfl⟩ | ⟨rfl, rfl⟩ | ⟨rfl, rfl⟩
  · exact h1
  · rw [← Addr.add_add]; exact h2
  · rw [← Addr.add_add]; exact h3

set_option maxHeartbeats 2000000 in
theorem Clone_any (u : Value) (L : List Sq) (B : Nat) (w : World) (h : SqSl w B u L) (hn : L.length ≤ 1000000) :
    Calls Tryd.prog 81 #[u] w fun e w' => ∃ v, e = .returned v ∧ w'.ownsRow w.heap.size 23 3 v L.length (cellsOf L) ∧ Below w.heap.size w w' := by
  have u22 : ∀ (w : World) (a : Option Addr) (n c n' c' : Nat), (binOp .eql 27 (.slice a n c) (.slice none n' c')).run Tryd.prog w = .ok (.bool a.isNone) w := fun w a n c n' c' => Lib.run_eql_slice_nil w _ _ a n c n' c' Tryd.underlying27
  obtain ⟨i0, hi0, hz0, hz1, hz2⟩ := info_parts infoSq
  obtain ⟨A, c, rfl, h⟩ := h
  cases A with
  | none =>
    have hL : L = [] := by
      cases L with
      | nil => rfl
      | cons s L => obtain ⟨ad, e, _⟩ := h 0 s rfl; cases e
    subst hL
    go_enter Tryd.func81, Tryd.ntmps81
    go_wp2_with fail
    go_ret
    exact ⟨_, rfl, World.ownsRow_nil _ _ _ _, Below.refl _ _⟩
  | some ad =>
    have HC := Lib.hid h.cells_at
    have HL := Lib.hid (cellsOf_len L)
    have H1 := Lib.hid (cellsOf_one L)
    clear h
    go_enter Tryd.func81, Tryd.ntmps81
    go_wp2_with (at_builtin; refine wpList_append_own _ rfl _ _ 27 rfl w.heap.size 23 i0 (.agg #[.int .i64 0, .int .i64 0, .int .i64 0]) 3 24 Tryd.underlying27 hi0 hz0 hz1 hz2 rfl (by decide) _ _ _ rfl (World.ownsRow_made w #[] 0 (Nat.le_refl _) (Nat.zero_le _) (by simp)) ad L.length c (cellsOf L) rfl ?qc1 ?qc2 ?qc3 ?qc4 ?qc5 ?qc6 ?_)
    case qc1 => exact HL.out
    case qc2 =>
      intro j u hj
      have := HC.out j u hj
      exact (World.cell?_alloc_lt _ _ _ (World.block_lt_of_cell? _ _ this)).trans this
    case qc3 => exact H1.out
    case qc4 => unfold maxLen; omega
    case qc5 => omega
    case qc6 => simp
    intro v' w1 hown hgrow hnil
    go_wp2_with fail
    go_ret
    exact ⟨v', rfl, by simpa using hown, ((Below.refl _ w).alloc (Nat.le_refl _) _).grown hgrow (by simp) (by intro k hk; simp [Value.ownBlock] at hk; omega)⟩

theorem reg_ok {L : List Sq} (h : regB L = true) : L.length ≤ 4096 ∧ ∀ s ∈ L, s.okB = true := by
  unfold regB at h
  simp only [Bool.and_eq_true, decide_eq_true_eq] at h
  refine ⟨h.1.1, good_ok rfl fun j hj => ?_⟩
  exact List.all_eq_true.1 h.1.2 j (by simpa using hj)

/-- the last square of a row is taken off -/
theorem ownsRow_pop {w : World} {base n : Nat} {v : Value} {xs : List Value} (h : w.ownsRow base 23 3 v (n + 1) xs) :
    ∃ g cap, v = .slice (some ⟨g, 0, none⟩) (n + 1) cap ∧ n + 1 ≤ cap ∧ g < w.heap.size ∧ w.ownsRow base 23 3 (.slice (some ⟨g, 0, none⟩) n cap) n (xs.take (n * 3)) := by
  obtain ⟨hl, ⟨_, h0⟩ | ⟨g, cap, cur, rfl, hb, hg, h1, h2, h3, h4⟩⟩ := h
  · omega
  · refine ⟨g, cap, rfl, h1, (Array.getElem?_eq_some_iff.1 hg).1, by rw [List.length_take]; omega, .inr ⟨g, cap, cur, rfl, hb, hg, by omega, h2, h3, ?_⟩⟩
    rw [← h4, List.take_take, Nat.min_eq_left (by omega)]
theorem Cov.map_at {w : World} {b : Nat → Nat} {C : List Sq} (h : Cov w b C) {i : Nat} (hi : i < 11) : ∃ o, w.heap[b i]? = some o ∧ ∀ cs t fr, o ≠ .cells cs t fr := by
  obtain ⟨es, ⟨es', clock, hb, _⟩, _⟩ := h.row i hi
  exact ⟨_, hb, fun _ _ _ e => by cases e⟩

structure MinB (w : World) (gT gP gL : Nat) (bt bp bl : Nat → Nat) : Prop where
  t : ∀ i, i < 11 → w.heap.size ≤ bt i ∧ bt i < gT
  p : ∀ i, i < 11 → gT < bp i ∧ bp i < gP
  l : ∀ i, i < 11 → gP < bl i ∧ bl i < gL
structure MinI (w : World) (gT gP gL : Nat) (bt bp bl : Nat → Nat) (T P O : List Sq) (v : Value) (S : List Sq) (X : World) : Prop where
  covT : Cov X bt T
  covP : Cov X bp P
  covO : Cov X bl O
  boxT : X.heap[gT]? = some (.cells (covA bt) 84)
  boxP : X.heap[gP]? = some (.cells (covA bp) 84)
  boxL : X.heap[gL]? = some (.cells (covA bl) 84)
  own : X.ownsRow (gL + 1) 23 3 v S.length (cellsOf S.reverse)
  bel : Below w.heap.size w X
theorem MinB.ord {w : World} {gT gP gL : Nat} {bt bp bl : Nat → Nat} (h : MinB w gT gP gL bt bp bl) : w.heap.size < gT ∧ gT < gP ∧ gP < gL := by
  have := h.t 0 (by omega); have := h.p 0 (by omega); have := h.l 0 (by omega); omega
theorem MinI.grown {w : World} {gT gP gL : Nat} {bt bp bl : Nat → Nat} {T P O : List Sq} {v v' : Value} {S S' : List Sq} {X Y : World} {row : Option Nat} (h : MinI w gT gP gL bt bp bl T P O v S X) (hb : MinB w gT gP gL bt bp bl)
    (hg : X.grownBy Y row) (hr : ∀ r, row = some r → gL + 1 ≤ r) (ho : Y.ownsRow (gL + 1) 23 3 v' S'.length (cellsOf S'.reverse)) : MinI w gT gP gL bt bp bl T P O v' S' Y := by
  have hord := hb.ord
  have hne : ∀ k, k < gL + 1 → some k ≠ row := fun k hk e => by have := hr k e.symm; omega
  exact ⟨h.covT.grownB (B := gL) (fun i hi => by have := hb.t i hi; omega) hg (fun r e => by have := hr r e; omega), h.covP.grownB (B := gL) (fun i hi => by have := hb.p i hi; omega) hg (fun r e => by have := hr r e; omega), h.covO.grownB (B := gL) (fun i hi => (hb.l i hi).2) hg (fun r e => by have := hr r e; omega),
    (hg.block _ (Array.getElem?_eq_some_iff.1 h.boxT).1 (hne _ (by omega))).trans h.boxT, (hg.block _ (Array.getElem?_eq_some_iff.1 h.boxP).1 (hne _ (by omega))).trans h.boxP, (hg.block _ (Array.getElem?_eq_some_iff.1 h.boxL).1 (hne _ (by omega))).trans h.boxL, ho, h.bel.grown hg h.bel.size (fun r e => by have := hr r e; omega)⟩
theorem own_below {w w' : World} {base n : Nat} {v : Value} {xs : List Value} (h : w.ownsRow base 23 3 v n xs) (hb : Below w.heap.size w w') : w'.ownsRow base 23 3 v n xs :=
  h.kept (grown_of_below hb none) (by rcases Classical.em (v.ownBlock = none) with h | h; exact .inl h; exact .inr h)
theorem MinI.below {w : World} {gT gP gL : Nat} {bt bp bl : Nat → Nat} {T P O : List Sq} {v : Value} {S : List Sq} {X Y : World} (h : MinI w gT gP gL bt bp bl T P O v S X) (hb : MinB w gT gP gL bt bp bl) (h2 : Below X.heap.size X Y) : MinI w gT gP gL bt bp bl T P O v S Y :=
  h.grown hb (grown_of_below h2 none) (fun _ e => by cases e) (own_below h.own h2)
/-- the last square is taken off -/
theorem MinI.pop {w : World} {gT gP gL : Nat} {bt bp bl : Nat → Nat} {T P O : List Sq} {v : Value} {s : Sq} {S : List Sq} {X : World} (h : MinI w gT gP gL bt bp bl T P O v (s :: S) X) :
    ∃ g cap, v = .slice (some ⟨g, 0, none⟩) (S.length + 1) cap ∧ S.length + 1 ≤ cap ∧ g < X.heap.size ∧ SqA X X.heap.size (some ⟨g, 0, none⟩) (S.reverse ++ [s]) ∧ MinI w gT gP gL bt bp bl T P O (.slice (some ⟨g, 0, none⟩) S.length cap) S X := by
  have ho := h.own
  rw [List.reverse_cons] at ho
  have h2 : X.ownsRow (gL + 1) 23 3 v (S.reverse ++ [s]).length (cellsOf (S.reverse ++ [s])) := by simpa using ho
  obtain ⟨A, c, e, hA⟩ := SqA.of_own h2
  obtain ⟨g, cap, hv, hb, hg, hp⟩ := ownsRow_pop ho
  refine ⟨g, cap, hv, hb, hg, ?_, ⟨h.covT, h.covP, h.covO, h.boxT, h.boxP, h.boxL, ?_, h.bel⟩⟩
  · rw [hv] at e; injection e with e1 e2 e3; subst e1; exact hA
  · rw [cellsOf_app] at hp
    have e : (cellsOf S.reverse).length = S.length * 3 := by rw [cellsOf_len, List.length_reverse]
    rwa [List.take_append_of_le_length (by omega), List.take_of_length_le (by omega)] at hp
/-- a square is added to what is left -/
theorem MinI.add {w : World} {gT gP gL : Nat} {bt bp bl : Nat → Nat} {T P O O' : List Sq} {v : Value} {S : List Sq} {X Y : World} (h : MinI w gT gP gL bt bp bl T P O v S X) (hb : MinB w gT gP gL bt bp bl) (hc : Cov Y bl O') (h2 : CBut bl X Y) : MinI w gT gP gL bt bp bl T P O' v S Y := by
  have hord := hb.ord
  refine ⟨h.covT.keep fun i hi => h2.block _ (h.covT.lt i hi) (fun j hj e => by have := hb.t i hi; have := hb.l j hj; omega), h.covP.keep fun i hi => h2.block _ (h.covP.lt i hi) (fun j hj e => by have := hb.p i hi; have := hb.l j hj; omega), hc,
    h2.heap h.boxT (fun i hi e => by have := hb.l i hi; omega), h2.heap h.boxP (fun i hi e => by have := hb.l i hi; omega), h2.heap h.boxL (fun i hi e => by have := hb.l i hi; omega), ?_, h.bel.trans (h2.below h.bel.size (fun i hi => by have := hb.l i hi; omega))⟩
  obtain ⟨hl, h0 | ⟨g, cap, cur, rfl, h3, hg, hr⟩⟩ := h.own
  · exact ⟨hl, .inl h0⟩
  · exact ⟨hl, .inr ⟨g, cap, cur, rfl, h3, h2.heap hg (fun i hi e => by have := hb.l i hi; omega), hr⟩⟩
end Go.Proofs.YtabolonlkocopaaDoor
