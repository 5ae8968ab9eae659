
/- Minus, as mathematics. -/
import Derived.Test.YtabolonlkocopaaGreatDoorNml
import Derived.Deep.LoopGhost
namespace Go.Proofs.YtabolonlkocopaaGreatDoor
open Go.RowKit Go.Plc Go.Shelf

def minusRun (T P : List Sq) : Nat → List Sq → List Sq → List Sq
  | 0, _, O => O
  | _ + 1, [], O => O
  | k + 1, s :: S, O => if 4096 < O.length then O else if coversS T s then minusRun T P k S O else if s ∈ P then minusRun T P k ((kidsS s).reverse ++ S) O else minusRun T P k S (addS O s)
def wt1 (s : Sq) : Nat := 5 ^ (s.l + 1).toNat
def wt (S : List Sq) : Nat := (S.map wt1).sum
def minusS (a b : List Sq) : List Sq := minusRun (ofList b) (aroundS (ofList b)) (wt a.reverse) a.reverse []
def minusOut (a b : List Sq) : List Sq × Int := if regB a && regB b then (if 4096 < (minusS a b).length then ([], 2) else (regionS (minusS a b), 0)) else ([], 11)
example : minusOut [⟨1,2,1⟩] [⟨0,5,3⟩] = ([⟨0,4,2⟩, ⟨0,5,2⟩, ⟨0,4,3⟩], 0) := by decide +kernel

theorem minus_end {T P S O : List Sq} {k : Nat} (h : S = [] ∨ 4096 < O.length) : minusRun T P k S O = O := by
  cases k with
  | zero => rfl
  | succ k =>
    rcases h with rfl | h
    · rfl
    · cases S with
      | nil => rfl
      | cons s S => simp [minusRun, h]
theorem wt_pos (s : Sq) : 1 ≤ wt1 s := Nat.pow_pos (by decide)
theorem wt_cons (s : Sq) (S : List Sq) : wt (s :: S) = wt1 s + wt S := by simp [wt]
theorem wt_kids {s : Sq} (h : 1 ≤ s.l) (S : List Sq) : wt ((kidsS s).reverse ++ S) < wt (s :: S) := by
  have e : ∀ x y : Int, wt1 ⟨s.l - 1, x, y⟩ = 5 ^ s.l.toNat := fun x y => by unfold wt1; congr 1; show (s.l - 1 + 1).toNat = _; omega
  have e2 : wt1 s = 5 * 5 ^ s.l.toNat := by
    unfold wt1; rw [show (s.l + 1).toNat = s.l.toNat + 1 by omega, Nat.pow_succ, Nat.mul_comm]
  have p : 1 ≤ 5 ^ s.l.toNat := Nat.pow_pos (by decide)
  simp only [kidsS, wt, List.map_cons, List.sum_cons, List.reverse_cons, List.reverse_nil, List.nil_append, List.cons_append, e, e2]
  omega
theorem wt_len (S : List Sq) : S.length ≤ wt S := by
  induction S with
  | nil => exact Nat.le_refl _
  | cons s S ih => rw [wt_cons]; have := wt_pos s; simp; omega
theorem wt_le {S : List Sq} (h : ∀ s ∈ S, s.okB = true) : wt S ≤ S.length * 48828125 := by
  induction S with
  | nil => exact Nat.le_refl _
  | cons s S ih =>
    have h1 := ih fun t ht => h t (List.mem_cons_of_mem _ ht)
    have h2 := ((Sq.okB_iff s).1 (h s (List.mem_cons_self))).2.1
    have h3 : wt1 s ≤ 5 ^ 11 := Nat.pow_le_pow_right (by decide) (by omega)
    rw [wt_cons]
    simp only [List.length_cons, Nat.add_mul]
    omega
/-- the steps of a round -/
theorem minus_cov {T P S O : List Sq} {s : Sq} {k : Nat} (h0 : ¬ 4096 < O.length) (h : coversS T s = true) : minusRun T P (k + 1) (s :: S) O = minusRun T P k S O := by simp [minusRun, h0, h]
theorem minus_kids {T P S O : List Sq} {s : Sq} {k : Nat} (h0 : ¬ 4096 < O.length) (h : coversS T s = false) (h2 : s ∈ P) : minusRun T P (k + 1) (s :: S) O = minusRun T P k ((kidsS s).reverse ++ S) O := by simp [minusRun, h0, h, h2]
theorem minus_left {T P S O : List Sq} {s : Sq} {k : Nat} (h0 : ¬ 4096 < O.length) (h : coversS T s = false) (h2 : s ∉ P) : minusRun T P (k + 1) (s :: S) O = minusRun T P k S (addS O s) := by simp [minusRun, h0, h, h2]

/-- the squares of around are of level 1 or more -/
theorem aroundStep_lvl (s : Sq) : ∀ (k i : Nat) (O : List Sq), 1 ≤ i → (∀ t ∈ O, 1 ≤ t.l) → ∀ t ∈ aroundStep i s k O, 1 ≤ t.l
  | 0, i, O, _, h, t, ht => h t ht
  | k + 1, i, O, hi, h, t, ht => by
    unfold aroundStep at ht
    split at ht
    · exact h t ht
    · refine aroundStep_lvl s k (i + 1) _ (by omega) (fun u hu => ?_) t ht
      rcases mem_addS.1 hu with hu | rfl
      · exact h u hu
      · show 1 ≤ (i : Int); omega
theorem mem_sortS {L : List Sq} {s : Sq} : s ∈ sortS L ↔ s ∈ L := (sortS_perm L).mem_iff
theorem mem_regionS {C : List Sq} {s : Sq} (h : s ∈ regionS C) : s ∈ C := by
  unfold regionS at h
  obtain ⟨i, _, hi⟩ := List.mem_flatMap.1 h
  unfold rowS at hi
  rw [mem_sortS] at hi
  exact (List.mem_filter.1 hi).1
theorem around_lvl {C : List Sq} (h : ∀ s ∈ C, s.okB = true) : ∀ t ∈ aroundS C, 1 ≤ t.l := by
  rw [around_eq]
  have hR : ∀ s ∈ regionS C, 0 ≤ s.l := fun s hs => ((Sq.okB_iff s).1 (h s (mem_regionS hs))).1
  generalize regionS C = R at hR
  suffices ∀ (R O : List Sq), (∀ s ∈ R, 0 ≤ s.l) → (∀ t ∈ O, 1 ≤ t.l) → ∀ t ∈ R.foldl aroS O, 1 ≤ t.l from this R [] hR (fun t ht => by cases ht)
  intro R
  induction R with
  | nil => intro O _ hO; exact hO
  | cons s R ih =>
    intro O hR hO
    refine ih _ (fun t ht => hR t (List.mem_cons_of_mem _ ht)) ?_
    have := hR s List.mem_cons_self
    exact aroundStep_lvl s _ _ O (by omega) hO
theorem cellsOf_app (P Q : List Sq) : cellsOf (P ++ Q) = cellsOf P ++ cellsOf Q := by unfold cellsOf; rw [List.flatMap_append]
theorem cellsOf_one (P : List Sq) : ∀ u ∈ cellsOf P, u.oneCell' = true := by
  intro u hu
  obtain ⟨s, _, hs⟩ := List.mem_flatMap.1 hu
  unfold encS at hs
  simp only [List.mem_cons, List.not_mem_nil, or_false] at hs
  rcases hs with rfl | rfl | rfl <;> rfl
theorem cellsOf_at : ∀ (P : List Sq) (j : Nat) (u : Value), (cellsOf P)[j]? = some u → ∃ i s, P[i]? = some s ∧ (j = i * 3 ∧ u = .int .i64 s.l ∨ j = i * 3 + 1 ∧ u = .int .i64 s.x ∨ j = i * 3 + 2 ∧ u = .int .i64 s.y)
  | [], j, u, h => by simp [cellsOf] at h
  | s :: P, j, u, h => by
    have e : cellsOf (s :: P) = [.int .i64 s.l, .int .i64 s.x, .int .i64 s.y] ++ cellsOf P := rfl
    rw [e] at h
    by_cases h3 : j < 3
    · refine ⟨0, s, rfl, ?_⟩
      have : j = 0 ∨ j = 1 ∨ j = 2 := by omega
      rcases this with rfl | rfl | rfl <;> simp at h <;> simp [h]
    · rw [List.getElem?_append_right (by simp; omega)] at h
      obtain ⟨i, t, hi, ht⟩ := cellsOf_at P (j - 3) u (by simpa using h)
      refine ⟨i + 1, t, by simpa using hi, ?_⟩
      rcases ht with ⟨h, rfl⟩ | ⟨h, rfl⟩ | ⟨h, rfl⟩
      · exact .inl ⟨by omega, rfl⟩
      · exact .inr (.inl ⟨by omega, rfl⟩)
      · exact .inr (.inr ⟨by omega, rfl⟩)
end Go.Proofs.YtabolonlkocopaaGreatDoor


/- Minus: the copy of the list, and what its loop keeps. -/
namespace Go.Proofs.YtabolonlkocopaaGreatDoor
open Go.RowKit Go.Plc Go.Shelf

theorem SqA.cells_at {w : World} {B : Nat} {ad : Addr} {L : List Sq} (h : SqA w B (some ad) L) : ∀ j u, (cellsOf L)[j]? = some u → w.cell? (ad.add j) = some u := by
  intro j u hj
  obtain ⟨i, s, hs, hc⟩ := cellsOf_at L j u hj
  obtain ⟨ad', e, _, h1, h2, h3⟩ := h i s hs
  injection e with e
  subst e
  rcases hc with ⟨rfl, rfl⟩ | ⟨rfl, rfl⟩ | ⟨rfl, rfl⟩
  · exact h1
  · rw [← Addr.add_add]; exact h2
  · rw [← Addr.add_add]; exact h3

set_option maxHeartbeats 2000000 in
theorem Clone_any (u : Value) (L : List Sq) (B : Nat) (w : World) (h : SqSl w B u L) (hn : L.length ≤ 1000000) :
    Calls Tryz.prog 52 #[u] w fun e w' => ∃ v, e = .returned v ∧ w'.ownsRow w.heap.size 31 3 v L.length (cellsOf L) ∧ Below w.heap.size w w' := by
  have u22 : ∀ (w : World) (a : Option Addr) (n c n' c' : Nat), (binOp .eql 22 (.slice a n c) (.slice none n' c')).run Tryz.prog w = .ok (.bool a.isNone) w := fun w a n c n' c' => Lib.run_eql_slice_nil w _ _ a n c n' c' Tryz.underlying22
  obtain ⟨i0, hi0, hz0, hz1, hz2⟩ := info_parts infoSq
  obtain ⟨A, c, rfl, h⟩ := h
  cases A with
  | none =>
    have hL : L = [] := by
      cases L with
      | nil => rfl
      | cons s L => obtain ⟨ad, e, _⟩ := h 0 s rfl; cases e
    subst hL
    go_enter Tryz.func52, Tryz.ntmps52
    go_wp2_with fail
    go_ret
    exact ⟨_, rfl, World.ownsRow_nil _ _ _ _, Below.refl _ _⟩
  | some ad =>
    have HC := Lib.hid h.cells_at
    have HL := Lib.hid (cellsOf_len L)
    have H1 := Lib.hid (cellsOf_one L)
    clear h
    go_enter Tryz.func52, Tryz.ntmps52
    go_wp2_with (at_builtin; refine wpList_append_own _ rfl _ _ 22 rfl w.heap.size 31 i0 (.agg #[.int .i64 0, .int .i64 0, .int .i64 0]) 3 24 Tryz.underlying22 hi0 hz0 hz1 hz2 rfl (by decide) _ _ _ rfl (World.ownsRow_made w #[] 0 (Nat.le_refl _) (Nat.zero_le _) (by simp)) ad L.length c (cellsOf L) rfl ?qc1 ?qc2 ?qc3 ?qc4 ?qc5 ?qc6 ?_)
    case qc1 => exact HL.out
    case qc2 =>
      intro j u hj
      have := HC.out j u hj
      exact (World.cell?_alloc_lt _ _ _ (World.block_lt_of_cell? _ _ this)).trans this
    case qc3 => exact H1.out
    case qc4 => unfold maxLen; omega
    case qc5 => omega
    case qc6 => simp
    intro v' w1 hown hgrow hnil
    go_wp2_with fail
    go_ret
    exact ⟨v', rfl, by simpa using hown, ((Below.refl _ w).alloc (Nat.le_refl _) _).grown hgrow (by simp) (by intro k hk; simp [Value.ownBlock] at hk; omega)⟩

theorem reg_ok {L : List Sq} (h : regB L = true) : L.length ≤ 4096 ∧ ∀ s ∈ L, s.okB = true := by
  unfold regB at h
  simp only [Bool.and_eq_true, decide_eq_true_eq] at h
  refine ⟨h.1.1, good_ok rfl fun j hj => ?_⟩
  exact List.all_eq_true.1 h.1.2 j (by simpa using hj)

/-- the last square of a row is taken off -/
theorem ownsRow_pop {w : World} {base n : Nat} {v : Value} {xs : List Value} (h : w.ownsRow base 31 3 v (n + 1) xs) :
    ∃ g cap, v = .slice (some ⟨g, 0, none⟩) (n + 1) cap ∧ n + 1 ≤ cap ∧ g < w.heap.size ∧ w.ownsRow base 31 3 (.slice (some ⟨g, 0, none⟩) n cap) n (xs.take (n * 3)) := by
  obtain ⟨hl, ⟨_, h0⟩ | ⟨g, cap, cur, rfl, hb, hg, h1, h2, h3, h4⟩⟩ := h
  · omega
  · refine ⟨g, cap, rfl, h1, (Array.getElem?_eq_some_iff.1 hg).1, by rw [List.length_take]; omega, .inr ⟨g, cap, cur, rfl, hb, hg, by omega, h2, h3, ?_⟩⟩
    rw [← h4, List.take_take, Nat.min_eq_left (by omega)]
theorem Cov.map_at {w : World} {b : Nat → Nat} {C : List Sq} (h : Cov w b C) {i : Nat} (hi : i < 11) : ∃ o, w.heap[b i]? = some o ∧ ∀ cs t fr, o ≠ .cells cs t fr := by
  obtain ⟨es, ⟨es', clock, hb, _⟩, _⟩ := h.row i hi
  exact ⟨_, hb, fun _ _ _ e => by cases e⟩

structure MinB (w : World) (gT gP gL : Nat) (bt bp bl : Nat → Nat) : Prop where
  t : ∀ i, i < 11 → w.heap.size ≤ bt i ∧ bt i < gT
  p : ∀ i, i < 11 → gT < bp i ∧ bp i < gP
  l : ∀ i, i < 11 → gP < bl i ∧ bl i < gL
structure MinI (w : World) (gT gP gL : Nat) (bt bp bl : Nat → Nat) (T P O : List Sq) (v : Value) (S : List Sq) (X : World) : Prop where
  covT : Cov X bt T
  covP : Cov X bp P
  covO : Cov X bl O
  boxT : X.heap[gT]? = some (.cells (covA bt) 54)
  boxP : X.heap[gP]? = some (.cells (covA bp) 54)
  boxL : X.heap[gL]? = some (.cells (covA bl) 54)
  own : X.ownsRow (gL + 1) 31 3 v S.length (cellsOf S.reverse)
  bel : Below w.heap.size w X
theorem MinB.ord {w : World} {gT gP gL : Nat} {bt bp bl : Nat → Nat} (h : MinB w gT gP gL bt bp bl) : w.heap.size < gT ∧ gT < gP ∧ gP < gL := by
  have := h.t 0 (by omega); have := h.p 0 (by omega); have := h.l 0 (by omega); omega
theorem MinI.grown {w : World} {gT gP gL : Nat} {bt bp bl : Nat → Nat} {T P O : List Sq} {v v' : Value} {S S' : List Sq} {X Y : World} {row : Option Nat} (h : MinI w gT gP gL bt bp bl T P O v S X) (hb : MinB w gT gP gL bt bp bl)
    (hg : X.grownBy Y row) (hr : ∀ r, row = some r → gL + 1 ≤ r) (ho : Y.ownsRow (gL + 1) 31 3 v' S'.length (cellsOf S'.reverse)) : MinI w gT gP gL bt bp bl T P O v' S' Y := by
  have hord := hb.ord
  have hne : ∀ k, k < gL + 1 → some k ≠ row := fun k hk e => by have := hr k e.symm; omega
  exact ⟨h.covT.grownB (B := gL) (fun i hi => by have := hb.t i hi; omega) hg (fun r e => by have := hr r e; omega), h.covP.grownB (B := gL) (fun i hi => by have := hb.p i hi; omega) hg (fun r e => by have := hr r e; omega), h.covO.grownB (B := gL) (fun i hi => (hb.l i hi).2) hg (fun r e => by have := hr r e; omega),
    (hg.block _ (Array.getElem?_eq_some_iff.1 h.boxT).1 (hne _ (by omega))).trans h.boxT, (hg.block _ (Array.getElem?_eq_some_iff.1 h.boxP).1 (hne _ (by omega))).trans h.boxP, (hg.block _ (Array.getElem?_eq_some_iff.1 h.boxL).1 (hne _ (by omega))).trans h.boxL, ho, h.bel.grown hg h.bel.size (fun r e => by have := hr r e; omega)⟩
theorem own_below {w w' : World} {base n : Nat} {v : Value} {xs : List Value} (h : w.ownsRow base 31 3 v n xs) (hb : Below w.heap.size w w') : w'.ownsRow base 31 3 v n xs :=
  h.kept (grown_of_below hb none) (by rcases Classical.em (v.ownBlock = none) with h | h; exact .inl h; exact .inr h)
theorem MinI.below {w : World} {gT gP gL : Nat} {bt bp bl : Nat → Nat} {T P O : List Sq} {v : Value} {S : List Sq} {X Y : World} (h : MinI w gT gP gL bt bp bl T P O v S X) (hb : MinB w gT gP gL bt bp bl) (h2 : Below X.heap.size X Y) : MinI w gT gP gL bt bp bl T P O v S Y :=
  h.grown hb (grown_of_below h2 none) (fun _ e => by cases e) (own_below h.own h2)
/-- the last square is taken off -/
theorem MinI.pop {w : World} {gT gP gL : Nat} {bt bp bl : Nat → Nat} {T P O : List Sq} {v : Value} {s : Sq} {S : List Sq} {X : World} (h : MinI w gT gP gL bt bp bl T P O v (s :: S) X) :
    ∃ g cap, v = .slice (some ⟨g, 0, none⟩) (S.length + 1) cap ∧ S.length + 1 ≤ cap ∧ g < X.heap.size ∧ SqA X X.heap.size (some ⟨g, 0, none⟩) (S.reverse ++ [s]) ∧ MinI w gT gP gL bt bp bl T P O (.slice (some ⟨g, 0, none⟩) S.length cap) S X := by
  have ho := h.own
  rw [List.reverse_cons] at ho
  have h2 : X.ownsRow (gL + 1) 31 3 v (S.reverse ++ [s]).length (cellsOf (S.reverse ++ [s])) := by simpa using ho
  obtain ⟨A, c, e, hA⟩ := SqA.of_own h2
  obtain ⟨g, cap, hv, hb, hg, hp⟩ := ownsRow_pop ho
  refine ⟨g, cap, hv, hb, hg, ?_, ⟨h.covT, h.covP, h.covO, h.boxT, h.boxP, h.boxL, ?_, h.bel⟩⟩
  · rw [hv] at e; injection e with e1 e2 e3; subst e1; exact hA
  · rw [cellsOf_app] at hp
    have e : (cellsOf S.reverse).length = S.length * 3 := by rw [cellsOf_len, List.length_reverse]
    rwa [List.take_append_of_le_length (by omega), List.take_of_length_le (by omega)] at hp
/-- a square is added to what is left -/
theorem MinI.add {w : World} {gT gP gL : Nat} {bt bp bl : Nat → Nat} {T P O O' : List Sq} {v : Value} {S : List Sq} {X Y : World} (h : MinI w gT gP gL bt bp bl T P O v S X) (hb : MinB w gT gP gL bt bp bl) (hc : Cov Y bl O') (h2 : CBut bl X Y) : MinI w gT gP gL bt bp bl T P O' v S Y := by
  have hord := hb.ord
  refine ⟨h.covT.keep fun i hi => h2.block _ (h.covT.lt i hi) (fun j hj e => by have := hb.t i hi; have := hb.l j hj; omega), h.covP.keep fun i hi => h2.block _ (h.covP.lt i hi) (fun j hj e => by have := hb.p i hi; have := hb.l j hj; omega), hc,
    h2.heap h.boxT (fun i hi e => by have := hb.l i hi; omega), h2.heap h.boxP (fun i hi e => by have := hb.l i hi; omega), h2.heap h.boxL (fun i hi e => by have := hb.l i hi; omega), ?_, h.bel.trans (h2.below h.bel.size (fun i hi => by have := hb.l i hi; omega))⟩
  obtain ⟨hl, h0 | ⟨g, cap, cur, rfl, h3, hg, hr⟩⟩ := h.own
  · exact ⟨hl, .inl h0⟩
  · exact ⟨hl, .inr ⟨g, cap, cur, rfl, h3, h2.heap hg (fun i hi e => by have := hb.l i hi; omega), hr⟩⟩
end Go.Proofs.YtabolonlkocopaaGreatDoor


/- Minus. -/
namespace Go.Proofs.YtabolonlkocopaaGreatDoor
open Go.RowKit Go.Plc Go.Shelf

set_option maxRecDepth 100000 in
set_option maxHeartbeats 20000000 in
theorem Minus_any (u v : Value) (a b : List Sq) (w : World) (hu : SqSl w w.heap.size u a) (hv : SqSl w w.heap.size v b) (hna : a.length ≤ 1000000) (hnb : b.length ≤ 1000000) :
    Calls Tryz.prog 17 #[u, v] w (OutSq (minusOut a b) w) := by
  have HVa := Lib.hid (fun (w1 : World) (hb : Below w.heap.size w w1) => ValidRegion_any u a w1 ((hu.below hb).mono hb.size) hna)
  have HVb := Lib.hid (fun (w1 : World) (hb : Below w.heap.size w w1) => ValidRegion_any v b w1 ((hv.below hb).mono hb.size) hnb)
  have HO := Lib.hid (show minusOut a b = if regB a && regB b then (if 4096 < (minusS a b).length then ([], 2) else (regionS (minusS a b), 0)) else ([], 11) from rfl)
  have HSa := Lib.hid hu
  have HSb := Lib.hid hv
  clear hu hv
  have hcA : ∀ b : Nat → Nat, covA b = #[.map (some (b 0)), .map (some (b 1)), .map (some (b 2)), .map (some (b 3)), .map (some (b 4)), .map (some (b 5)), .map (some (b 6)), .map (some (b 7)), .map (some (b 8)), .map (some (b 9)), .map (some (b 10))] := fun _ => rfl
  have HA := Lib.hid hcA
  clear hcA
  cases ra : regB a
  · have HR := Lib.hid (show minusOut a b = ([], 11) by rw [HO.out, ra]; rfl)
    rw [ra] at HVa
    clear ra HO
    go_enter Tryz.func17, Tryz.ntmps17
    go_wp2_with fail
    refine (HVa.out w (Below.refl _ _)).mono ?_
    rintro e w1 ⟨rfl, hb1⟩
    have HB1 := Lib.hid hb1
    clear hb1
    go_wp2_with fail
    go_ret2
    exact OutSq.nil HR.out HB1.out
  · have HGa := Lib.hid (reg_ok ra)
    rw [ra] at HVa
    cases rb : regB b
    · have HR := Lib.hid (show minusOut a b = ([], 11) by rw [HO.out, rb, Bool.and_false]; rfl)
      rw [rb] at HVb
      clear ra rb HO
      go_enter Tryz.func17, Tryz.ntmps17
      go_wp2_with fail
      refine (HVa.out w (Below.refl _ _)).mono ?_
      rintro e w1 ⟨rfl, hb1⟩
      have HB1 := Lib.hid hb1
      clear hb1
      go_wp2_with fail
      refine (HVb.out w1 HB1.out).mono ?_
      rintro e w2 ⟨rfl, hb2⟩
      have HB2 := Lib.hid (HB1.out.trans (hb2.mono HB1.out.size))
      clear hb2
      go_wp2_with fail
      go_ret2
      exact OutSq.nil HR.out HB2.out
    · have HGb := Lib.hid (reg_ok rb)
      rw [rb] at HVb
      have HO2 := Lib.hid (show minusOut a b = if 4096 < (minusS a b).length then ([], 2) else (regionS (minusS a b), 0) by rw [HO.out, ra, rb]; rfl)
      clear ra rb HO
      go_enter Tryz.func17, Tryz.ntmps17
      go_wp2_with fail
      refine (HVa.out w (Below.refl _ _)).mono ?_
      rintro e w1 ⟨rfl, hb1⟩
      have HB1 := Lib.hid hb1
      clear hb1
      go_wp2_with fail
      refine (HVb.out w1 HB1.out).mono ?_
      rintro e w2 ⟨rfl, hb2⟩
      have HB2 := Lib.hid (HB1.out.trans (hb2.mono HB1.out.size))
      clear hb2
      go_wp2_with fail
      refine (coverOf_any v b w2 ((HSb.out.below HB2.out).mono HB2.out.size) HGb.out.2 (by omega)).mono ?_
      rintro e w3 ⟨bt, rfl, hbt, hct, hb3⟩
      have H3 := Lib.hid (show (∀ i, i < 11 → w.heap.size ≤ bt i) ∧ Cov w3 bt (ofList b) ∧ Below w.heap.size w w3 from ⟨fun i hi => Nat.le_trans HB2.out.size (hbt i hi), hct, HB2.out.trans (hb3.mono HB2.out.size)⟩)
      clear hbt hct hb3
      unfold covA
      go_wp2_with fail
      rw [← HA.out bt]
      have hl := ofList_len b []
      refine ((callsIn_wide (n := 6)).1 (around_in 6 (Nat.le_refl _) bt (ofList b) (w3.alloc (.cells (covA bt) 54)) (H3.out.2.1.below (below_new _)) (by have := HGb.out.1; simp at hl; unfold ofList; omega))).mono ?_
      clear hl
      rintro e w4 ⟨bp, rfl, hbp, hcp, hb4⟩
      have H4 := Lib.hid (show (∀ i, i < 11 → w3.heap.size < bp i) ∧ Cov w4 bp (aroundS (ofList b)) ∧ Cov w4 bt (ofList b) ∧ w4.heap[w3.heap.size]? = some (.cells (covA bt) 54) ∧ Below w.heap.size w w4 ∧ w3.heap.size < w4.heap.size from
        ⟨fun i hi => by have := hbp i hi; simp at this; omega, hcp, (H3.out.2.1.below (below_new _)).below hb4, (hb4.block _ (by simp)).trans (World.alloc_heap_new w3 _), (H3.out.2.2.trans ((below_new _).mono H3.out.2.2.size)).trans (hb4.mono (by have := H3.out.2.2.size; simp; omega)), by have := hb4.size; simp at this; omega⟩)
      clear hbp hcp hb4
      unfold covA
      go_wp2_with fail
      rw [← HA.out bp]
      refine (coverOf_any (.slice none 0 0) [] (w4.alloc (.cells (covA bp) 54)) ⟨none, 0, rfl, fun i s hs => by simp at hs⟩ (fun s hs => by cases hs) (by simp)).mono ?_
      rintro e w5 ⟨bl, rfl, hbl, hcl, hb5⟩
      have H5 := Lib.hid (show (∀ i, i < 11 → w4.heap.size < bl i) ∧ Cov w5 bl [] ∧ Cov w5 bp (aroundS (ofList b)) ∧ Cov w5 bt (ofList b) ∧ w5.heap[w3.heap.size]? = some (.cells (covA bt) 54) ∧ w5.heap[w4.heap.size]? = some (.cells (covA bp) 54) ∧ Below w.heap.size w w5 ∧ w4.heap.size < w5.heap.size from
        ⟨fun i hi => by have := hbl i hi; simp at this; omega, hcl, (H4.out.2.1.below (below_new _)).below hb5, (H4.out.2.2.1.below (below_new _)).below hb5, (hb5.block _ (by have := H4.out.2.2.2.2.2; simp; omega)).trans ((Below.heap_alloc _ _ _ H4.out.2.2.2.2.2).trans H4.out.2.2.2.1), (hb5.block _ (by simp)).trans (World.alloc_heap_new w4 _),
          (H4.out.2.2.2.2.1.trans ((below_new _).mono H4.out.2.2.2.2.1.size)).trans (hb5.mono (by have := H4.out.2.2.2.2.1.size; simp; omega)), by have := hb5.size; simp at this; omega⟩)
      clear hbl hcl hb5
      unfold covA
      go_wp2_with fail
      rw [← HA.out bl]
      have hb0 : Below w.heap.size w (w5.alloc (.cells (covA bl) 54)) := H5.out.2.2.2.2.2.2.1.trans ((below_new _).mono H5.out.2.2.2.2.2.2.1.size)
      refine (Clone_any u a _ _ ((HSa.out.below hb0).mono (Nat.le_refl _)) hna).mono ?_
      rintro e w6 ⟨v6, rfl, hown, hb6⟩
      have HMB := Lib.hid (show MinB w w3.heap.size w4.heap.size w5.heap.size bt bp bl from ⟨fun i hi => ⟨H3.out.1 i hi, H3.out.2.1.lt i hi⟩, fun i hi => ⟨H4.out.1 i hi, H4.out.2.1.lt i hi⟩, fun i hi => ⟨H5.out.1 i hi, H5.out.2.1.lt i hi⟩⟩)
      have HI0 := Lib.hid (show MinI w w3.heap.size w4.heap.size w5.heap.size bt bp bl (ofList b) (aroundS (ofList b)) [] v6 a.reverse w6 from
        ⟨(H5.out.2.2.2.1.below (below_new _)).below hb6, (H5.out.2.2.1.below (below_new _)).below hb6, (H5.out.2.1.below (below_new _)).below hb6,
          (hb6.block _ (by have := HMB.out.ord; simp; omega)).trans ((Below.heap_alloc _ _ _ (by have := HMB.out.ord; omega)).trans H5.out.2.2.2.2.1), (hb6.block _ (by have := HMB.out.ord; simp; omega)).trans ((Below.heap_alloc _ _ _ (by have := HMB.out.ord; omega)).trans H5.out.2.2.2.2.2.1), (hb6.block _ (by simp)).trans (World.alloc_heap_new w5 _),
          by simpa using hown, hb0.trans (hb6.mono hb0.size)⟩)
      have HT := Lib.hid (show (∀ s ∈ aroundS (ofList b), 1 ≤ s.l) from around_lvl H3.out.2.1.ok)
      have HF := Lib.hid (show minusRun (ofList b) (aroundS (ofList b)) (wt a.reverse) a.reverse [] = minusS a b from rfl)
      have HW := Lib.hid (show wt a.reverse ≤ 200000000000 by
        have := wt_le (S := a.reverse) (fun s hs => HGa.out.2 s (by simpa using hs)); have := HGa.out.1; simp at *; omega)
      clear hown hb6 hb0 H3 H4 H5
      go_wp2_with fail
      generalize w3.heap.size = gT at *
      generalize w4.heap.size = gP at *
      generalize w5.heap.size = gL at *
      generalize ofList b = T at *
      generalize aroundS T = P at *
      generalize minusS a b = F at *
      go_loopg [9] (wt a.reverse) (fun k v wr => ∃ S O, MinI w gT gP gL bt bp bl T P O v S wr ∧ (∀ s ∈ S, s.okB = true) ∧ wt S ≤ k ∧ minusRun T P k S O = F ∧ O.length ≤ 4097 ∧ k ≤ 200000000000)
      case atStart => exact ⟨a.reverse, [], HI0.out, fun s hs => HGa.out.2 s (by simpa using hs), Nat.le_refl _, HF.out, by simp, HW.out⟩
      case round =>
        obtain ⟨S, O, hI, hok, hwt, hrun, hlen, hgk⟩ := hrel
        have HI := Lib.hid hI
        have HK := Lib.hid (And.intro hok (And.intro hwt hrun))
        obtain ⟨q0, q1, q2, q3, q4, q5, q6, q7, q8, q9, q10⟩ := cov_cells hI.boxL
        have hszL : gL < wr.heap.size := (Array.getElem?_eq_some_iff.1 hI.boxL).1
        clear hI hok hwt hrun
        have HE := Lib.hid (show (S = [] ∨ 4096 < O.length) → O = F from fun h => (minus_end h).symm.trans HK.out.2.2)
        by_cases hS : S = []
        · subst hS
          obtain ⟨A, c, rfl⟩ : ∃ A c, u9 = .slice A 0 c := by
            rcases HI.out.own.2 with ⟨h, _⟩ | ⟨g, cap, cur, h, _⟩
            · exact ⟨none, 0, h⟩
            · exact ⟨_, _, h⟩
          have HR := Lib.hid (region_any bl O wr HI.out.covO (by omega))
          have HOF := Lib.hid (HE.out (.inl rfl))
          unfold covA at HR
          go_wp2_with fail
          refine HR.out.mono ?_
          rintro e w7 ⟨hb7, (⟨hl, rfl⟩ | ⟨hl, A', c', rfl, hA'⟩)⟩
          · have HB7 := Lib.hid (HI.out.bel.trans (hb7.mono HI.out.bel.size))
            have HR2 := Lib.hid (show minusOut a b = ([], 2) by rw [HO2.out, if_pos (by rw [← HOF.out]; exact hl)])
            go_wp2_with fail
            go_ret2
            exact OutSq.nil HR2.out HB7.out
          · have HB7 := Lib.hid (HI.out.bel.trans (hb7.mono HI.out.bel.size))
            have HR2 := Lib.hid (show minusOut a b = (regionS O, 0) by rw [HO2.out, ← HOF.out, if_neg (by omega)])
            go_wp2_with fail
            go_ret2
            exact OutSq.mk HR2.out hA' HB7.out
        · obtain ⟨s, S', rfl⟩ : ∃ s S', S = s :: S' := by
            cases S with
            | nil => exact absurd rfl hS
            | cons s S' => exact ⟨s, S', rfl⟩
          obtain ⟨g, cap, rfl, hcap, hg, hA, hI2⟩ := HI.out.pop
          have HI2 := Lib.hid hI2
          have HSA := Lib.hid hA
          have hn1 : S'.length + 1 ≤ 200000000000 := by have := wt_len (s :: S'); have := HK.out.2.1; simp at *; omega
          have HSz := Lib.hid (size_any bl O wr HI.out.covO (by omega))
          clear hA hI2 hS
          generalize hm : S'.length + 1 = n at *
          have HM := Lib.hid hm
          clear hm
          have f0 : 0 < n := by have := HM.out; omega
          have f1 : (0 : Int) < (n : Int) := by omega
          have f2 : n - 1 < n := by omega
          have f3 : n - 1 ≤ cap := by omega
          have hwr1 : IntKind.i64.wrap ((n : Int) - 1) = ((n - 1 : Nat) : Int) := by rw [IntKind.wrap_i64]; omega
          unfold covA at HSz
          go_wp2_with fail
          refine HSz.out.mono ?_
          rintro e w7 ⟨rfl, hb7⟩
          have HI7 := Lib.hid (HI.out.below HMB.out hb7)
          have HI27 := Lib.hid (HI2.out.below HMB.out hb7)
          have HSA7 := Lib.hid ((HSA.out.below hb7).mono hb7.size)
          clear hb7
          obtain ⟨q0, q1, q2, q3, q4, q5, q6, q7, q8, q9, q10⟩ := cov_cells HI7.out.boxL
          have hszL : gL < w7.heap.size := (Array.getElem?_eq_some_iff.1 HI7.out.boxL).1
          by_cases hbig : 4096 < O.length
          · have HR := Lib.hid (region_any bl O w7 HI7.out.covO (by omega))
            have HOF := Lib.hid (HE.out (.inr hbig))
            unfold covA at HR
            have f4 : ¬ ((O.length : Int) ≤ 4096) := by omega
            go_wp2_with fail
            refine HR.out.mono ?_
            rintro e w8 ⟨hb8, (⟨hl, rfl⟩ | ⟨hl, A', c', rfl, hA'⟩)⟩
            · have HB8 := Lib.hid (HI7.out.bel.trans (hb8.mono HI7.out.bel.size))
              have HR2 := Lib.hid (show minusOut a b = ([], 2) by rw [HO2.out, if_pos (by rw [← HOF.out]; exact hl)])
              go_wp2_with fail
              go_ret2
              exact OutSq.nil HR2.out HB8.out
            · omega
          · have f4 : ((O.length : Int) ≤ 4096) := by omega
            have HIx := Lib.hid (show (S'.reverse ++ [s])[n - 1]? = some s by
              have := HM.out
              rw [List.getElem?_append_right (by simp; omega), List.length_reverse, show n - 1 - S'.length = 0 by omega]; rfl)
            obtain ⟨s', ad, hs', hm', had, hadb, c0, c1, c2⟩ := HSA7.out.at_ (n := n) (by have := HM.out; simp; omega) f2
            have es : s' = s := by have := HIx.out; rw [hs'] at this; injection this
            subst es
            injection had with had
            clear hs' hm'
            subst had
            generalize had0 : (⟨g, 0, none⟩ : Addr) = ad0 at *
            have HAD := Lib.hid had0
            clear had0
            have HOs := Lib.hid (HK.out.1 s' List.mem_cons_self)
            have HKg := Lib.hid (show ∃ k, gk = k + 1 from ⟨gk - 1, by have h1 := HK.out.2.1; rw [wt_cons] at h1; have := wt_pos s'; omega⟩)
            obtain ⟨t0, t1, t2, t3, t4, t5, t6, t7, t8, t9, t10⟩ := cov_cells HI7.out.boxT
            obtain ⟨p0, p1, p2, p3, p4, p5, p6, p7, p8, p9, p10⟩ := cov_cells HI7.out.boxP
            have hszT : gT < w7.heap.size := (Array.getElem?_eq_some_iff.1 HI7.out.boxT).1
            have hszP : gP < w7.heap.size := (Array.getElem?_eq_some_iff.1 HI7.out.boxP).1
            go_wp2_with fail
            have HI8 := Lib.hid (show MinI w gT gP gL bt bp bl T P O (.slice (some ad0) (n - 1) cap) S' (w7.alloc (.cells #[.int .i64 s'.l, .int .i64 s'.x, .int .i64 s'.y] 31)) from by
              have h := HI27.out.below HMB.out (below_new (.cells #[.int .i64 s'.l, .int .i64 s'.x, .int .i64 s'.y] 31))
              rwa [show S'.length = n - 1 by have := HM.out; omega] at h)
            have HS8 := Lib.hid (World.alloc_heap_new w7 (.cells #[.int .i64 s'.l, .int .i64 s'.x, .int .i64 s'.y] 31))
            have HC8 := Lib.hid (covers_any bt s' T _ HI8.out.covT HOs.out)
            unfold covA sqv at HC8
            clear HI7 HI27 HSA7 HIx HSz HI2 HSA HI c0 c1 c2
            refine HC8.out.mono ?_
            rintro e w9 ⟨rfl, hb9⟩
            have HI9 := Lib.hid (HI8.out.below HMB.out hb9)
            have HS9 := Lib.hid ((hb9.block w7.heap.size (by simp)).trans HS8.out)
            clear hb9 HI8 HS8 HC8
            generalize w7.heap.size = gs at *
            obtain ⟨s0, s1, s2⟩ := sq_cells HS9.out
            have hszs : gs < w9.heap.size := (Array.getElem?_eq_some_iff.1 HS9.out).1
            clear t0 t1 t2 t3 t4 t5 t6 t7 t8 t9 t10 p0 p1 p2 p3 p4 p5 p6 p7 p8 p9 p10 q0 q1 q2 q3 q4 q5 q6 q7 q8 q9 q10 hszL hszT hszP
            obtain ⟨k, rfl⟩ := HKg.out
            cases hc : coversS T s'
            · have HHO := Lib.hid (hasOne_cov bp s' P w9 HI9.out.covP HOs.out)
              have HCf := Lib.hid hc
              clear hc
              obtain ⟨p0, p1, p2, p3, p4, p5, p6, p7, p8, p9, p10⟩ := cov_cells HI9.out.boxP
              have hszP : gP < w9.heap.size := (Array.getElem?_eq_some_iff.1 HI9.out.boxP).1
              unfold covA sqv at HHO
              go_wp2_with fail
              refine HHO.out.mono ?_
              rintro e w10 ⟨rfl, hb10⟩
              have HI10 := Lib.hid (HI9.out.below HMB.out hb10)
              have HS10 := Lib.hid ((hb10.block gs hszs).trans HS9.out)
              clear hb10 HI9 HS9 HHO p0 p1 p2 p3 p4 p5 p6 p7 p8 p9 p10 hszP s0 s1 s2 hszs
              obtain ⟨s0, s1, s2⟩ := sq_cells HS10.out
              have hszs : gs < w10.heap.size := (Array.getElem?_eq_some_iff.1 HS10.out).1
              cases hmm : memB s' P
              · have HA10 := Lib.hid (add_cov bl s' O w10 HI10.out.covO HOs.out (by unfold maxLen; omega))
                have HJ := Lib.hid (show wt S' ≤ k ∧ minusRun T P k S' (addS O s') = F ∧ (∀ t ∈ S', t.okB = true) ∧ (addS O s').length ≤ 4097 from
                  ⟨by have h1 := HK.out.2.1; rw [wt_cons] at h1; have := wt_pos s'; omega, by rw [← minus_left hbig HCf.out (memB_false.1 hmm)]; exact HK.out.2.2, fun t ht => HK.out.1 t (List.mem_cons_of_mem _ ht), by have := addS_len O s'; omega⟩)
                clear hmm
                obtain ⟨q0, q1, q2, q3, q4, q5, q6, q7, q8, q9, q10⟩ := cov_cells HI10.out.boxL
                have hszL : gL < w10.heap.size := (Array.getElem?_eq_some_iff.1 HI10.out.boxL).1
                unfold covA sqv at HA10
                go_wp2_with fail
                refine HA10.out.mono ?_
                rintro e w11 ⟨rfl, hc11, hb11⟩
                have HI11 := Lib.hid (HI10.out.add HMB.out hc11 hb11)
                clear hc11 hb11
                go_wp2_with fail
                go_roundg k
                case rel => exact ⟨S', addS O s', HI11.out, HJ.out.2.2.1, HJ.out.1, HJ.out.2.1, HJ.out.2.2.2, by omega⟩
                case measure => omega
              · have hs1 : 1 ≤ s'.l := HT.out s' (memB_iff.1 hmm)
                have HCh := Lib.hid (children_any s' w10 HOs.out hs1)
                have HJ := Lib.hid (show wt ((kidsS s').reverse ++ S') ≤ k ∧ minusRun T P k ((kidsS s').reverse ++ S') O = F ∧ (∀ t ∈ (kidsS s').reverse ++ S', t.okB = true) from
                  ⟨by have h1 := HK.out.2.1; have := wt_kids hs1 S'; omega, by rw [← minus_kids hbig HCf.out (memB_iff.1 hmm)]; exact HK.out.2.2, fun t ht => by
                    rcases List.mem_append.1 ht with h | h
                    · exact kids_ok HOs.out hs1 t (by simpa using h)
                    · exact HK.out.1 t (List.mem_cons_of_mem _ h)⟩)
                clear hmm hs1
                unfold sqv at HCh
                go_wp2_with fail
                refine HCh.out.mono ?_
                rintro e w11 ⟨vk, rfl, hnew, hb11⟩
                have HI11 := Lib.hid (HI10.out.below HMB.out hb11)
                obtain ⟨g', c', rfl, hg1, hg2, hA⟩ := hnew.slice
                have HCa := Lib.hid hA.cells_at
                have HLk := Lib.hid (show (cellsOf (kidsS s')).length = 4 * 3 from by rw [cellsOf_len]; rfl)
                have H1k := Lib.hid (cellsOf_one (kidsS s'))
                have HO11 := Lib.hid (show w11.ownsRow (gL + 1) 31 3 (.slice (some ad0) (n - 1) cap) (n - 1) (cellsOf S'.reverse) from by
                  have h := HI11.out.own
                  rwa [show S'.length = n - 1 by have := HM.out; omega] at h)
                have hbs : gL + 1 ≤ w11.heap.size := (Array.getElem?_eq_some_iff.1 HI11.out.boxL).1
                have HB := Lib.hid (show n - 1 + 4 ≤ maxLen ∧ (n - 1 + 4) * 24 ≤ 140737488355328 ∧ gL + 1 ≤ w11.heap.size from ⟨by unfold maxLen; omega, by omega, hbs⟩)
                rw [show (kidsS s').length = 4 from rfl]
                obtain ⟨i0, hi0, hz0, hz1, hz2⟩ := info_parts infoSq
                have H0 := Lib.hid (show i0.size = 3 ∧ i0.bytes = 24 ∧ Tryz.prog.info? 31 = some i0 ∧ i0.zero = some (.agg #[.int .i64 0, .int .i64 0, .int .i64 0]) from ⟨hz1, hz2, hi0, hz0⟩)
                clear hz0 hz1 hz2 hi0 hnew hg1 hg2 hA hb11 hbs HCh
                go_wp2_with (at_builtin; refine wpList_append_own _ rfl _ _ 22 rfl (gL + 1) 31 i0 (.agg #[.int .i64 0, .int .i64 0, .int .i64 0]) 3 24 Tryz.underlying22 H0.out.2.2.1 H0.out.2.2.2 H0.out.1 H0.out.2.1 rfl (by decide) (.slice (some ad0) (n - 1) cap) (n - 1) (cellsOf S'.reverse) rfl HO11.out ⟨g', 0, none⟩ 4 c' (cellsOf (kidsS s')) rfl HLk.out HCa.out H1k.out HB.out.1 HB.out.2.1 HB.out.2.2 ?_; intro v12 w12 hown12 hg12 hnn12)
                have HI12 := Lib.hid (HI11.out.grown HMB.out (S' := (kidsS s').reverse ++ S') hg12 (fun r e => (HO11.out.lt r e).1) (by
                  rw [List.reverse_append, List.reverse_reverse, cellsOf_app, List.length_append, List.length_reverse, show (kidsS s').length = 4 from rfl, show 4 + S'.length = n - 1 + 4 by have := HM.out; omega]
                  exact hown12))
                clear hown12 hg12 hnn12
                go_wp2_with fail
                go_roundg k
                case rel => exact ⟨(kidsS s').reverse ++ S', O, HI12.out, HJ.out.2.2, HJ.out.1, HJ.out.2.1, hlen, by omega⟩
                case measure => omega
            · have HJ := Lib.hid (show wt S' ≤ k ∧ minusRun T P k S' O = F ∧ (∀ t ∈ S', t.okB = true) from
                ⟨by have h1 := HK.out.2.1; rw [wt_cons] at h1; have := wt_pos s'; omega, by rw [← minus_cov hbig hc]; exact HK.out.2.2, fun t ht => HK.out.1 t (List.mem_cons_of_mem _ ht)⟩)
              clear hc
              go_wp2_with fail
              go_roundg k
              case rel => exact ⟨S', O, HI9.out, HJ.out.2.2, HJ.out.1, HJ.out.2.1, hlen, by omega⟩
              case measure => omega
end Go.Proofs.YtabolonlkocopaaGreatDoor
