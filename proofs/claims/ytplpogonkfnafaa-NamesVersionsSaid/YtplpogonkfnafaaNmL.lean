/- historyOf: the versions of a book. -/
import Derived.Test.YtplpogonkfnafaaNmK
namespace Go.Proofs.Ytplpogonkfnafaa
open Go.RowKit Go.Nm

theorem setCell_grown (W : World) (b : Nat) (v : Value) : W.grownBy (W.setCell ⟨b, 0, none⟩ v) (some b) :=
  ⟨rfl, rfl, rfl, Nat.le_of_eq (by simp), fun k _ hne => heap_setCell_other W ⟨b, 0, none⟩ k v fun h => hne (by rw [h])⟩
theorem cells_two {w : World} {g : Nat} {a b : Value} {t : TypeId} (h : w.heap[g]? = some (.cells #[a, b] t)) : w.cell? ⟨g, 0, none⟩ = some a ∧ w.cell? ⟨g, 1, none⟩ = some b := by
  constructor <;> simp [World.cell?, h]
theorem cells_three {w : World} {g : Nat} {a b c : Value} {t : TypeId} (h : w.heap[g]? = some (.cells #[a, b, c] t)) : w.cell? ⟨g, 0, none⟩ = some a ∧ w.cell? ⟨g, 1, none⟩ = some b ∧ w.cell? ⟨g, 2, none⟩ = some c := by
  refine ⟨?_, ?_, ?_⟩ <;> simp [World.cell?, h]
theorem bcellN {W w1 : World} (hb : Below W.heap.size W w1) : (∀ b o, b < W.heap.size → w1.cell? ⟨b, o, none⟩ = W.cell? ⟨b, o, none⟩) ∧ (∀ b o, b < W.heap.size → w1.frozen? ⟨b, o, none⟩ = W.frozen? ⟨b, o, none⟩) :=
  ⟨fun b o h => hb.cell (p := ⟨b, o, none⟩) h, fun b o h => hb.frozen (p := ⟨b, o, none⟩) h⟩
theorem own_slice {ad : Addr} {n c : Nat} : (Value.slice (some ad) n c).ownBlock = some ad.block := rfl
theorem InSl.keepOwn {w w' : World} {B : Nat} {v : Value} {L : List Int} (h : InSl w B v L) (hk : ∀ p : Addr, v.ownBlock = some p.block → w'.cell? p = w.cell? p) : InSl w' B v L := by
  obtain ⟨A, c, rfl, h1, h2, h3⟩ := h
  refine ⟨A, c, rfl, h1, h2, fun i x hx => ?_⟩
  obtain ⟨ad, rfl, hb, hc⟩ := h3 i x hx
  exact ⟨ad, rfl, hb, (hk _ (by rw [own_slice, add_block])).trans hc⟩
theorem InSl.ownLt {w : World} {B : Nat} {v : Value} {L : List Int} (h : InSl w B v L) (hn : L ≠ []) {g : Nat} (e : v.ownBlock = some g) : g < B := by
  obtain ⟨A, c, rfl, h1, h2, h3⟩ := h
  cases L with
  | nil => exact absurd rfl hn
  | cons x L =>
    obtain ⟨ad, rfl, hb, _⟩ := h3 0 x rfl
    rw [own_slice] at e
    injection e with e
    omega
theorem frozen_cells {w : World} {g : Nat} {cs : Array Value} {t : TypeId} (h : w.heap[g]? = some (.cells cs t)) (o : Nat) : w.frozen? ⟨g, o, none⟩ = false := by
  simp [World.frozen?, h]
/-- while the versions are made -/
structure HInv (w : World) (v1 v2 : Value) (LL : List (List Int)) (vals : List Value) (vs : Value) (wr : World) : Prop where
  bel : Below w.heap.size w wr
  box : wr.heap[w.heap.size]? = some (.cells #[v1, v2] 25)
  res : wr.heap[w.heap.size + 1]? = some (.cells #[.slice none 0 0, .slice none 0 0] 67)
  his : wr.heap[w.heap.size + 2]? = some (.cells #[vs, v2] 67)
  own : wr.ownsRow (w.heap.size + 3) 75 1 vs LL.length vals
  ele : VsA wr wr.heap.size vals LL
  off : ∀ u ∈ vals, ∀ g, u.ownBlock = some g → vs.ownBlock ≠ some g ∧ (g < w.heap.size ∨ w.heap.size + 3 ≤ g) ∧ g < wr.heap.size
section
variable {w : World} {v1 v2 : Value} {LL : List (List Int)} {vals : List Value} {vs : Value} {wr X : World}
theorem HInv.step (h : HInv w v1 v2 LL vals vs wr) (hb : Below wr.heap.size wr X) : HInv w v1 v2 LL vals vs X := by
  have hl : ∀ {g : Nat} {o : Obj}, wr.heap[g]? = some o → X.heap[g]? = some o := fun {g o} e => (hb.block g (Array.getElem?_eq_some_iff.1 e).1).trans e
  exact ⟨h.bel.trans (hb.mono h.bel.size), hl h.box, hl h.res, hl h.his, own_step h.own hb, (h.ele.below hb).mono hb.size, fun u hu g e => ⟨(h.off u hu g e).1, (h.off u hu g e).2.1, Nat.lt_of_lt_of_le (h.off u hu g e).2.2 hb.size⟩⟩
theorem HInv.start (w : World) (v1 v2 : Value) : HInv w v1 v2 [] [] (.slice none 0 0) (((w.alloc (.cells #[v1, v2] 25)).alloc (.cells #[.slice none 0 0, .slice none 0 0] 67)).alloc (.cells #[.slice none 0 0, v2] 67)) := by
  refine ⟨by (repeat (first | exact Below.refl _ _ | refine Below.drew ?_ | refine below_drewN ?_ _ | refine Below.alloc ?_ (by simp; try omega) _ | refine Below.setCell ?_ (by simp; try omega) _)), ?_, ?_, ?_, World.ownsRow_nil _ _ _ _, ⟨rfl, fun i v L h => by simp at h⟩, fun u hu => by simp at hu⟩
  · rw [Below.heap_alloc _ _ _ (by simp; omega), Below.heap_alloc _ _ _ (by simp)]; exact World.alloc_heap_new _ _
  · rw [Below.heap_alloc _ _ _ (by simp)]
    have := World.alloc_heap_new (w.alloc (.cells #[v1, v2] 25)) (.cells #[.slice none 0 0, .slice none 0 0] 67)
    simpa using this
  · have := World.alloc_heap_new ((w.alloc (.cells #[v1, v2] 25)).alloc (.cells #[.slice none 0 0, .slice none 0 0] 67)) (.cells #[.slice none 0 0, v2] 67)
    simpa [Nat.add_assoc] using this
theorem HInv.push {vs' r : Value} {R : List Int} (h : HInv w v1 v2 LL vals vs wr) (hg : wr.grownBy X vs.ownBlock) (ho : X.ownsRow (w.heap.size + 3) 75 1 vs' (LL.length + 1) (vals ++ [r]))
    (hob : vs'.ownBlock = vs.ownBlock ∨ vs'.ownBlock = some wr.heap.size) (hr : InSl wr wr.heap.size r R) (hro : ∀ g, r.ownBlock = some g → vs.ownBlock ≠ some g ∧ (g < w.heap.size ∨ w.heap.size + 3 ≤ g) ∧ g < wr.heap.size) :
    HInv w v1 v2 (LL ++ [R]) (vals ++ [r]) vs' (X.setCell ⟨w.heap.size + 2, 0, none⟩ vs') := by
  have hlow : ∀ g, g < w.heap.size + 3 → vs.ownBlock ≠ some g := fun g hg2 e => by have := (h.own.lt g e).1; omega
  have hsz : ∀ {g : Nat} {o : Obj}, wr.heap[g]? = some o → g < wr.heap.size := fun e => (Array.getElem?_eq_some_iff.1 e).1
  have hst := setCell_grown X (w.heap.size + 2) vs'
  have hX : ∀ g, g < wr.heap.size → vs.ownBlock ≠ some g → X.heap[g]? = wr.heap[g]? := fun g h1 h2 => hg.block g h1 fun e => h2 e.symm
  have hY : ∀ g, g ≠ w.heap.size + 2 → (X.setCell ⟨w.heap.size + 2, 0, none⟩ vs').heap[g]? = X.heap[g]? := fun g hne => heap_setCell_other X _ g vs' hne
  have hoff2 : vs'.ownBlock ≠ some (w.heap.size + 2) := by
    rcases hob with e | e
    · rw [e]; exact hlow _ (by omega)
    · rw [e]; intro e2; injection e2 with e2; have := hsz h.his; omega
  have hkeep : ∀ (u : Value), (∀ g, u.ownBlock = some g → vs.ownBlock ≠ some g ∧ (g < w.heap.size ∨ w.heap.size + 3 ≤ g) ∧ g < wr.heap.size) → ∀ p : Addr, u.ownBlock = some p.block → (X.setCell ⟨w.heap.size + 2, 0, none⟩ vs').cell? p = wr.cell? p := fun u hu p hp => by
    obtain ⟨a1, a2, a3⟩ := hu _ hp
    exact World.cell?_of_block ((hY _ (by omega)).trans (hX _ a3 a1))
  have hsize : wr.heap.size ≤ (X.setCell ⟨w.heap.size + 2, 0, none⟩ vs').heap.size := by simpa using hg.size
  refine ⟨?_, ?_, ?_, ?_, ?_, ?_, ?_⟩
  · refine (h.bel.grown hg h.bel.size (fun r e => ?_)).setCell (by simp) _
    have := (h.own.lt r e).1; omega
  · rw [hY _ (by omega), hX _ (hsz h.box) (hlow _ (by omega))]; exact h.box
  · rw [hY _ (by omega), hX _ (hsz h.res) (hlow _ (by omega))]; exact h.res
  · rw [heap_setCell_same X (w.heap.size + 2) 0 _ _ vs' ((hX _ (hsz h.his) (hlow _ (by omega))).trans h.his)]; rfl
  · rw [List.length_append, List.length_singleton]; exact ho.kept hst (.inr hoff2)
  · refine ⟨by simp [h.ele.1], fun i v L h1 h2 => ?_⟩
    by_cases hi : i < vals.length
    · rw [List.getElem?_append_left hi] at h1
      rw [List.getElem?_append_left (by rw [← h.ele.1]; exact hi)] at h2
      exact ((h.ele.2 i v L h1 h2).keepOwn (hkeep v (h.off v (List.mem_of_getElem? h1)))).mono hsize
    · rw [List.getElem?_append_right (by omega)] at h1
      rw [List.getElem?_append_right (by rw [← h.ele.1]; omega)] at h2
      have e1 : i - vals.length = 0 := by have := (List.getElem?_eq_some_iff.1 h1).1; simp at this; omega
      rw [e1] at h1
      rw [← h.ele.1, e1] at h2
      simp at h1 h2
      subst h1; subst h2
      exact (hr.keepOwn (hkeep r hro)).mono hsize
  · intro u hu g e
    have key : vs.ownBlock ≠ some g ∧ (g < w.heap.size ∨ w.heap.size + 3 ≤ g) ∧ g < wr.heap.size := by
      rcases List.mem_append.1 hu with hu | hu
      · exact h.off u hu g e
      · simp at hu; subst hu; exact hro g e
    refine ⟨?_, key.2.1, Nat.lt_of_lt_of_le key.2.2 hsize⟩
    rcases hob with e2 | e2
    · rw [e2]; exact key.1
    · rw [e2]; intro e3; injection e3 with e3; omega
theorem HInv.vers (h : HInv w v1 v2 LL vals vs wr) : VsSl wr wr.heap.size vs LL := by
  rcases h.own.2 with ⟨e, h0⟩ | ⟨g, cap, cur, e, hb, hg, h1, h2, h3, h4⟩
  · have hl := List.length_eq_zero_iff.1 h0
    subst hl
    have hv : vals = [] := List.length_eq_zero_iff.1 (by rw [h.ele.1]; rfl)
    subst hv
    exact ⟨none, 0, [], by rw [e]; rfl, h.ele, fun i u hu => by simp at hu⟩
  · refine ⟨_, _, vals, e, h.ele, fun i u hu => ⟨_, rfl, (Array.getElem?_eq_some_iff.1 hg).1, ?_⟩⟩
    exact h.own.cells (g := g) (by rw [e]; rfl) i u hu
end
theorem infoV : ∃ i, Try.prog.info? 75 = some i ∧ i.zero = some (.slice none 0 0) ∧ i.size = 1 ∧ i.bytes = 24 := by
  have h : (Try.prog.info? 75).map (fun i => (i.zero, i.size, i.bytes)) = some (some (.slice none 0 0), 1, 24) := by kernel_rfl
  cases h2 : Try.prog.info? 75 with
  | none => rw [h2] at h; cases h
  | some i =>
    rw [h2] at h
    simp only [Option.map_some, Option.some.injEq, Prod.mk.injEq] at h
    exact ⟨i, rfl, h.1, h.2.1, h.2.2⟩
theorem own_form {w : World} {base : Nat} {t : TypeId} {z : Nat} {v : Value} {n : Nat} {xs : List Value} (h : w.ownsRow base t z v n xs) (hn : 0 < n) : ∃ g cap, v = .slice (some ⟨g, 0, none⟩) n cap := by
  rcases h.2 with ⟨_, h0⟩ | ⟨g, cap, cur, ev, _⟩
  · omega
  · exact ⟨g, cap, ev⟩
theorem rep_ne {l fr to : List Int} (h1 : l ≠ []) (h2 : to ≠ []) : rep l fr to ≠ [] := by
  unfold rep
  split
  · exact h1
  · intro e
    have := congrArg List.length e
    rw [mg_len, List.length_nil] at this
    have h3 := List.length_pos_iff.2 h2
    omega
theorem HInv.hisG {w : World} {v1 v2 : Value} {LL : List (List Int)} {vals : List Value} {vs : Value} {wr X : World} (h : HInv w v1 v2 LL vals vs wr) (hg : wr.grownBy X vs.ownBlock) : X.heap[w.heap.size + 2]? = some (.cells #[vs, v2] 67) :=
  (hg.block _ (Array.getElem?_eq_some_iff.1 h.his).1 fun e => by have := (h.own.lt _ e.symm).1; omega).trans h.his
theorem HInv.form {w : World} {v1 v2 : Value} {LL : List (List Int)} {vals : List Value} {vs : Value} {wr : World} {n : Nat} (h : HInv w v1 v2 LL vals vs wr) (hn : LL.length = n) (h0 : 0 < n) :
    ∃ g cap, vs = .slice (some ⟨g, 0, none⟩) n cap ∧ w.heap.size + 3 ≤ g ∧ g < wr.heap.size ∧ ∀ (i : Nat) (u : Value), vals[i]? = some u → wr.cell? ⟨g, i, none⟩ = some u := by
  rcases h.own.2 with ⟨ev, h0⟩ | ⟨g, cap, cur, ev, hg0, hg, h1, h2, h3, h4⟩
  · omega
  · refine ⟨g, cap, by rw [ev, hn], hg0, (Array.getElem?_eq_some_iff.1 hg).1, fun i u hu => ?_⟩
    have := h.own.cells (g := g) (by rw [ev]; rfl) i u hu
    unfold Addr.add at this
    split at this
    · rename_i h0; rw [h0]; exact this
    · simpa using this
theorem ChSl.at_ {w : World} {B n c : Nat} {A : Option Addr} {L : List Ch} (h : ChSl w B (.slice A n c) L) {i : Nat} (hi : i < n) : ∃ x ad vf vt, L[i]? = some x ∧ A = some ad ∧ ad.block < B ∧ w.cell? (ad.add (i * 3)) = some (.int .i64 x.yr) ∧
    w.cell? ⟨(ad.add (i * 3)).block, (ad.add (i * 3)).off + 1, none⟩ = some vf ∧ w.cell? ⟨(ad.add (i * 3)).block, (ad.add (i * 3)).off + 2, none⟩ = some vt ∧ InSl w B vf x.fr ∧ InSl w B vt x.to := by
  obtain ⟨A', c', e, h1⟩ := h
  injection e with e1 e2 e3
  subst e1; subst e2
  obtain ⟨ad, vf, vt, h2⟩ := h1 i L[i] (List.getElem?_eq_getElem hi)
  exact ⟨L[i], ad, vf, vt, List.getElem?_eq_getElem hi, h2⟩
theorem HInv.last {w : World} {v1 v2 : Value} {LL : List (List Int)} {a : List Int} {vals : List Value} {vs : Value} {wr : World} {n : Nat} (h : HInv w v1 v2 (LL ++ [a]) vals vs wr) (hn : LL.length = n) :
    ∃ u, vals[n]? = some u ∧ InSl wr wr.heap.size u a := by
  have hl : n < vals.length := by rw [h.ele.1, List.length_append, hn]; simp
  refine ⟨vals[n], List.getElem?_eq_getElem hl, h.ele.2 n _ a (List.getElem?_eq_getElem hl) ?_⟩
  rw [List.getElem?_append_right (by omega), hn, Nat.sub_self]; rfl
theorem versF_bad {L : List Ch} {k : Nat} {x : Ch} {a : List Int} {y : Int} (hx : L[k]? = some x) (h : ¬ okCh a y x) : versF a y (L.drop k) = [a] := by
  obtain ⟨hk, rfl⟩ := List.getElem?_eq_some_iff.1 hx
  rw [List.drop_eq_getElem_cons hk]
  unfold versF
  rw [if_neg h]
theorem versF_good {L : List Ch} {k : Nat} {x : Ch} {a : List Int} {y : Int} (hx : L[k]? = some x) (h : okCh a y x) : versF a y (L.drop k) = a :: versF (rep a x.fr x.to) x.yr (L.drop (k + 1)) := by
  obtain ⟨hk, rfl⟩ := List.getElem?_eq_some_iff.1 hx
  rw [List.drop_eq_getElem_cons hk]
  conv => lhs; unfold versF
  rw [if_pos h]
/-- the history is handed on -/
theorem HInv.fin {w : World} {v1 v2 : Value} {LL : List (List Int)} {vals : List Value} {vs : Value} {X : World} {b : Bk} (h : HInv w v1 v2 LL vals vs X) (h2 : ChSl w w.heap.size v2 b.chs) (e : Go.Nm.vers b = LL) :
    HsV ((X.setCell ⟨w.heap.size + 1, 0, none⟩ vs).setCell ⟨w.heap.size + 1, 1, none⟩ v2) (.agg #[vs, v2]) b v2 ∧ Below w.heap.size w ((X.setCell ⟨w.heap.size + 1, 0, none⟩ vs).setCell ⟨w.heap.size + 1, 1, none⟩ v2) := by
  have hb : Below w.heap.size w ((X.setCell ⟨w.heap.size + 1, 0, none⟩ vs).setCell ⟨w.heap.size + 1, 1, none⟩ v2) := (h.bel.setCell (by simp) _).setCell (by simp) _
  refine ⟨⟨vs, rfl, ?_, h2.step hb⟩, hb⟩
  rw [e]
  have hcell : ∀ p : Addr, p.block ≠ w.heap.size + 1 → ((X.setCell ⟨w.heap.size + 1, 0, none⟩ vs).setCell ⟨w.heap.size + 1, 1, none⟩ v2).cell? p = X.cell? p := fun p hp => by
    rw [World.cell?_setCell_other _ _ _ _ (fun e => by subst e; exact hp rfl), World.cell?_setCell_other _ _ _ _ (fun e => by subst e; exact hp rfl)]
  have hs : ((X.setCell ⟨w.heap.size + 1, 0, none⟩ vs).setCell ⟨w.heap.size + 1, 1, none⟩ v2).heap.size = X.heap.size := by simp
  rw [hs]
  have hele : VsA ((X.setCell ⟨w.heap.size + 1, 0, none⟩ vs).setCell ⟨w.heap.size + 1, 1, none⟩ v2) X.heap.size vals LL := ⟨h.ele.1, fun i v L h1 h2 => (h.ele.2 i v L h1 h2).keepOwn fun p hp => hcell p (by have := (h.off v (List.mem_of_getElem? h1) _ hp).2.1; omega)⟩
  rcases h.own.2 with ⟨ev, h0⟩ | ⟨g, cap, cur, ev, hg0, hg, h1, h2, h3, h4⟩
  · have hl := List.length_eq_zero_iff.1 h0
    subst hl
    have hv : vals = [] := List.length_eq_zero_iff.1 (by rw [h.ele.1]; rfl)
    subst hv
    subst ev
    exact ⟨none, 0, [], rfl, hele, fun i u hu => by simp at hu⟩
  · refine ⟨_, _, vals, ev, hele, fun i u hu => ⟨_, rfl, (Array.getElem?_eq_some_iff.1 hg).1, ?_⟩⟩
    rw [hcell _ (by rw [add_block]; show g ≠ w.heap.size + 1; omega)]
    exact h.own.cells (g := g) (by rw [ev]; rfl) i u hu
set_option maxRecDepth 100000 in
set_option maxHeartbeats 8000000 in
theorem historyOf_any (v vc : Value) (b : Bk) (w : World) (hv : BkV w v b vc) (hs : Sm b) :
    Calls Try.prog 55 #[v] w fun e w' => (∃ u, e = .returned u ∧ HsV w' u b vc) ∧ Below w.heap.size w w' := by
  obtain ⟨v1, rfl, h1, h2⟩ := hv
  have H1 := Lib.hid h1
  have H2 := Lib.hid h2
  have HS := Lib.hid hs
  obtain ⟨A1, c1, rfl, _⟩ := h1.form
  obtain ⟨A2, c2, rfl⟩ := h2.form
  have HV := Lib.hid (fun w' hb => isVersion_any _ b.first w' (h1.step hb) (by have := hs.1; omega))
  have HI0 := Lib.hid (HInv.start w (.slice A1 b.first.length c1) (.slice A2 b.chs.length c2))
  clear h1 h2 hs
  by_cases hver : Ver b.first
  · rw [decide_eq_true hver] at HV
    have HVr := Lib.hid (show vers b = [] ++ versF b.first 0 (b.chs.drop 0) ∧ Inc b.first ∧ b.first.length ≤ 400 ∧ b.first ≠ [] from ⟨by unfold vers; rw [if_pos hver]; simp, hver.2.2.1, hver.2.1, fun e => by have := hver.1; rw [e] at this; simp at this⟩)
    clear hver
    generalize hmm : b.chs.length = m at *
    have HM := Lib.hid hmm
    clear hmm
    go_enter Try.func55, Try.ntmps55
    go_wp2_with fail
    go_step3
    go_wp2_with fail
    refine (HV.out _ HI0.out.bel).mono ?_
    rintro e w1 ⟨rfl, hb⟩
    have HI1 := Lib.hid (HI0.out.step hb)
    obtain ⟨b0, b1⟩ := cells_two HI1.out.box
    obtain ⟨h0, h1⟩ := cells_two (show w1.heap[w.heap.size + 1 + 1]? = _ from HI1.out.his)
    have f0 := frozen_cells (show w1.heap[w.heap.size + 1 + 1]? = _ from HI1.out.his) 0
    have hz1 : w.heap.size + 1 + 1 < w1.heap.size := (Array.getElem?_eq_some_iff.1 HI1.out.his).1
    have hz0 : w.heap.size < w1.heap.size := by omega
    have HI2 := Lib.hid (show HInv w (.slice A1 b.first.length c1) (.slice A2 m c2) [b.first] [.slice A1 b.first.length c1] (.slice (some ⟨w1.heap.size, 0, none⟩) 1 1) ((w1.setCell ⟨w.heap.size + 1 + 1, 0, none⟩ (.slice (some ⟨w1.heap.size, 0, none⟩) 1 1)).alloc (.cells #[.slice A1 b.first.length c1] 75)) from by
      rw [← World.setCell_alloc_past _ _ _ _ hz1]
      have hlit := World.ownsRow_lit (base := w.heap.size + 3) (e := 75) (size := 1) w1 #[.slice A1 b.first.length c1] 1 hz1 (by unfold maxLen; omega) rfl
      refine HI1.out.push (vs' := .slice (some ⟨w1.heap.size, 0, none⟩) 1 1) (r := .slice A1 b.first.length c1) (R := b.first) (grown_of_below (below_new _) _) hlit (.inr rfl) ((H1.out.step HI1.out.bel)) fun g e => ?_
      have := H1.out.ownLt HVr.out.2.2.2 e
      exact ⟨by simp [Value.ownBlock], .inl this, by omega⟩)
    clear hb HI0 HV
    go_wp2_with fail
    go_step3
    go_wp2_with fail
    clear b0 b1 h0 h1 f0
    go_loopw [4, 27] (fun yr ix wr => ∃ (k : Nat) (LL : List (List Int)) (a : List Int) (vals : List Value) (vs : Value) (y : Int), ix = .int .i64 (k : Int) ∧ yr = .int .i64 y ∧ k ≤ m ∧ LL.length = k ∧ vers b = LL ++ versF a y (b.chs.drop k) ∧ Inc a ∧ a.length ≤ 400 ∧ a ≠ [] ∧ HInv w (.slice A1 b.first.length c1) (.slice A2 m c2) (LL ++ [a]) vals vs wr) (fun _ ix _ => m - (intOf ix).toNat)
    case atStart => exact ⟨0, [], b.first, _, _, 0, rfl, rfl, by omega, rfl, HVr.out.1, HVr.out.2.1, HVr.out.2.2.1, HVr.out.2.2.2, HI2.out⟩
    case round =>
      obtain ⟨k, LL, a, vals, vs, y, rfl, rfl, hkm, hLL, hve, hia, hla, hane, hI⟩ := hrel
      have HNe := Lib.hid hane
      clear hane
      have HI := Lib.hid hI
      have HVe := Lib.hid (And.intro hve (And.intro hia (And.intro hla hLL)))
      clear hI hve hia hla hLL HI1 HI2
      obtain ⟨kk, hkk⟩ : ∃ kk, kk = k + 1 := ⟨_, rfl⟩
      obtain ⟨gv, capv, rfl, hgv, hgw, hcells⟩ := HI.out.form (n := kk) (by rw [List.length_append, HVe.out.2.2.2, hkk]; rfl) (by omega)
      have hk2 : k < kk := by omega
      have HKK := Lib.hid hkk
      clear hkk
      by_cases hlt : k < m
      · obtain ⟨x, ad, vf, vt, hx, rfl, hbd, d0, d1, d2, hf, ht⟩ := (H2.out.step HI.out.bel).at_ hlt
        obtain ⟨ua, hua, hina⟩ := HI.out.last (n := k) HVe.out.2.2.2
        have hcu := hcells k ua hua
        obtain ⟨Au, cu, rfl, _⟩ := hina.form
        obtain ⟨Af, cf, rfl, _⟩ := hf.form
        obtain ⟨At, ct, rfl, _⟩ := ht.form
        have HX := Lib.hid (And.intro hina (And.intro hf ht))
        have HUa := Lib.hid hua
        have HSx := Lib.hid (HS.out.2.2 x (List.mem_of_getElem? hx))
        have HBad := Lib.hid (show ¬ okCh a y x → vers b = LL ++ [a] from fun h => by rw [HVe.out.1, versF_bad hx h])
        have HGood := Lib.hid (show okCh a y x → vers b = (LL ++ [a]) ++ versF (rep a x.fr x.to) x.yr (b.chs.drop (k + 1)) from fun h => by rw [HVe.out.1, versF_good hx h]; simp)
        obtain ⟨h0, h1⟩ := cells_two (show wr.heap[w.heap.size + 1 + 1]? = _ from HI.out.his)
        have hz1 : w.heap.size + 1 + 1 < wr.heap.size := (Array.getElem?_eq_some_iff.1 HI.out.his).1
        have HB8 := Lib.hid (below_new (w := wr) (.cells #[.int .i64 x.yr, .slice Af x.fr.length cf, .slice At x.to.length ct] 52))
        have HN8 := Lib.hid (World.alloc_heap_new wr (.cells #[.int .i64 x.yr, .slice Af x.fr.length cf, .slice At x.to.length ct] 52))
        clear hina hf ht hua hx hcells
        go_wp2_with fail
        obtain ⟨W8, hW8⟩ : ∃ W8, wr.alloc (.cells #[.int .i64 x.yr, .slice Af x.fr.length cf, .slice At x.to.length ct] 52) = W8 := ⟨_, rfl⟩
        rw [hW8] at HB8 HN8 ⊢
        clear hW8
        have g0 := (HB8.out.cell (p := ⟨w.heap.size + 1 + 1, 0, none⟩) hz1).trans h0
        have g1 := (HB8.out.cell (p := ⟨gv, k, none⟩) hgw).trans hcu
        obtain ⟨x0, x1, x2⟩ := cells_three HN8.out
        have ss := fun z => (⟨⟨Wb.cell g0 z, Wb.cell g1 z⟩, ⟨Wb.cell x0 z, Wb.cell x1 z, Wb.cell x2 z⟩⟩ : (_ ∧ _) ∧ (_ ∧ _ ∧ _))
        clear h0 h1 d0 d1 d2 hcu hbd
        refine wp_region_wb (by kernel_rfl) (by kernel_rfl) ?_; (repeat ((with_reducible refine wpQuiet_step ?_); intro K hK; go_simp; (try (refine ite_neg_of (by simp [undef]) ?_)); first | (with_reducible refine hK _ ?_; clear hK K) | (apply Exists.intro; (with_reducible refine ⟨fun _ => ?_, hK _ ?_⟩); (fail); clear hK K))); (with_reducible refine wpQuiet_nil ?_); rintro w1 ⟨⟨_, hb1⟩, rfl⟩; (try dsimp only)
        have HB9 := Lib.hid (HB8.out.trans (hb1.mono HB8.out.size))
        have HI9 := Lib.hid (HI.out.step HB9.out)
        have HX9 := Lib.hid ((hb1.block _ (Array.getElem?_eq_some_iff.1 HN8.out).1).trans HN8.out)
        obtain ⟨y0, y1, y2⟩ := cells_three HX9.out
        have hwl : wr.heap.size < w1.heap.size := (Array.getElem?_eq_some_iff.1 HX9.out).1
        clear hb1 ss g0 g1 x0 x1 x2 HN8 HB8
        by_cases q1 : x.yr < y
        · have HEq := Lib.hid (HBad.out fun h => by have := h.1; omega)
          obtain ⟨r0, r1⟩ := cells_two HI9.out.res
          obtain ⟨h0, h1⟩ := cells_two (show _[w.heap.size + 1 + 1]? = _ from HI9.out.his)
          have f0 := frozen_cells HI9.out.res 0
          have f1 := frozen_cells HI9.out.res 1
          have HFin := Lib.hid (HI9.out.fin H2.out HEq.out)
          go_wp2_with fail
          (try rw [Exit.noGoto_ret])
          exact bodyPost_ret (v := .agg #[.slice (some ⟨gv, 0, none⟩) kk capv, .slice (some ad) m c2]) (by simp [results, Try.results55, go_sem, r0, r1]) rfl ⟨⟨_, rfl, HFin.out.1⟩, HFin.out.2⟩
        · by_cases q2 : 273 < x.yr
          · have HEq := Lib.hid (HBad.out fun h => by have := h.2.1; omega)
            obtain ⟨r0, r1⟩ := cells_two HI9.out.res
            obtain ⟨h0, h1⟩ := cells_two (show _[w.heap.size + 1 + 1]? = _ from HI9.out.his)
            have f0 := frozen_cells HI9.out.res 0
            have f1 := frozen_cells HI9.out.res 1
            have HFin := Lib.hid (HI9.out.fin H2.out HEq.out)
            go_wp2_with fail
            (try rw [Exit.noGoto_ret])
            exact bodyPost_ret (v := .agg #[.slice (some ⟨gv, 0, none⟩) kk capv, .slice (some ad) m c2]) (by simp [results, Try.results55, go_sem, r0, r1]) rfl ⟨⟨_, rfl, HFin.out.1⟩, HFin.out.2⟩
          · have HV1 := Lib.hid (isVersion_any _ x.fr w1 (HX.out.2.1.step HB9.out) (by have := HSx.out.1; omega))
            by_cases c3 : Ver x.fr
            · rw [decide_eq_true c3] at HV1
              go_wp2_with fail
              refine HV1.out.mono ?_
              rintro e w2 ⟨rfl, hb⟩
              have HB10 := Lib.hid (HB9.out.trans (hb.mono HB9.out.size))
              have HI10 := Lib.hid (HI9.out.step hb)
              have HX10 := Lib.hid ((hb.block _ hwl).trans HX9.out)
              obtain ⟨z0, z1, z2⟩ := cells_three HX10.out
              have hwl2 : wr.heap.size < w2.heap.size := (Array.getElem?_eq_some_iff.1 HX10.out).1
              clear hb HB9 HI9 HX9 HV1 y0 y1 y2 hwl
              have HV2 := Lib.hid (isVersion_any _ x.to w2 (HX.out.2.2.step HB10.out) (by have := HSx.out.2; omega))
              by_cases c4 : Ver x.to
              · rw [decide_eq_true c4] at HV2
                go_wp2_with fail
                refine HV2.out.mono ?_
                rintro e w3 ⟨rfl, hb⟩
                have HB11 := Lib.hid (HB10.out.trans (hb.mono HB10.out.size))
                have HI11 := Lib.hid (HI10.out.step hb)
                have HX11 := Lib.hid ((hb.block _ hwl2).trans HX10.out)
                have hwl3 : wr.heap.size < w3.heap.size := (Array.getElem?_eq_some_iff.1 HX11.out).1
                clear hb HB10 HI10 HX10 HV2 z0 z1 z2 hwl2
                have HV3 := Lib.hid (hasAll_any _ _ a x.fr w3 (HX.out.1.step HB11.out) (HX.out.2.1.step HB11.out) (by have := HVe.out.2.2.1; omega) (by have := HSx.out.1; omega))
                by_cases c5 : wo x.fr a = []
                · rw [decide_eq_true c5] at HV3
                  go_wp2_with fail
                  refine HV3.out.mono ?_
                  rintro e w4 ⟨rfl, hb⟩
                  have HB12 := Lib.hid (HB11.out.trans (hb.mono HB11.out.size))
                  have HI12 := Lib.hid (HI11.out.step hb)
                  have HX12 := Lib.hid ((hb.block _ hwl3).trans HX11.out)
                  obtain ⟨z0, z1, z2⟩ := cells_three HX12.out
                  have hwl4 : wr.heap.size < w4.heap.size := (Array.getElem?_eq_some_iff.1 HX12.out).1
                  clear hb HB11 HI11 HX11 HV3 hwl3
                  have HWo := Lib.hid (without_any _ _ x.to x.fr w4 (HX.out.2.2.step HB12.out) (HX.out.2.1.step HB12.out) (by have := HSx.out.2; omega) (by have := HSx.out.1; omega))
                  have HOk := Lib.hid (show (∀ n ∈ wo x.to x.fr, n ∉ a) → (rep a x.fr x.to).length ≤ 400 → okCh a y x from fun h1 h2 => ⟨by omega, by omega, c3, c4, c5, h1, h2⟩)
                  have HRi := Lib.hid (show (∀ n ∈ wo x.to x.fr, n ∉ a) → Inc (rep a x.fr x.to) from fun h1 => rep_inc HVe.out.2.1 c3.2.2.1 c4.2.2.1 fun z hz hza => Classical.byContradiction fun hn => h1 z ((mem_wo c4.2.2.1 c3.2.2.1 z).2 ⟨hz, hn⟩) hza)
                  have HRne := Lib.hid (rep_ne (l := a) (to := x.to) (fr := x.fr) HNe.out (fun e => by have := c4.1; rw [e] at this; simp at this))
                  have HNo := Lib.hid (show (∃ n ∈ wo x.to x.fr, n ∈ a) → vers b = LL ++ [a] from fun ⟨n, h1, h2⟩ => HBad.out fun h => h.2.2.2.2.2.1 n h1 h2)
                  have HNl := Lib.hid (show ¬ (rep a x.fr x.to).length ≤ 400 → vers b = LL ++ [a] from fun h1 => HBad.out fun h => h1 h.2.2.2.2.2.2)
                  clear q1 q2 c3 c4 c5 HBad
                  have hnwl : (wo x.to x.fr).length ≤ 1000 := Nat.le_trans (wo_len _ _) HSx.out.2
                  generalize hWo : wo x.to x.fr = Wl at *
                  clear hWo
                  go_wp2_with fail
                  refine HWo.out.mono ?_
                  rintro e w5 ⟨r5, rfl, hO5⟩
                  have HO5 := Lib.hid hO5
                  obtain ⟨A5, c5, rfl, _⟩ := hO5.sl.form
                  clear hO5 z0 z1 z2
                  have HB13 := Lib.hid (HB12.out.trans (HO5.out.bel.mono HB12.out.size))
                  have HI13 := Lib.hid (HI12.out.step HO5.out.bel)
                  have HX13 := Lib.hid ((HO5.out.bel.block _ hwl4).trans HX12.out)
                  have hwl5 : wr.heap.size < w5.heap.size := (Array.getElem?_eq_some_iff.1 HX13.out).1
                  obtain ⟨z0, z1, z2⟩ := cells_three HX13.out
                  clear HB12 HI12 HX12 hwl4 HWo
                  generalize hnw : Wl.length = nw at *
                  have HNw := Lib.hid hnw
                  clear hnw
                  have HA5 := Lib.hid (show InSl w5 w5.heap.size (.slice A5 nw c5) Wl from HO5.out.sl)
                  have HHas := Lib.hid (fun z => has_any _ a z w5 (HX.out.1.step HB13.out) HVe.out.2.1 (by have := HVe.out.2.2.1; omega))
                  go_wp2_with fail
                  go_loop [70] (fun ix => ∃ j : Nat, ix = .int .i64 (j : Int) ∧ j ≤ nw ∧ ∀ i z, i < j → Wl[i]? = some z → z ∉ a) (fun ix => nw - (intOf ix).toNat)
                  case atStart => exact ⟨0, rfl, by omega, fun i z h => absurd h (by omega)⟩
                  case round =>
                    obtain ⟨j, rfl, hjn, hno⟩ := hrel
                    have HJ := Lib.hid hno
                    clear hno
                    by_cases hjlt : j < nw
                    · obtain ⟨A5', c5', e5, h51, h52, h53⟩ := HA5.out
                      obtain ⟨z, ad5, hz, ea, hb5, hcz⟩ := h53.at_ HNw.out hjlt
                      injection e5 with e51 e52 e53
                      subst e51
                      subst ea
                      have HZ1 := Lib.hid hz
                      have HHz := Lib.hid (HHas.out z)
                      clear hz h51 h52 h53 e52 e53 hb5
                      by_cases hza : z ∈ a
                      · rw [decide_eq_true hza] at HHz
                        have HEq := Lib.hid (HNo.out ⟨z, List.mem_of_getElem? HZ1.out, hza⟩)
                        clear hza
                        go_wp2_with fail
                        refine HHz.out.mono ?_
                        rintro e w6 ⟨rfl, rfl⟩
                        obtain ⟨r0, r1⟩ := cells_two HI13.out.res
                        obtain ⟨h0, h1⟩ := cells_two (show _[w.heap.size + 1 + 1]? = _ from HI13.out.his)
                        have f0 := frozen_cells HI13.out.res 0
                        have f1 := frozen_cells HI13.out.res 1
                        have HFin := Lib.hid (HI13.out.fin H2.out HEq.out)
                        go_wp2_with fail
                        (try rw [Exit.noGoto_ret])
                        exact bodyPost_ret (v := .agg #[.slice (some ⟨gv, 0, none⟩) kk capv, .slice (some ad) m c2]) (by simp [results, Try.results55, go_sem, r0, r1]) rfl ⟨⟨_, rfl, HFin.out.1⟩, HFin.out.2⟩
                      · rw [decide_eq_false hza] at HHz
                        have HJ2 := Lib.hid (show ∀ i z', i < j + 1 → Wl[i]? = some z' → z' ∉ a from fun i z' hi hz' => by
                          by_cases e : i = j
                          · subst e; rw [HZ1.out] at hz'; injection hz' with hz'; subst hz'; exact hza
                          · exact HJ.out i z' (by omega) hz')
                        clear hza
                        go_wp2_with fail
                        refine HHz.out.mono ?_
                        rintro e w6 ⟨rfl, rfl⟩
                        go_wp2_with fail
                        go_round
                        case rel => exact ⟨j + 1, by go_num, by omega, HJ2.out⟩
                        case measure => simp [intOf]; omega
                    · have HAll := Lib.hid (show ∀ n ∈ Wl, n ∉ a from fun n hn => by
                        obtain ⟨i, hi, rfl⟩ := List.getElem_of_mem hn
                        exact HJ.out i _ (by have := HNw.out; omega) (List.getElem?_eq_getElem hi))
                      have HRp := Lib.hid (replace_any _ _ _ a x.fr x.to w5 (HX.out.1.step HB13.out) (HX.out.2.1.step HB13.out) (HX.out.2.2.step HB13.out) (by have := HVe.out.2.2.1; omega) (by have := HSx.out.1; omega) (by have := HSx.out.2; omega))
                      have HOk2 := Lib.hid (HOk.out HAll.out)
                      have HRi2 := Lib.hid (HRi.out HAll.out)
                      clear HOk HRi HNo HJ HHas HA5 HO5
                      generalize hRR : rep a x.fr x.to = R at *
                      have HRR := Lib.hid hRR
                      clear hRR
                      go_wp2_with fail
                      refine HRp.out.mono ?_
                      rintro e w6 ⟨⟨r6, rfl, hr6, hro⟩, hb⟩
                      have HI14 := Lib.hid (HI13.out.step hb)
                      have HX14 := Lib.hid ((hb.block _ hwl5).trans HX13.out)
                      have HB14 := Lib.hid (HB13.out.trans (hb.mono HB13.out.size))
                      obtain ⟨A6, c6, rfl, _⟩ := hr6.form
                      have HR6 := Lib.hid (And.intro hr6 hro)
                      clear hr6 hro hb z0 z1 z2
                      by_cases hrl : (R.length : Int) ≤ 400
                      · have hrl' : R.length ≤ 400 := by omega
                        have HG := Lib.hid (HGood.out (HOk2.out hrl'))
                        obtain ⟨j0, hj0, hz0, hz1', hz2⟩ := infoV
                        have HZ := Lib.hid (show j0.size = 1 ∧ j0.bytes = 24 ∧ Try.prog.info? 75 = some j0 ∧ j0.zero = some (.slice none 0 0) from ⟨hz1', hz2, hj0, hz0⟩)
                        clear hz0 hz1' hz2 hj0
                        obtain ⟨h0, h1⟩ := cells_two (show w6.heap[w.heap.size + 1 + 1]? = _ from HI14.out.his)
                        have HI15 := Lib.hid (HI14.out.step (below_new (.cells #[.slice A6 R.length c6] 75)))
                        have HX15 := Lib.hid (((below_new (w := w6) (.cells #[.slice A6 R.length c6] 75)).block _ (Array.getElem?_eq_some_iff.1 HX14.out).1).trans HX14.out)
                        have HNw2 := Lib.hid (cell_one_new w6 (.slice A6 R.length c6) 75)
                        have HO15 := Lib.hid (show (w6.alloc (.cells #[.slice A6 R.length c6] 75)).ownsRow (w.heap.size + 3) 75 1 (.slice (some ⟨gv, 0, none⟩) kk capv) kk vals from by
                          have h := HI15.out.own
                          rw [show (LL ++ [a]).length = kk from by rw [List.length_append, HVe.out.2.2.2, HKK.out]; rfl] at h
                          exact h)
                        have HBs := Lib.hid (show w.heap.size + 3 ≤ (w6.alloc (.cells #[.slice A6 R.length c6] 75)).heap.size from by have := (Array.getElem?_eq_some_iff.1 HI15.out.his).1; omega)
                        have hkb : kk ≤ 2000 := by have := HKK.out; have := HM.out; have := HS.out.2.1; omega
                        have HR15 := Lib.hid (show InSl (w6.alloc (.cells #[.slice A6 R.length c6] 75)) (w6.alloc (.cells #[.slice A6 R.length c6] 75)).heap.size (.slice A6 R.length c6) R from HR6.out.1.step (below_new _))
                        have HRo := Lib.hid (show ∀ g, (Value.slice A6 R.length c6).ownBlock = some g → (Value.slice (some ⟨gv, 0, none⟩) kk capv).ownBlock ≠ some g ∧ (g < w.heap.size ∨ w.heap.size + 3 ≤ g) ∧ g < (w6.alloc (.cells #[.slice A6 R.length c6] 75)).heap.size from fun g hg => by
                          rcases HR6.out.2 with e | e
                          · have h := HI15.out.off _ (List.mem_of_getElem? HUa.out) g (by rw [← e]; exact hg)
                            exact h
                          · have h1 := e g hg
                            have h2 := HI13.out.bel.size
                            have h3 := (Array.getElem?_eq_some_iff.1 HI13.out.his).1
                            refine ⟨fun e2 => ?_, .inr (by omega), ?_⟩
                            · rw [own_slice] at e2; injection e2 with e2
                              have h4 := HB13.out.size
                              simp only at e2; omega
                            · exact HR15.out.ownLt (fun e0 => by have := HRne.out; rw [e0] at this; exact this rfl) hg)
                        have hgb : w.heap.size + 1 + 1 < wr.heap.size := hz1
                        go_wp2_with (at_builtin; refine wpList_append_own_at _ rfl _ _ 65 rfl (w.heap.size + 3) 75 j0 (.slice none 0 0) 1 24 Try.underlying65 HZ.out.2.2.1 HZ.out.2.2.2 HZ.out.1 HZ.out.2.1 rfl (by decide) (.slice (some ⟨gv, 0, none⟩) kk capv) kk vals rfl HO15.out ⟨w6.heap.size, 0, none⟩ 1 1 [.slice A6 R.length c6] rfl rfl HNw2.out (by intro u hu; simp at hu; subst hu; rfl) (by unfold maxLen; omega) (by omega) HBs.out ?_; intro v7 w7 hown7 hg7 hnn7 hob7; obtain ⟨g7, cap7, rfl⟩ := own_form hown7 (by omega); have fz := frozen_cells (show w7.heap[w.heap.size + 1 + 1]? = _ from HI15.out.hisG hg7) 0; obtain ⟨k0, k1⟩ := cells_two (show w7.heap[w.heap.size + 1 + 1]? = _ from HI15.out.hisG hg7); obtain ⟨x0, x1, x2⟩ := cells_three ((hg7.block wr.heap.size (Array.getElem?_eq_some_iff.1 HX15.out).1 (by intro e; rw [own_slice] at e; injection e with e; simp only at e; omega)).trans HX15.out))
                        have HP7 := Lib.hid (HI15.out.push (vs' := .slice (some ⟨g7, 0, none⟩) (kk + 1) cap7) (r := .slice A6 R.length c6) (R := R) hg7 (by rw [show (LL ++ [a]).length = kk from by rw [List.length_append, HVe.out.2.2.2, HKK.out]; rfl]; exact hown7) hob7 HR15.out HRo.out)
                        clear hown7 hg7 hnn7 hob7
                        go_roundw
                        case rel => exact ⟨k + 1, LL ++ [a], R, _, _, x.yr, by go_num, rfl, by omega, by rw [List.length_append, HVe.out.2.2.2]; rfl, HG.out, HRi2.out, hrl', HRne.out, HP7.out⟩
                        case measure => simp [intOf]; omega
                      · have HEq := Lib.hid (HNl.out (by omega))
                        generalize R.length = rl at *
                        obtain ⟨r0, r1⟩ := cells_two HI14.out.res
                        obtain ⟨h0, h1⟩ := cells_two (show _[w.heap.size + 1 + 1]? = _ from HI14.out.his)
                        have f0 := frozen_cells HI14.out.res 0
                        have f1 := frozen_cells HI14.out.res 1
                        have HFin := Lib.hid (HI14.out.fin H2.out HEq.out)
                        go_wp2_with fail
                        (try rw [Exit.noGoto_ret])
                        exact bodyPost_ret (v := .agg #[.slice (some ⟨gv, 0, none⟩) kk capv, .slice (some ad) m c2]) (by simp [results, Try.results55, go_sem, r0, r1]) rfl ⟨⟨_, rfl, HFin.out.1⟩, HFin.out.2⟩
                · have HEq := Lib.hid (HBad.out fun h => c5 h.2.2.2.2.1)
                  rw [decide_eq_false c5] at HV3
                  go_wp2_with fail
                  refine HV3.out.mono ?_
                  rintro e w4 ⟨rfl, hb⟩
                  have HI12 := Lib.hid (HI11.out.step hb)
                  clear hb
                  obtain ⟨r0, r1⟩ := cells_two HI12.out.res
                  obtain ⟨h0, h1⟩ := cells_two (show _[w.heap.size + 1 + 1]? = _ from HI12.out.his)
                  have f0 := frozen_cells HI12.out.res 0
                  have f1 := frozen_cells HI12.out.res 1
                  have HFin := Lib.hid (HI12.out.fin H2.out HEq.out)
                  go_wp2_with fail
                  (try rw [Exit.noGoto_ret])
                  exact bodyPost_ret (v := .agg #[.slice (some ⟨gv, 0, none⟩) kk capv, .slice (some ad) m c2]) (by simp [results, Try.results55, go_sem, r0, r1]) rfl ⟨⟨_, rfl, HFin.out.1⟩, HFin.out.2⟩
              · have HEq := Lib.hid (HBad.out fun h => c4 h.2.2.2.1)
                rw [decide_eq_false c4] at HV2
                go_wp2_with fail
                refine HV2.out.mono ?_
                rintro e w3 ⟨rfl, hb⟩
                have HI11 := Lib.hid (HI10.out.step hb)
                clear hb
                obtain ⟨r0, r1⟩ := cells_two HI11.out.res
                obtain ⟨h0, h1⟩ := cells_two (show _[w.heap.size + 1 + 1]? = _ from HI11.out.his)
                have f0 := frozen_cells HI11.out.res 0
                have f1 := frozen_cells HI11.out.res 1
                have HFin := Lib.hid (HI11.out.fin H2.out HEq.out)
                go_wp2_with fail
                (try rw [Exit.noGoto_ret])
                exact bodyPost_ret (v := .agg #[.slice (some ⟨gv, 0, none⟩) kk capv, .slice (some ad) m c2]) (by simp [results, Try.results55, go_sem, r0, r1]) rfl ⟨⟨_, rfl, HFin.out.1⟩, HFin.out.2⟩
            · have HEq := Lib.hid (HBad.out fun h => c3 h.2.2.1)
              rw [decide_eq_false c3] at HV1
              go_wp2_with fail
              refine HV1.out.mono ?_
              rintro e w2 ⟨rfl, hb⟩
              have HI10 := Lib.hid (HI9.out.step hb)
              clear hb
              obtain ⟨r0, r1⟩ := cells_two HI10.out.res
              obtain ⟨h0, h1⟩ := cells_two (show _[w.heap.size + 1 + 1]? = _ from HI10.out.his)
              have f0 := frozen_cells HI10.out.res 0
              have f1 := frozen_cells HI10.out.res 1
              have HFin := Lib.hid (HI10.out.fin H2.out HEq.out)
              go_wp2_with fail
              (try rw [Exit.noGoto_ret])
              exact bodyPost_ret (v := .agg #[.slice (some ⟨gv, 0, none⟩) kk capv, .slice (some ad) m c2]) (by simp [results, Try.results55, go_sem, r0, r1]) rfl ⟨⟨_, rfl, HFin.out.1⟩, HFin.out.2⟩
      · have HEq := Lib.hid (show vers b = LL ++ [a] from by
          rw [HVe.out.1, List.drop_eq_nil_of_le (by rw [HM.out]; omega)]; rfl)
        obtain ⟨r0, r1⟩ := cells_two HI.out.res
        obtain ⟨h0, h1⟩ := cells_two (show wr.heap[w.heap.size + 1 + 1]? = _ from HI.out.his)
        have f0 := frozen_cells HI.out.res 0
        have f1 := frozen_cells HI.out.res 1
        have HFin := Lib.hid (HI.out.fin H2.out HEq.out)
        clear HM
        go_wp2_with fail
        rw [Exit.noGoto_ret]
        exact bodyPost_ret (v := .agg #[.slice (some ⟨gv, 0, none⟩) kk capv, .slice A2 m c2]) (by simp [results, Try.results55, go_sem, r0, r1]) rfl ⟨⟨_, rfl, HFin.out.1⟩, HFin.out.2⟩
  · rw [decide_eq_false hver] at HV
    have HE := Lib.hid (show vers b = [] from by unfold vers; rw [if_neg hver])
    clear hver
    go_enter Try.func55, Try.ntmps55
    go_wp2_with fail
    go_step3
    go_wp2_with fail
    refine (HV.out _ HI0.out.bel).mono ?_
    rintro e w1 ⟨rfl, hb⟩
    have HI1 := Lib.hid (HI0.out.step hb)
    obtain ⟨r0, r1⟩ := cells_two HI1.out.res
    obtain ⟨h0, h1⟩ := cells_two (show w1.heap[w.heap.size + 1 + 1]? = _ from HI1.out.his)
    clear hb HI0
    have f0 := frozen_cells HI1.out.res 0
    have f1 := frozen_cells HI1.out.res 1
    have HFin := Lib.hid (HI1.out.fin H2.out HE.out)
    go_wp2_with fail
    rw [Exit.noGoto_ret]
    exact bodyPost_ret (v := .agg #[.slice none 0 0, .slice A2 b.chs.length c2]) (by simp [results, Try.results55, go_sem, r0, r1]) rfl ⟨⟨_, rfl, HFin.out.1⟩, HFin.out.2⟩
end Go.Proofs.Ytplpogonkfnafaa
