
/- historyOf, open, openAt. -/
import Derived.Test.YtplpogonkfnafaaGreatNmBa
import Derived.Orders
import Derived.Laws.World
namespace Go.Proofs.YtplpogonkfnafaaGreat
open Go.RowKit Go.Nm

theorem setCell_grown (W : World) (b : Nat) (v : Value) : W.grownBy (W.setCell ⟨b, 0, none⟩ v) (some b) :=
  ⟨rfl, rfl, rfl, Nat.le_of_eq (by simp), fun k _ hne => heap_setCell_other W ⟨b, 0, none⟩ k v fun h => hne (by rw [h])⟩
theorem cells_two {w : World} {g : Nat} {a b : Value} {t : TypeId} (h : w.heap[g]? = some (.cells #[a, b] t)) : w.cell? ⟨g, 0, none⟩ = some a ∧ w.cell? ⟨g, 1, none⟩ = some b := by
  constructor <;> simp [World.cell?, h]
theorem cells_three {w : World} {g : Nat} {a b c : Value} {t : TypeId} (h : w.heap[g]? = some (.cells #[a, b, c] t)) : w.cell? ⟨g, 0, none⟩ = some a ∧ w.cell? ⟨g, 1, none⟩ = some b ∧ w.cell? ⟨g, 2, none⟩ = some c := by
  refine ⟨?_, ?_, ?_⟩ <;> simp [World.cell?, h]
theorem bcellN {W w1 : World} (hb : Below W.heap.size W w1) : (∀ b o, b < W.heap.size → w1.cell? ⟨b, o, none⟩ = W.cell? ⟨b, o, none⟩) ∧ (∀ b o, b < W.heap.size → w1.frozen? ⟨b, o, none⟩ = W.frozen? ⟨b, o, none⟩) :=
  ⟨fun b o h => hb.cell (p := ⟨b, o, none⟩) h, fun b o h => hb.frozen (p := ⟨b, o, none⟩) h⟩
theorem own_slice {ad : Addr} {n c : Nat} : (Value.slice (some ad) n c).ownBlock = some ad.block := rfl
theorem InSl.keepOwn {w w' : World} {B : Nat} {v : Value} {L : List Int} (h : InSl w B v L) (hk : ∀ p : Addr, v.ownBlock = some p.block → w'.cell? p = w.cell? p) : InSl w' B v L := by
  obtain ⟨A, c, rfl, h1, h2, h3⟩ := h
  refine ⟨A, c, rfl, h1, h2, fun i x hx => ?_⟩
  obtain ⟨ad, rfl, hb, hc⟩ := h3 i x hx
  exact ⟨ad, rfl, hb, (hk _ (by rw [own_slice, add_block])).trans hc⟩
theorem InSl.ownLt {w : World} {B : Nat} {v : Value} {L : List Int} (h : InSl w B v L) (hn : L ≠ []) {g : Nat} (e : v.ownBlock = some g) : g < B := by
  obtain ⟨A, c, rfl, h1, h2, h3⟩ := h
  cases L with
  | nil => exact absurd rfl hn
  | cons x L =>
    obtain ⟨ad, rfl, hb, _⟩ := h3 0 x rfl
    rw [own_slice] at e
    injection e with e
    omega
theorem frozen_cells {w : World} {g : Nat} {cs : Array Value} {t : TypeId} (h : w.heap[g]? = some (.cells cs t)) (o : Nat) : w.frozen? ⟨g, o, none⟩ = false := by
  simp [World.frozen?, h]
/-- while the versions are made -/
structure HInv (w : World) (v1 v2 : Value) (LL : List (List Int)) (vals : List Value) (vs : Value) (wr : World) : Prop where
  bel : Below w.heap.size w wr
  box : wr.heap[w.heap.size]? = some (.cells #[v1, v2] 25)
  res : wr.heap[w.heap.size + 1]? = some (.cells #[.slice none 0 0, .slice none 0 0] 55)
  his : wr.heap[w.heap.size + 2]? = some (.cells #[vs, v2] 55)
  own : wr.ownsRow (w.heap.size + 3) 58 1 vs LL.length vals
  ele : VsA wr wr.heap.size vals LL
  off : ∀ u ∈ vals, ∀ g, u.ownBlock = some g → vs.ownBlock ≠ some g ∧ (g < w.heap.size ∨ w.heap.size + 3 ≤ g) ∧ g < wr.heap.size
section
variable {w : World} {v1 v2 : Value} {LL : List (List Int)} {vals : List Value} {vs : Value} {wr X : World}
theorem HInv.step (h : HInv w v1 v2 LL vals vs wr) (hb : Below wr.heap.size wr X) : HInv w v1 v2 LL vals vs X := by
  have hl : ∀ {g : Nat} {o : Obj}, wr.heap[g]? = some o → X.heap[g]? = some o := fun {g o} e => (hb.block g (Array.getElem?_eq_some_iff.1 e).1).trans e
  exact ⟨h.bel.trans (hb.mono h.bel.size), hl h.box, hl h.res, hl h.his, own_step h.own hb, (h.ele.below hb).mono hb.size, fun u hu g e => ⟨(h.off u hu g e).1, (h.off u hu g e).2.1, Nat.lt_of_lt_of_le (h.off u hu g e).2.2 hb.size⟩⟩
theorem HInv.start (w : World) (v1 v2 : Value) : HInv w v1 v2 [] [] (.slice none 0 0) (((w.alloc (.cells #[v1, v2] 25)).alloc (.cells #[.slice none 0 0, .slice none 0 0] 55)).alloc (.cells #[.slice none 0 0, v2] 55)) := by
  refine ⟨by (repeat (first | exact Below.refl _ _ | refine Below.drew ?_ | refine below_drewN ?_ _ | refine Below.alloc ?_ (by simp; try omega) _ | refine Below.setCell ?_ (by simp; try omega) _)), ?_, ?_, ?_, World.ownsRow_nil _ _ _ _, ⟨rfl, fun i v L h => by simp at h⟩, fun u hu => by simp at hu⟩
  · rw [Below.heap_alloc _ _ _ (by simp; omega), Below.heap_alloc _ _ _ (by simp)]; exact World.alloc_heap_new _ _
  · rw [Below.heap_alloc _ _ _ (by simp)]
    have := World.alloc_heap_new (w.alloc (.cells #[v1, v2] 25)) (.cells #[.slice none 0 0, .slice none 0 0] 55)
    simpa using this
  · have := World.alloc_heap_new ((w.alloc (.cells #[v1, v2] 25)).alloc (.cells #[.slice none 0 0, .slice none 0 0] 55)) (.cells #[.slice none 0 0, v2] 55)
    simpa [Nat.add_assoc] using this
theorem HInv.push {vs' r : Value} {R : List Int} (h : HInv w v1 v2 LL vals vs wr) (hg : wr.grownBy X vs.ownBlock) (ho : X.ownsRow (w.heap.size + 3) 58 1 vs' (LL.length + 1) (vals ++ [r]))
    (hob : vs'.ownBlock = vs.ownBlock ∨ vs'.ownBlock = some wr.heap.size) (hr : InSl wr wr.heap.size r R) (hro : ∀ g, r.ownBlock = some g → vs.ownBlock ≠ some g ∧ (g < w.heap.size ∨ w.heap.size + 3 ≤ g) ∧ g < wr.heap.size) :
    HInv w v1 v2 (LL ++ [R]) (vals ++ [r]) vs' (X.setCell ⟨w.heap.size + 2, 0, none⟩ vs') := by
  have hlow : ∀ g, g < w.heap.size + 3 → vs.ownBlock ≠ some g := fun g hg2 e => by have := (h.own.lt g e).1; omega
  have hsz : ∀ {g : Nat} {o : Obj}, wr.heap[g]? = some o → g < wr.heap.size := fun e => (Array.getElem?_eq_some_iff.1 e).1
  have hst := setCell_grown X (w.heap.size + 2) vs'
  have hX : ∀ g, g < wr.heap.size → vs.ownBlock ≠ some g → X.heap[g]? = wr.heap[g]? := fun g h1 h2 => hg.block g h1 fun e => h2 e.symm
  have hY : ∀ g, g ≠ w.heap.size + 2 → (X.setCell ⟨w.heap.size + 2, 0, none⟩ vs').heap[g]? = X.heap[g]? := fun g hne => heap_setCell_other X _ g vs' hne
  have hoff2 : vs'.ownBlock ≠ some (w.heap.size + 2) := by
    rcases hob with e | e
    · rw [e]; exact hlow _ (by omega)
    · rw [e]; intro e2; injection e2 with e2; have := hsz h.his; omega
  have hkeep : ∀ (u : Value), (∀ g, u.ownBlock = some g → vs.ownBlock ≠ some g ∧ (g < w.heap.size ∨ w.heap.size + 3 ≤ g) ∧ g < wr.heap.size) → ∀ p : Addr, u.ownBlock = some p.block → (X.setCell ⟨w.heap.size + 2, 0, none⟩ vs').cell? p = wr.cell? p := fun u hu p hp => by
    obtain ⟨a1, a2, a3⟩ := hu _ hp
    exact World.cell?_of_block ((hY _ (by omega)).trans (hX _ a3 a1))
  have hsize : wr.heap.size ≤ (X.setCell ⟨w.heap.size + 2, 0, none⟩ vs').heap.size := by simpa using hg.size
  refine ⟨?_, ?_, ?_, ?_, ?_, ?_, ?_⟩
  · refine (h.bel.grown hg h.bel.size (fun r e => ?_)).setCell (by simp) _
    have := (h.own.lt r e).1; omega
  · rw [hY _ (by omega), hX _ (hsz h.box) (hlow _ (by omega))]; exact h.box
  · rw [hY _ (by omega), hX _ (hsz h.res) (hlow _ (by omega))]; exact h.res
  · rw [heap_setCell_same X (w.heap.size + 2) 0 _ _ vs' ((hX _ (hsz h.his) (hlow _ (by omega))).trans h.his)]; rfl
  · rw [List.length_append, List.length_singleton]; exact ho.kept hst (.inr hoff2)
  · refine ⟨by simp [h.ele.1], fun i v L h1 h2 => ?_⟩
    by_cases hi : i < vals.length
    · rw [List.getElem?_append_left hi] at h1
      rw [List.getElem?_append_left (by rw [← h.ele.1]; exact hi)] at h2
      exact ((h.ele.2 i v L h1 h2).keepOwn (hkeep v (h.off v (List.mem_of_getElem? h1)))).mono hsize
    · rw [List.getElem?_append_right (by omega)] at h1
      rw [List.getElem?_append_right (by rw [← h.ele.1]; omega)] at h2
      have e1 : i - vals.length = 0 := by have := (List.getElem?_eq_some_iff.1 h1).1; simp at this; omega
      rw [e1] at h1
      rw [← h.ele.1, e1] at h2
      simp at h1 h2
      subst h1; subst h2
      exact (hr.keepOwn (hkeep r hro)).mono hsize
  · intro u hu g e
    have key : vs.ownBlock ≠ some g ∧ (g < w.heap.size ∨ w.heap.size + 3 ≤ g) ∧ g < wr.heap.size := by
      rcases List.mem_append.1 hu with hu | hu
      · exact h.off u hu g e
      · simp at hu; subst hu; exact hro g e
    refine ⟨?_, key.2.1, Nat.lt_of_lt_of_le key.2.2 hsize⟩
    rcases hob with e2 | e2
    · rw [e2]; exact key.1
    · rw [e2]; intro e3; injection e3 with e3; omega
theorem HInv.vers (h : HInv w v1 v2 LL vals vs wr) : VsSl wr wr.heap.size vs LL := by
  rcases h.own.2 with ⟨e, h0⟩ | ⟨g, cap, cur, e, hb, hg, h1, h2, h3, h4⟩
  · have hl := List.length_eq_zero_iff.1 h0
    subst hl
    have hv : vals = [] := List.length_eq_zero_iff.1 (by rw [h.ele.1]; rfl)
    subst hv
    exact ⟨none, 0, [], by rw [e]; rfl, h.ele, fun i u hu => by simp at hu⟩
  · refine ⟨_, _, vals, e, h.ele, fun i u hu => ⟨_, rfl, (Array.getElem?_eq_some_iff.1 hg).1, ?_⟩⟩
    exact h.own.cells (g := g) (by rw [e]; rfl) i u hu
end
theorem infoV : ∃ i, Tryz.prog.info? 58 = some i ∧ i.zero = some (.slice none 0 0) ∧ i.size = 1 ∧ i.bytes = 24 := by
  have h : (Tryz.prog.info? 58).map (fun i => (i.zero, i.size, i.bytes)) = some (some (.slice none 0 0), 1, 24) := by kernel_rfl
  cases h2 : Tryz.prog.info? 58 with
  | none => rw [h2] at h; cases h
  | some i =>
    rw [h2] at h
    simp only [Option.map_some, Option.some.injEq, Prod.mk.injEq] at h
    exact ⟨i, rfl, h.1, h.2.1, h.2.2⟩
theorem own_form {w : World} {base : Nat} {t : TypeId} {z : Nat} {v : Value} {n : Nat} {xs : List Value} (h : w.ownsRow base t z v n xs) (hn : 0 < n) : ∃ g cap, v = .slice (some ⟨g, 0, none⟩) n cap := by
  rcases h.2 with ⟨_, h0⟩ | ⟨g, cap, cur, ev, _⟩
  · omega
  · exact ⟨g, cap, ev⟩
theorem rep_ne {l fr to : List Int} (h1 : l ≠ []) (h2 : to ≠ []) : rep l fr to ≠ [] := by
  unfold rep
  split
  · exact h1
  · intro e
    have := congrArg List.length e
    rw [mg_len, List.length_nil] at this
    have h3 := List.length_pos_iff.2 h2
    omega
theorem HInv.hisG {w : World} {v1 v2 : Value} {LL : List (List Int)} {vals : List Value} {vs : Value} {wr X : World} (h : HInv w v1 v2 LL vals vs wr) (hg : wr.grownBy X vs.ownBlock) : X.heap[w.heap.size + 2]? = some (.cells #[vs, v2] 55) :=
  (hg.block _ (Array.getElem?_eq_some_iff.1 h.his).1 fun e => by have := (h.own.lt _ e.symm).1; omega).trans h.his
theorem HInv.form {w : World} {v1 v2 : Value} {LL : List (List Int)} {vals : List Value} {vs : Value} {wr : World} {n : Nat} (h : HInv w v1 v2 LL vals vs wr) (hn : LL.length = n) (h0 : 0 < n) :
    ∃ g cap, vs = .slice (some ⟨g, 0, none⟩) n cap ∧ w.heap.size + 3 ≤ g ∧ g < wr.heap.size ∧ ∀ (i : Nat) (u : Value), vals[i]? = some u → wr.cell? ⟨g, i, none⟩ = some u := by
  rcases h.own.2 with ⟨ev, h0⟩ | ⟨g, cap, cur, ev, hg0, hg, h1, h2, h3, h4⟩
  · omega
  · refine ⟨g, cap, by rw [ev, hn], hg0, (Array.getElem?_eq_some_iff.1 hg).1, fun i u hu => ?_⟩
    have := h.own.cells (g := g) (by rw [ev]; rfl) i u hu
    unfold Addr.add at this
    split at this
    · rename_i h0; rw [h0]; exact this
    · simpa using this
theorem ChSl.at_ {w : World} {B n c : Nat} {A : Option Addr} {L : List Ch} (h : ChSl w B (.slice A n c) L) {i : Nat} (hi : i < n) : ∃ x ad vf vt, L[i]? = some x ∧ A = some ad ∧ ad.block < B ∧ w.cell? (ad.add (i * 3)) = some (.int .i64 x.yr) ∧
    w.cell? ⟨(ad.add (i * 3)).block, (ad.add (i * 3)).off + 1, none⟩ = some vf ∧ w.cell? ⟨(ad.add (i * 3)).block, (ad.add (i * 3)).off + 2, none⟩ = some vt ∧ InSl w B vf x.fr ∧ InSl w B vt x.to := by
  obtain ⟨A', c', e, h1⟩ := h
  injection e with e1 e2 e3
  subst e1; subst e2
  obtain ⟨ad, vf, vt, h2⟩ := h1 i L[i] (List.getElem?_eq_getElem hi)
  exact ⟨L[i], ad, vf, vt, List.getElem?_eq_getElem hi, h2⟩
theorem HInv.last {w : World} {v1 v2 : Value} {LL : List (List Int)} {a : List Int} {vals : List Value} {vs : Value} {wr : World} {n : Nat} (h : HInv w v1 v2 (LL ++ [a]) vals vs wr) (hn : LL.length = n) :
    ∃ u, vals[n]? = some u ∧ InSl wr wr.heap.size u a := by
  have hl : n < vals.length := by rw [h.ele.1, List.length_append, hn]; simp
  refine ⟨vals[n], List.getElem?_eq_getElem hl, h.ele.2 n _ a (List.getElem?_eq_getElem hl) ?_⟩
  rw [List.getElem?_append_right (by omega), hn, Nat.sub_self]; rfl
theorem versF_bad {L : List Ch} {k : Nat} {x : Ch} {a : List Int} {y : Int} (hx : L[k]? = some x) (h : ¬ okCh a y x) : versF a y (L.drop k) = [a] := by
  obtain ⟨hk, rfl⟩ := List.getElem?_eq_some_iff.1 hx
  rw [List.drop_eq_getElem_cons hk]
  unfold versF
  rw [if_neg h]
theorem versF_good {L : List Ch} {k : Nat} {x : Ch} {a : List Int} {y : Int} (hx : L[k]? = some x) (h : okCh a y x) : versF a y (L.drop k) = a :: versF (rep a x.fr x.to) x.yr (L.drop (k + 1)) := by
  obtain ⟨hk, rfl⟩ := List.getElem?_eq_some_iff.1 hx
  rw [List.drop_eq_getElem_cons hk]
  conv => lhs; unfold versF
  rw [if_pos h]
/-- the history is handed on -/
theorem HInv.fin {w : World} {v1 v2 : Value} {LL : List (List Int)} {vals : List Value} {vs : Value} {X : World} {b : Bk} (h : HInv w v1 v2 LL vals vs X) (h2 : ChSl w w.heap.size v2 b.chs) (e : Go.Nm.vers b = LL) :
    HsV ((X.setCell ⟨w.heap.size + 1, 0, none⟩ vs).setCell ⟨w.heap.size + 1, 1, none⟩ v2) (.agg #[vs, v2]) b v2 ∧ Below w.heap.size w ((X.setCell ⟨w.heap.size + 1, 0, none⟩ vs).setCell ⟨w.heap.size + 1, 1, none⟩ v2) := by
  have hb : Below w.heap.size w ((X.setCell ⟨w.heap.size + 1, 0, none⟩ vs).setCell ⟨w.heap.size + 1, 1, none⟩ v2) := (h.bel.setCell (by simp) _).setCell (by simp) _
  refine ⟨⟨vs, rfl, ?_, h2.step hb⟩, hb⟩
  rw [e]
  have hcell : ∀ p : Addr, p.block ≠ w.heap.size + 1 → ((X.setCell ⟨w.heap.size + 1, 0, none⟩ vs).setCell ⟨w.heap.size + 1, 1, none⟩ v2).cell? p = X.cell? p := fun p hp => by
    rw [World.cell?_setCell_other _ _ _ _ (fun e => by subst e; exact hp rfl), World.cell?_setCell_other _ _ _ _ (fun e => by subst e; exact hp rfl)]
  have hs : ((X.setCell ⟨w.heap.size + 1, 0, none⟩ vs).setCell ⟨w.heap.size + 1, 1, none⟩ v2).heap.size = X.heap.size := by simp
  rw [hs]
  have hele : VsA ((X.setCell ⟨w.heap.size + 1, 0, none⟩ vs).setCell ⟨w.heap.size + 1, 1, none⟩ v2) X.heap.size vals LL := ⟨h.ele.1, fun i v L h1 h2 => (h.ele.2 i v L h1 h2).keepOwn fun p hp => hcell p (by have := (h.off v (List.mem_of_getElem? h1) _ hp).2.1; omega)⟩
  rcases h.own.2 with ⟨ev, h0⟩ | ⟨g, cap, cur, ev, hg0, hg, h1, h2, h3, h4⟩
  · have hl := List.length_eq_zero_iff.1 h0
    subst hl
    have hv : vals = [] := List.length_eq_zero_iff.1 (by rw [h.ele.1]; rfl)
    subst hv
    subst ev
    exact ⟨none, 0, [], rfl, hele, fun i u hu => by simp at hu⟩
  · refine ⟨_, _, vals, ev, hele, fun i u hu => ⟨_, rfl, (Array.getElem?_eq_some_iff.1 hg).1, ?_⟩⟩
    rw [hcell _ (by rw [add_block]; show g ≠ w.heap.size + 1; omega)]
    exact h.own.cells (g := g) (by rw [ev]; rfl) i u hu
set_option maxRecDepth 100000 in
set_option maxHeartbeats 8000000 in
theorem historyOf_any (v vc : Value) (b : Bk) (w : World) (hv : BkV w v b vc) (hs : Sm b) :
    Calls Tryz.prog 45 #[v] w fun e w' => (∃ u, e = .returned u ∧ HsV w' u b vc) ∧ Below w.heap.size w w' := by
  obtain ⟨v1, rfl, h1, h2⟩ := hv
  have H1 := Lib.hid h1
  have H2 := Lib.hid h2
  have HS := Lib.hid hs
  obtain ⟨A1, c1, rfl, _⟩ := h1.form
  obtain ⟨A2, c2, rfl⟩ := h2.form
  have HV := Lib.hid (fun w' hb => isVersion_any _ b.first w' (h1.step hb) (by have := hs.1; omega))
  have HI0 := Lib.hid (HInv.start w (.slice A1 b.first.length c1) (.slice A2 b.chs.length c2))
  clear h1 h2 hs
  by_cases hver : Ver b.first
  · rw [decide_eq_true hver] at HV
    have HVr := Lib.hid (show vers b = [] ++ versF b.first 0 (b.chs.drop 0) ∧ Inc b.first ∧ b.first.length ≤ 400 ∧ b.first ≠ [] from ⟨by unfold vers; rw [if_pos hver]; simp, hver.2.2.1, hver.2.1, fun e => by have := hver.1; rw [e] at this; simp at this⟩)
    clear hver
    generalize hmm : b.chs.length = m at *
    have HM := Lib.hid hmm
    clear hmm
    go_enter Tryz.func45, Tryz.ntmps45
    go_wp2_with fail
    go_step3
    go_wp2_with fail
    refine (HV.out _ HI0.out.bel).mono ?_
    rintro e w1 ⟨rfl, hb⟩
    have HI1 := Lib.hid (HI0.out.step hb)
    obtain ⟨b0, b1⟩ := cells_two HI1.out.box
    obtain ⟨h0, h1⟩ := cells_two (show w1.heap[w.heap.size + 1 + 1]? = _ from HI1.out.his)
    have f0 := frozen_cells (show w1.heap[w.heap.size + 1 + 1]? = _ from HI1.out.his) 0
    have hz1 : w.heap.size + 1 + 1 < w1.heap.size := (Array.getElem?_eq_some_iff.1 HI1.out.his).1
    have hz0 : w.heap.size < w1.heap.size := by omega
    have HI2 := Lib.hid (show HInv w (.slice A1 b.first.length c1) (.slice A2 m c2) [b.first] [.slice A1 b.first.length c1] (.slice (some ⟨w1.heap.size, 0, none⟩) 1 1) ((w1.setCell ⟨w.heap.size + 1 + 1, 0, none⟩ (.slice (some ⟨w1.heap.size, 0, none⟩) 1 1)).alloc (.cells #[.slice A1 b.first.length c1] 58)) from by
      rw [← World.setCell_alloc_past _ _ _ _ hz1]
      have hlit := World.ownsRow_lit (base := w.heap.size + 3) (e := 58) (size := 1) w1 #[.slice A1 b.first.length c1] 1 hz1 (by unfold maxLen; omega) rfl
      refine HI1.out.push (vs' := .slice (some ⟨w1.heap.size, 0, none⟩) 1 1) (r := .slice A1 b.first.length c1) (R := b.first) (grown_of_below (below_new _) _) hlit (.inr rfl) ((H1.out.step HI1.out.bel)) fun g e => ?_
      have := H1.out.ownLt HVr.out.2.2.2 e
      exact ⟨by simp [Value.ownBlock], .inl this, by omega⟩)
    clear hb HI0 HV
    go_wp2_with fail
    go_step3
    go_wp2_with fail
    clear b0 b1 h0 h1 f0
    go_loopw [4, 27] (fun yr ix wr => ∃ (k : Nat) (LL : List (List Int)) (a : List Int) (vals : List Value) (vs : Value) (y : Int), ix = .int .i64 (k : Int) ∧ yr = .int .i64 y ∧ k ≤ m ∧ LL.length = k ∧ vers b = LL ++ versF a y (b.chs.drop k) ∧ Inc a ∧ a.length ≤ 400 ∧ a ≠ [] ∧ HInv w (.slice A1 b.first.length c1) (.slice A2 m c2) (LL ++ [a]) vals vs wr) (fun _ ix _ => m - (intOf ix).toNat)
    case atStart => exact ⟨0, [], b.first, _, _, 0, rfl, rfl, by omega, rfl, HVr.out.1, HVr.out.2.1, HVr.out.2.2.1, HVr.out.2.2.2, HI2.out⟩
    case round =>
      obtain ⟨k, LL, a, vals, vs, y, rfl, rfl, hkm, hLL, hve, hia, hla, hane, hI⟩ := hrel
      have HNe := Lib.hid hane
      clear hane
      have HI := Lib.hid hI
      have HVe := Lib.hid (And.intro hve (And.intro hia (And.intro hla hLL)))
      clear hI hve hia hla hLL HI1 HI2
      obtain ⟨kk, hkk⟩ : ∃ kk, kk = k + 1 := ⟨_, rfl⟩
      obtain ⟨gv, capv, rfl, hgv, hgw, hcells⟩ := HI.out.form (n := kk) (by rw [List.length_append, HVe.out.2.2.2, hkk]; rfl) (by omega)
      have hk2 : k < kk := by omega
      have HKK := Lib.hid hkk
      clear hkk
      by_cases hlt : k < m
      · obtain ⟨x, ad, vf, vt, hx, rfl, hbd, d0, d1, d2, hf, ht⟩ := (H2.out.step HI.out.bel).at_ hlt
        obtain ⟨ua, hua, hina⟩ := HI.out.last (n := k) HVe.out.2.2.2
        have hcu := hcells k ua hua
        obtain ⟨Au, cu, rfl, _⟩ := hina.form
        obtain ⟨Af, cf, rfl, _⟩ := hf.form
        obtain ⟨At, ct, rfl, _⟩ := ht.form
        have HX := Lib.hid (And.intro hina (And.intro hf ht))
        have HUa := Lib.hid hua
        have HSx := Lib.hid (HS.out.2.2 x (List.mem_of_getElem? hx))
        have HBad := Lib.hid (show ¬ okCh a y x → vers b = LL ++ [a] from fun h => by rw [HVe.out.1, versF_bad hx h])
        have HGood := Lib.hid (show okCh a y x → vers b = (LL ++ [a]) ++ versF (rep a x.fr x.to) x.yr (b.chs.drop (k + 1)) from fun h => by rw [HVe.out.1, versF_good hx h]; simp)
        obtain ⟨h0, h1⟩ := cells_two (show wr.heap[w.heap.size + 1 + 1]? = _ from HI.out.his)
        have hz1 : w.heap.size + 1 + 1 < wr.heap.size := (Array.getElem?_eq_some_iff.1 HI.out.his).1
        have HB8 := Lib.hid (below_new (w := wr) (.cells #[.int .i64 x.yr, .slice Af x.fr.length cf, .slice At x.to.length ct] 52))
        have HN8 := Lib.hid (World.alloc_heap_new wr (.cells #[.int .i64 x.yr, .slice Af x.fr.length cf, .slice At x.to.length ct] 52))
        clear hina hf ht hua hx hcells
        go_wp2_with fail
        obtain ⟨W8, hW8⟩ : ∃ W8, wr.alloc (.cells #[.int .i64 x.yr, .slice Af x.fr.length cf, .slice At x.to.length ct] 52) = W8 := ⟨_, rfl⟩
        rw [hW8] at HB8 HN8 ⊢
        clear hW8
        have g0 := (HB8.out.cell (p := ⟨w.heap.size + 1 + 1, 0, none⟩) hz1).trans h0
        have g1 := (HB8.out.cell (p := ⟨gv, k, none⟩) hgw).trans hcu
        obtain ⟨x0, x1, x2⟩ := cells_three HN8.out
        have ss := fun z => (⟨⟨Wb.cell g0 z, Wb.cell g1 z⟩, ⟨Wb.cell x0 z, Wb.cell x1 z, Wb.cell x2 z⟩⟩ : (_ ∧ _) ∧ (_ ∧ _ ∧ _))
        clear h0 h1 d0 d1 d2 hcu hbd
        refine wp_region_wb (by kernel_rfl) (by kernel_rfl) ?_; (repeat ((with_reducible refine wpQuiet_step ?_); intro K hK; go_simp; (try (refine ite_neg_of (by simp [undef]) ?_)); first | (with_reducible refine hK _ ?_; clear hK K) | (apply Exists.intro; (with_reducible refine ⟨fun _ => ?_, hK _ ?_⟩); (fail); clear hK K))); (with_reducible refine wpQuiet_nil ?_); rintro w1 ⟨⟨_, hb1⟩, rfl⟩; (try dsimp only)
        have HB9 := Lib.hid (HB8.out.trans (hb1.mono HB8.out.size))
        have HI9 := Lib.hid (HI.out.step HB9.out)
        have HX9 := Lib.hid ((hb1.block _ (Array.getElem?_eq_some_iff.1 HN8.out).1).trans HN8.out)
        obtain ⟨y0, y1, y2⟩ := cells_three HX9.out
        have hwl : wr.heap.size < w1.heap.size := (Array.getElem?_eq_some_iff.1 HX9.out).1
        clear hb1 ss g0 g1 x0 x1 x2 HN8 HB8
        by_cases q1 : x.yr < y
        · have HEq := Lib.hid (HBad.out fun h => by have := h.1; omega)
          obtain ⟨r0, r1⟩ := cells_two HI9.out.res
          obtain ⟨h0, h1⟩ := cells_two (show _[w.heap.size + 1 + 1]? = _ from HI9.out.his)
          have f0 := frozen_cells HI9.out.res 0
          have f1 := frozen_cells HI9.out.res 1
          have HFin := Lib.hid (HI9.out.fin H2.out HEq.out)
          go_wp2_with fail
          (try rw [Exit.noGoto_ret])
          exact bodyPost_ret (v := .agg #[.slice (some ⟨gv, 0, none⟩) kk capv, .slice (some ad) m c2]) (by simp [results, Tryz.results45, go_sem, r0, r1]) rfl ⟨⟨_, rfl, HFin.out.1⟩, HFin.out.2⟩
        · by_cases q2 : 273 < x.yr
          · have HEq := Lib.hid (HBad.out fun h => by have := h.2.1; omega)
            obtain ⟨r0, r1⟩ := cells_two HI9.out.res
            obtain ⟨h0, h1⟩ := cells_two (show _[w.heap.size + 1 + 1]? = _ from HI9.out.his)
            have f0 := frozen_cells HI9.out.res 0
            have f1 := frozen_cells HI9.out.res 1
            have HFin := Lib.hid (HI9.out.fin H2.out HEq.out)
            go_wp2_with fail
            (try rw [Exit.noGoto_ret])
            exact bodyPost_ret (v := .agg #[.slice (some ⟨gv, 0, none⟩) kk capv, .slice (some ad) m c2]) (by simp [results, Tryz.results45, go_sem, r0, r1]) rfl ⟨⟨_, rfl, HFin.out.1⟩, HFin.out.2⟩
          · have HV1 := Lib.hid (isVersion_any _ x.fr w1 (HX.out.2.1.step HB9.out) (by have := HSx.out.1; omega))
            by_cases c3 : Ver x.fr
            · rw [decide_eq_true c3] at HV1
              go_wp2_with fail
              refine HV1.out.mono ?_
              rintro e w2 ⟨rfl, hb⟩
              have HB10 := Lib.hid (HB9.out.trans (hb.mono HB9.out.size))
              have HI10 := Lib.hid (HI9.out.step hb)
              have HX10 := Lib.hid ((hb.block _ hwl).trans HX9.out)
              obtain ⟨z0, z1, z2⟩ := cells_three HX10.out
              have hwl2 : wr.heap.size < w2.heap.size := (Array.getElem?_eq_some_iff.1 HX10.out).1
              clear hb HB9 HI9 HX9 HV1 y0 y1 y2 hwl
              have HV2 := Lib.hid (isVersion_any _ x.to w2 (HX.out.2.2.step HB10.out) (by have := HSx.out.2; omega))
              by_cases c4 : Ver x.to
              · rw [decide_eq_true c4] at HV2
                go_wp2_with fail
                refine HV2.out.mono ?_
                rintro e w3 ⟨rfl, hb⟩
                have HB11 := Lib.hid (HB10.out.trans (hb.mono HB10.out.size))
                have HI11 := Lib.hid (HI10.out.step hb)
                have HX11 := Lib.hid ((hb.block _ hwl2).trans HX10.out)
                have hwl3 : wr.heap.size < w3.heap.size := (Array.getElem?_eq_some_iff.1 HX11.out).1
                clear hb HB10 HI10 HX10 HV2 z0 z1 z2 hwl2
                have HV3 := Lib.hid (hasAll_any _ _ a x.fr w3 (HX.out.1.step HB11.out) (HX.out.2.1.step HB11.out) (by have := HVe.out.2.2.1; omega) (by have := HSx.out.1; omega))
                by_cases c5 : wo x.fr a = []
                · rw [decide_eq_true c5] at HV3
                  go_wp2_with fail
                  refine HV3.out.mono ?_
                  rintro e w4 ⟨rfl, hb⟩
                  have HB12 := Lib.hid (HB11.out.trans (hb.mono HB11.out.size))
                  have HI12 := Lib.hid (HI11.out.step hb)
                  have HX12 := Lib.hid ((hb.block _ hwl3).trans HX11.out)
                  obtain ⟨z0, z1, z2⟩ := cells_three HX12.out
                  have hwl4 : wr.heap.size < w4.heap.size := (Array.getElem?_eq_some_iff.1 HX12.out).1
                  clear hb HB11 HI11 HX11 HV3 hwl3
                  have HWo := Lib.hid (without_any _ _ x.to x.fr w4 (HX.out.2.2.step HB12.out) (HX.out.2.1.step HB12.out) (by have := HSx.out.2; omega) (by have := HSx.out.1; omega))
                  have HOk := Lib.hid (show (∀ n ∈ wo x.to x.fr, n ∉ a) → (rep a x.fr x.to).length ≤ 400 → okCh a y x from fun h1 h2 => ⟨by omega, by omega, c3, c4, c5, h1, h2⟩)
                  have HRi := Lib.hid (show (∀ n ∈ wo x.to x.fr, n ∉ a) → Inc (rep a x.fr x.to) from fun h1 => rep_inc HVe.out.2.1 c3.2.2.1 c4.2.2.1 fun z hz hza => Classical.byContradiction fun hn => h1 z ((mem_wo c4.2.2.1 c3.2.2.1 z).2 ⟨hz, hn⟩) hza)
                  have HRne := Lib.hid (rep_ne (l := a) (to := x.to) (fr := x.fr) HNe.out (fun e => by have := c4.1; rw [e] at this; simp at this))
                  have HNo := Lib.hid (show (∃ n ∈ wo x.to x.fr, n ∈ a) → vers b = LL ++ [a] from fun ⟨n, h1, h2⟩ => HBad.out fun h => h.2.2.2.2.2.1 n h1 h2)
                  have HNl := Lib.hid (show ¬ (rep a x.fr x.to).length ≤ 400 → vers b = LL ++ [a] from fun h1 => HBad.out fun h => h1 h.2.2.2.2.2.2)
                  clear q1 q2 c3 c4 c5 HBad
                  have hnwl : (wo x.to x.fr).length ≤ 1000 := Nat.le_trans (wo_len _ _) HSx.out.2
                  generalize hWo : wo x.to x.fr = Wl at *
                  clear hWo
                  go_wp2_with fail
                  refine HWo.out.mono ?_
                  rintro e w5 ⟨r5, rfl, hO5⟩
                  have HO5 := Lib.hid hO5
                  obtain ⟨A5, c5, rfl, _⟩ := hO5.sl.form
                  clear hO5 z0 z1 z2
                  have HB13 := Lib.hid (HB12.out.trans (HO5.out.bel.mono HB12.out.size))
                  have HI13 := Lib.hid (HI12.out.step HO5.out.bel)
                  have HX13 := Lib.hid ((HO5.out.bel.block _ hwl4).trans HX12.out)
                  have hwl5 : wr.heap.size < w5.heap.size := (Array.getElem?_eq_some_iff.1 HX13.out).1
                  obtain ⟨z0, z1, z2⟩ := cells_three HX13.out
                  clear HB12 HI12 HX12 hwl4 HWo
                  generalize hnw : Wl.length = nw at *
                  have HNw := Lib.hid hnw
                  clear hnw
                  have HA5 := Lib.hid (show InSl w5 w5.heap.size (.slice A5 nw c5) Wl from HO5.out.sl)
                  have HHas := Lib.hid (fun z => has_any _ a z w5 (HX.out.1.step HB13.out) HVe.out.2.1 (by have := HVe.out.2.2.1; omega))
                  go_wp2_with fail
                  go_loop [70] (fun ix => ∃ j : Nat, ix = .int .i64 (j : Int) ∧ j ≤ nw ∧ ∀ i z, i < j → Wl[i]? = some z → z ∉ a) (fun ix => nw - (intOf ix).toNat)
                  case atStart => exact ⟨0, rfl, by omega, fun i z h => absurd h (by omega)⟩
                  case round =>
                    obtain ⟨j, rfl, hjn, hno⟩ := hrel
                    have HJ := Lib.hid hno
                    clear hno
                    by_cases hjlt : j < nw
                    · obtain ⟨A5', c5', e5, h51, h52, h53⟩ := HA5.out
                      obtain ⟨z, ad5, hz, ea, hb5, hcz⟩ := h53.at_ HNw.out hjlt
                      injection e5 with e51 e52 e53
                      subst e51
                      subst ea
                      have HZ1 := Lib.hid hz
                      have HHz := Lib.hid (HHas.out z)
                      clear hz h51 h52 h53 e52 e53 hb5
                      by_cases hza : z ∈ a
                      · rw [decide_eq_true hza] at HHz
                        have HEq := Lib.hid (HNo.out ⟨z, List.mem_of_getElem? HZ1.out, hza⟩)
                        clear hza
                        go_wp2_with fail
                        refine HHz.out.mono ?_
                        rintro e w6 ⟨rfl, rfl⟩
                        obtain ⟨r0, r1⟩ := cells_two HI13.out.res
                        obtain ⟨h0, h1⟩ := cells_two (show _[w.heap.size + 1 + 1]? = _ from HI13.out.his)
                        have f0 := frozen_cells HI13.out.res 0
                        have f1 := frozen_cells HI13.out.res 1
                        have HFin := Lib.hid (HI13.out.fin H2.out HEq.out)
                        go_wp2_with fail
                        (try rw [Exit.noGoto_ret])
                        exact bodyPost_ret (v := .agg #[.slice (some ⟨gv, 0, none⟩) kk capv, .slice (some ad) m c2]) (by simp [results, Tryz.results45, go_sem, r0, r1]) rfl ⟨⟨_, rfl, HFin.out.1⟩, HFin.out.2⟩
                      · rw [decide_eq_false hza] at HHz
                        have HJ2 := Lib.hid (show ∀ i z', i < j + 1 → Wl[i]? = some z' → z' ∉ a from fun i z' hi hz' => by
                          by_cases e : i = j
                          · subst e; rw [HZ1.out] at hz'; injection hz' with hz'; subst hz'; exact hza
                          · exact HJ.out i z' (by omega) hz')
                        clear hza
                        go_wp2_with fail
                        refine HHz.out.mono ?_
                        rintro e w6 ⟨rfl, rfl⟩
                        go_wp2_with fail
                        go_round
                        case rel => exact ⟨j + 1, by go_num, by omega, HJ2.out⟩
                        case measure => simp [intOf]; omega
                    · have HAll := Lib.hid (show ∀ n ∈ Wl, n ∉ a from fun n hn => by
                        obtain ⟨i, hi, rfl⟩ := List.getElem_of_mem hn
                        exact HJ.out i _ (by have := HNw.out; omega) (List.getElem?_eq_getElem hi))
                      have HRp := Lib.hid (replace_any _ _ _ a x.fr x.to w5 (HX.out.1.step HB13.out) (HX.out.2.1.step HB13.out) (HX.out.2.2.step HB13.out) (by have := HVe.out.2.2.1; omega) (by have := HSx.out.1; omega) (by have := HSx.out.2; omega))
                      have HOk2 := Lib.hid (HOk.out HAll.out)
                      have HRi2 := Lib.hid (HRi.out HAll.out)
                      clear HOk HRi HNo HJ HHas HA5 HO5
                      generalize hRR : rep a x.fr x.to = R at *
                      have HRR := Lib.hid hRR
                      clear hRR
                      go_wp2_with fail
                      refine HRp.out.mono ?_
                      rintro e w6 ⟨⟨r6, rfl, hr6, hro⟩, hb⟩
                      have HI14 := Lib.hid (HI13.out.step hb)
                      have HX14 := Lib.hid ((hb.block _ hwl5).trans HX13.out)
                      have HB14 := Lib.hid (HB13.out.trans (hb.mono HB13.out.size))
                      obtain ⟨A6, c6, rfl, _⟩ := hr6.form
                      have HR6 := Lib.hid (And.intro hr6 hro)
                      clear hr6 hro hb z0 z1 z2
                      by_cases hrl : (R.length : Int) ≤ 400
                      · have hrl' : R.length ≤ 400 := by omega
                        have HG := Lib.hid (HGood.out (HOk2.out hrl'))
                        obtain ⟨j0, hj0, hz0, hz1', hz2⟩ := infoV
                        have HZ := Lib.hid (show j0.size = 1 ∧ j0.bytes = 24 ∧ Tryz.prog.info? 58 = some j0 ∧ j0.zero = some (.slice none 0 0) from ⟨hz1', hz2, hj0, hz0⟩)
                        clear hz0 hz1' hz2 hj0
                        obtain ⟨h0, h1⟩ := cells_two (show w6.heap[w.heap.size + 1 + 1]? = _ from HI14.out.his)
                        have HI15 := Lib.hid (HI14.out.step (below_new (.cells #[.slice A6 R.length c6] 58)))
                        have HX15 := Lib.hid (((below_new (w := w6) (.cells #[.slice A6 R.length c6] 58)).block _ (Array.getElem?_eq_some_iff.1 HX14.out).1).trans HX14.out)
                        have HNw2 := Lib.hid (cell_one_new w6 (.slice A6 R.length c6) 58)
                        have HO15 := Lib.hid (show (w6.alloc (.cells #[.slice A6 R.length c6] 58)).ownsRow (w.heap.size + 3) 58 1 (.slice (some ⟨gv, 0, none⟩) kk capv) kk vals from by
                          have h := HI15.out.own
                          rw [show (LL ++ [a]).length = kk from by rw [List.length_append, HVe.out.2.2.2, HKK.out]; rfl] at h
                          exact h)
                        have HBs := Lib.hid (show w.heap.size + 3 ≤ (w6.alloc (.cells #[.slice A6 R.length c6] 58)).heap.size from by have := (Array.getElem?_eq_some_iff.1 HI15.out.his).1; omega)
                        have hkb : kk ≤ 2000 := by have := HKK.out; have := HM.out; have := HS.out.2.1; omega
                        have HR15 := Lib.hid (show InSl (w6.alloc (.cells #[.slice A6 R.length c6] 58)) (w6.alloc (.cells #[.slice A6 R.length c6] 58)).heap.size (.slice A6 R.length c6) R from HR6.out.1.step (below_new _))
                        have HRo := Lib.hid (show ∀ g, (Value.slice A6 R.length c6).ownBlock = some g → (Value.slice (some ⟨gv, 0, none⟩) kk capv).ownBlock ≠ some g ∧ (g < w.heap.size ∨ w.heap.size + 3 ≤ g) ∧ g < (w6.alloc (.cells #[.slice A6 R.length c6] 58)).heap.size from fun g hg => by
                          rcases HR6.out.2 with e | e
                          · have h := HI15.out.off _ (List.mem_of_getElem? HUa.out) g (by rw [← e]; exact hg)
                            exact h
                          · have h1 := e g hg
                            have h2 := HI13.out.bel.size
                            have h3 := (Array.getElem?_eq_some_iff.1 HI13.out.his).1
                            refine ⟨fun e2 => ?_, .inr (by omega), ?_⟩
                            · rw [own_slice] at e2; injection e2 with e2
                              have h4 := HB13.out.size
                              simp only at e2; omega
                            · exact HR15.out.ownLt (fun e0 => by have := HRne.out; rw [e0] at this; exact this rfl) hg)
                        have hgb : w.heap.size + 1 + 1 < wr.heap.size := hz1
                        go_wp2_with (at_builtin; refine wpList_append_own_at _ rfl _ _ 53 rfl (w.heap.size + 3) 58 j0 (.slice none 0 0) 1 24 Tryz.underlying53 HZ.out.2.2.1 HZ.out.2.2.2 HZ.out.1 HZ.out.2.1 rfl (by decide) (.slice (some ⟨gv, 0, none⟩) kk capv) kk vals rfl HO15.out ⟨w6.heap.size, 0, none⟩ 1 1 [.slice A6 R.length c6] rfl rfl HNw2.out (by intro u hu; simp at hu; subst hu; rfl) (by unfold maxLen; omega) (by omega) HBs.out ?_; intro v7 w7 hown7 hg7 hnn7 hob7; obtain ⟨g7, cap7, rfl⟩ := own_form hown7 (by omega); have fz := frozen_cells (show w7.heap[w.heap.size + 1 + 1]? = _ from HI15.out.hisG hg7) 0; obtain ⟨k0, k1⟩ := cells_two (show w7.heap[w.heap.size + 1 + 1]? = _ from HI15.out.hisG hg7); obtain ⟨x0, x1, x2⟩ := cells_three ((hg7.block wr.heap.size (Array.getElem?_eq_some_iff.1 HX15.out).1 (by intro e; rw [own_slice] at e; injection e with e; simp only at e; omega)).trans HX15.out))
                        have HP7 := Lib.hid (HI15.out.push (vs' := .slice (some ⟨g7, 0, none⟩) (kk + 1) cap7) (r := .slice A6 R.length c6) (R := R) hg7 (by rw [show (LL ++ [a]).length = kk from by rw [List.length_append, HVe.out.2.2.2, HKK.out]; rfl]; exact hown7) hob7 HR15.out HRo.out)
                        clear hown7 hg7 hnn7 hob7
                        go_roundw
                        case rel => exact ⟨k + 1, LL ++ [a], R, _, _, x.yr, by go_num, rfl, by omega, by rw [List.length_append, HVe.out.2.2.2]; rfl, HG.out, HRi2.out, hrl', HRne.out, HP7.out⟩
                        case measure => simp [intOf]; omega
                      · have HEq := Lib.hid (HNl.out (by omega))
                        generalize R.length = rl at *
                        obtain ⟨r0, r1⟩ := cells_two HI14.out.res
                        obtain ⟨h0, h1⟩ := cells_two (show _[w.heap.size + 1 + 1]? = _ from HI14.out.his)
                        have f0 := frozen_cells HI14.out.res 0
                        have f1 := frozen_cells HI14.out.res 1
                        have HFin := Lib.hid (HI14.out.fin H2.out HEq.out)
                        go_wp2_with fail
                        (try rw [Exit.noGoto_ret])
                        exact bodyPost_ret (v := .agg #[.slice (some ⟨gv, 0, none⟩) kk capv, .slice (some ad) m c2]) (by simp [results, Tryz.results45, go_sem, r0, r1]) rfl ⟨⟨_, rfl, HFin.out.1⟩, HFin.out.2⟩
                · have HEq := Lib.hid (HBad.out fun h => c5 h.2.2.2.2.1)
                  rw [decide_eq_false c5] at HV3
                  go_wp2_with fail
                  refine HV3.out.mono ?_
                  rintro e w4 ⟨rfl, hb⟩
                  have HI12 := Lib.hid (HI11.out.step hb)
                  clear hb
                  obtain ⟨r0, r1⟩ := cells_two HI12.out.res
                  obtain ⟨h0, h1⟩ := cells_two (show _[w.heap.size + 1 + 1]? = _ from HI12.out.his)
                  have f0 := frozen_cells HI12.out.res 0
                  have f1 := frozen_cells HI12.out.res 1
                  have HFin := Lib.hid (HI12.out.fin H2.out HEq.out)
                  go_wp2_with fail
                  (try rw [Exit.noGoto_ret])
                  exact bodyPost_ret (v := .agg #[.slice (some ⟨gv, 0, none⟩) kk capv, .slice (some ad) m c2]) (by simp [results, Tryz.results45, go_sem, r0, r1]) rfl ⟨⟨_, rfl, HFin.out.1⟩, HFin.out.2⟩
              · have HEq := Lib.hid (HBad.out fun h => c4 h.2.2.2.1)
                rw [decide_eq_false c4] at HV2
                go_wp2_with fail
                refine HV2.out.mono ?_
                rintro e w3 ⟨rfl, hb⟩
                have HI11 := Lib.hid (HI10.out.step hb)
                clear hb
                obtain ⟨r0, r1⟩ := cells_two HI11.out.res
                obtain ⟨h0, h1⟩ := cells_two (show _[w.heap.size + 1 + 1]? = _ from HI11.out.his)
                have f0 := frozen_cells HI11.out.res 0
                have f1 := frozen_cells HI11.out.res 1
                have HFin := Lib.hid (HI11.out.fin H2.out HEq.out)
                go_wp2_with fail
                (try rw [Exit.noGoto_ret])
                exact bodyPost_ret (v := .agg #[.slice (some ⟨gv, 0, none⟩) kk capv, .slice (some ad) m c2]) (by simp [results, Tryz.results45, go_sem, r0, r1]) rfl ⟨⟨_, rfl, HFin.out.1⟩, HFin.out.2⟩
            · have HEq := Lib.hid (HBad.out fun h => c3 h.2.2.1)
              rw [decide_eq_false c3] at HV1
              go_wp2_with fail
              refine HV1.out.mono ?_
              rintro e w2 ⟨rfl, hb⟩
              have HI10 := Lib.hid (HI9.out.step hb)
              clear hb
              obtain ⟨r0, r1⟩ := cells_two HI10.out.res
              obtain ⟨h0, h1⟩ := cells_two (show _[w.heap.size + 1 + 1]? = _ from HI10.out.his)
              have f0 := frozen_cells HI10.out.res 0
              have f1 := frozen_cells HI10.out.res 1
              have HFin := Lib.hid (HI10.out.fin H2.out HEq.out)
              go_wp2_with fail
              (try rw [Exit.noGoto_ret])
              exact bodyPost_ret (v := .agg #[.slice (some ⟨gv, 0, none⟩) kk capv, .slice (some ad) m c2]) (by simp [results, Tryz.results45, go_sem, r0, r1]) rfl ⟨⟨_, rfl, HFin.out.1⟩, HFin.out.2⟩
      · have HEq := Lib.hid (show vers b = LL ++ [a] from by
          rw [HVe.out.1, List.drop_eq_nil_of_le (by rw [HM.out]; omega)]; rfl)
        obtain ⟨r0, r1⟩ := cells_two HI.out.res
        obtain ⟨h0, h1⟩ := cells_two (show wr.heap[w.heap.size + 1 + 1]? = _ from HI.out.his)
        have f0 := frozen_cells HI.out.res 0
        have f1 := frozen_cells HI.out.res 1
        have HFin := Lib.hid (HI.out.fin H2.out HEq.out)
        clear HM
        go_wp2_with fail
        rw [Exit.noGoto_ret]
        exact bodyPost_ret (v := .agg #[.slice (some ⟨gv, 0, none⟩) kk capv, .slice A2 m c2]) (by simp [results, Tryz.results45, go_sem, r0, r1]) rfl ⟨⟨_, rfl, HFin.out.1⟩, HFin.out.2⟩
  · rw [decide_eq_false hver] at HV
    have HE := Lib.hid (show vers b = [] from by unfold vers; rw [if_neg hver])
    clear hver
    go_enter Tryz.func45, Tryz.ntmps45
    go_wp2_with fail
    go_step3
    go_wp2_with fail
    refine (HV.out _ HI0.out.bel).mono ?_
    rintro e w1 ⟨rfl, hb⟩
    have HI1 := Lib.hid (HI0.out.step hb)
    obtain ⟨r0, r1⟩ := cells_two HI1.out.res
    obtain ⟨h0, h1⟩ := cells_two (show w1.heap[w.heap.size + 1 + 1]? = _ from HI1.out.his)
    clear hb HI0
    have f0 := frozen_cells HI1.out.res 0
    have f1 := frozen_cells HI1.out.res 1
    have HFin := Lib.hid (HI1.out.fin H2.out HE.out)
    go_wp2_with fail
    rw [Exit.noGoto_ret]
    exact bodyPost_ret (v := .agg #[.slice none 0 0, .slice A2 b.chs.length c2]) (by simp [results, Tryz.results45, go_sem, r0, r1]) rfl ⟨⟨_, rfl, HFin.out.1⟩, HFin.out.2⟩
end Go.Proofs.YtplpogonkfnafaaGreat
namespace Go.Proofs.YtplpogonkfnafaaGreat
open Go.RowKit Go.Nm

theorem versF_pos : ∀ (l : List Ch) (a : List Int) (y : Int), 1 ≤ (versF a y l).length
  | [], a, y => by simp [versF]
  | x :: l, a, y => by
    unfold versF
    split <;> simp
theorem vers_len (b : Bk) : (vers b).length ≤ b.chs.length + 1 := by
  unfold vers
  split
  · exact versF_len _ _ _
  · simp
theorem val_len {b : Bk} (h : Val b) : (vers b).length = b.chs.length + 1 := by have := vers_len b; have := h.2; omega
theorem HsV.form {w : World} {v vc : Value} {b : Bk} (h : HsV w v b vc) : ∃ A c, v = .agg #[.slice A (vers b).length c, vc] := by
  obtain ⟨vs, rfl, h1, h2⟩ := h
  obtain ⟨A, c, rfl⟩ := h1.form
  exact ⟨A, c, rfl⟩
theorem HsV.formC {w : World} {v vc : Value} {b : Bk} (h : HsV w v b vc) : ∃ A c, vc = .slice A b.chs.length c := by
  obtain ⟨vs, rfl, h1, h2⟩ := h
  exact h2.form
theorem versF_ne : ∀ (l : List Ch) (a : List Int) (y : Int), a ≠ [] → ∀ L ∈ versF a y l, L ≠ []
  | [], a, y, h, L, hL => by simp [versF] at hL; subst hL; exact h
  | x :: l, a, y, h, L, hL => by
    unfold versF at hL
    split at hL
    · rename_i hx
      rcases List.mem_cons.1 hL with rfl | hL
      · exact h
      · exact versF_ne l _ _ (rep_ne h fun e => by have := hx.2.2.2.1.1; rw [e] at this; simp at this) L hL
    · simp at hL; subst hL; exact h
theorem vers_ne {b : Bk} : ∀ L ∈ vers b, L ≠ [] := fun L hL => by
  unfold vers at hL
  split at hL
  · rename_i h; exact versF_ne _ _ _ (fun e => by have := h.1; rw [e] at this; simp at this) L hL
  · simp at hL
/-- a store into a cell that holds no number keeps a slice of numbers -/
theorem InSl.store {w : World} {B : Nat} {v : Value} {L : List Int} {q : Addr} {A0 : Option Addr} {n0 c0 : Nat} (h : InSl w B v L) (hq : w.cell? q = some (.slice A0 n0 c0)) (u : Value) : InSl (w.setCell q u) B v L := by
  obtain ⟨A, c, e, h1, h2, h3⟩ := h
  refine ⟨A, c, e, h1, h2, fun i x hx => ?_⟩
  obtain ⟨ad, ea, hb, hc⟩ := h3 i x hx
  exact ⟨ad, ea, hb, by rw [World.cell?_setCell_other _ _ _ _ (fun e => by rw [← e] at hc; rw [hq] at hc; cases hc)]; exact hc⟩
theorem VsSl.store {w : World} {B : Nat} {v : Value} {LL : List (List Int)} {q : Addr} (h : VsSl w B v LL) (hne : ∀ L ∈ LL, L ≠ []) (hq : w.cell? q = some (.slice none 0 0)) (u : Value) : VsSl (w.setCell q u) B v LL := by
  obtain ⟨A, c, vals, e, h1, h2⟩ := h
  refine ⟨A, c, vals, e, ⟨h1.1, fun i v L g1 g2 => (h1.2 i v L g1 g2).store hq u⟩, fun i x hx => ?_⟩
  obtain ⟨ad, ea, hb, hc⟩ := h2 i x hx
  refine ⟨ad, ea, hb, ?_⟩
  rw [World.cell?_setCell_other _ _ _ _ (fun e => ?_)]
  · exact hc
  · rw [← e, hq] at hc
    injection hc with hc
    have hi : i < LL.length := by rw [← h1.1]; exact (List.getElem?_eq_some_iff.1 hx).1
    have hL := List.getElem?_eq_getElem hi
    obtain ⟨A', c', e', _⟩ := h1.2 i x _ hx hL
    rw [← hc] at e'
    injection e' with e1 e2 e3
    exact hne _ (List.mem_of_getElem? hL) (List.length_eq_zero_iff.1 e2.symm)
set_option maxHeartbeats 2000000 in
theorem complete_any (v vc : Value) (b : Bk) (w : World) (h : HsV w v b vc) :
    Calls Tryz.prog 46 #[v] w fun e w' => e = .returned (.bool (decide (b.chs.length < (vers b).length))) ∧ Below w.heap.size w w' := by
  obtain ⟨A, c, rfl⟩ := h.form
  obtain ⟨A', c', rfl⟩ := h.formC
  clear h
  obtain ⟨r, hr⟩ : ∃ r, decide (b.chs.length < (vers b).length) = r := ⟨_, rfl⟩
  rw [hr]
  have HR := Lib.hid hr
  clear hr
  generalize b.chs.length = m at *
  generalize (vers b).length = n at *
  go_enter Tryz.func46, Tryz.ntmps46
  go_wp2_with fail
  go_ret
  exact ⟨ret_b HR.out, below_new _⟩
theorem two_new (w : World) (o1 o2 : Obj) : ((w.alloc o1).alloc o2).heap[w.heap.size + 1]? = some o2 := by
  rw [show w.heap.size + 1 = (w.alloc o1).heap.size from by simp]; exact World.alloc_heap_new _ _
/-- what open tells of a book and versions -/
def openE (b : Bk) (V : List Int) : Int := if Val b then (if ∀ v ∈ V, 0 ≤ v ∧ v < (vers b).length then 0 else 21) else 20
def nilH : Value := .agg #[.slice none 0 0, .slice none 0 0]
def OpR (b : Bk) (vc : Value) (er : Int) (w : World) (e : Ending) (w' : World) : Prop :=
  ∃ u, e = .returned (.tuple #[u, .int .i64 er]) ∧ (er = 0 → HsV w' u b vc) ∧ (er ≠ 0 → u = nilH) ∧ Below w.heap.size w w'
theorem OpR.bad {b : Bk} {vc : Value} {er : Int} {w w' : World} (h : er ≠ 0) (hb : Below w.heap.size w w') : OpR b vc er w (.returned (.tuple #[.agg #[.slice none 0 0, .slice none 0 0], .int .i64 er])) w' :=
  ⟨_, rfl, fun e => absurd e h, fun _ => rfl, hb⟩
theorem OpR.good {b : Bk} {vc : Value} {w w' : World} {u : Value} (h : HsV w' u b vc) (hb : Below w.heap.size w w') : OpR b vc 0 w (.returned (.tuple #[u, .int .i64 0])) w' :=
  ⟨u, rfl, fun _ => h, fun e => absurd rfl e, hb⟩
/-- a history that is stored as a result -/
theorem HsV.fin {w W : World} {g : Nat} {vs vc : Value} {b : Bk} (h : HsV W (.agg #[vs, vc]) b vc) (hb : Below w.heap.size w W) (h2 : ChSl w w.heap.size vc b.chs) (r0 : W.cell? ⟨w.heap.size + g, 0, none⟩ = some (.slice none 0 0)) (r1 : W.cell? ⟨w.heap.size + g, 1, none⟩ = some (.slice none 0 0)) :
    HsV ((W.setCell ⟨w.heap.size + g, 0, none⟩ vs).setCell ⟨w.heap.size + g, 1, none⟩ vc) (.agg #[vs, vc]) b vc ∧ Below w.heap.size w ((W.setCell ⟨w.heap.size + g, 0, none⟩ vs).setCell ⟨w.heap.size + g, 1, none⟩ vc) := by
  obtain ⟨vs', e, h1, _⟩ := h
  simp only [Value.agg.injEq, Array.mk.injEq, List.cons.injEq, and_true] at e
  subst e
  have hb2 : Below w.heap.size w ((W.setCell ⟨w.heap.size + g, 0, none⟩ vs).setCell ⟨w.heap.size + g, 1, none⟩ vc) := (hb.setCell (by simp) _).setCell (by simp) _
  refine ⟨⟨vs, rfl, ?_, h2.step hb2⟩, hb2⟩
  have hs : ((W.setCell ⟨w.heap.size + g, 0, none⟩ vs).setCell ⟨w.heap.size + g, 1, none⟩ vc).heap.size = W.heap.size := by simp
  rw [hs]
  refine (h1.store vers_ne r0 vs).store vers_ne ?_ vc
  rw [World.cell?_setCell_other _ _ _ _ (by intro e; injection e with e1 e2; omega)]
  exact r1
set_option maxRecDepth 100000 in
set_option maxHeartbeats 8000000 in
theorem open_any (v vc t : Value) (b : Bk) (V : List Int) (w : World) (hv : BkV w v b vc) (hs : Sm b) (ht : InSl w w.heap.size t V) (hV : V.length ≤ 1000) :
    Calls Tryz.prog 22 #[v, t] w (OpR b vc (openE b V) w) := by
  obtain ⟨v1, rfl, h1, h2⟩ := hv
  have HB := Lib.hid (And.intro h1 (And.intro h2 hs))
  have HT := Lib.hid ht
  obtain ⟨A1, c1, rfl, _⟩ := h1.form
  obtain ⟨A2, c2, rfl⟩ := h2.form
  obtain ⟨A3, c3, rfl, _⟩ := ht.form
  clear h1 h2 hs ht
  by_cases hbig : b.chs.length ≤ 64
  · have hbs := below_new (w := w) (.cells #[.slice A1 b.first.length c1, .slice A2 b.chs.length c2] 25)
    have hbs2 := hbs.trans ((below_new (w := w.alloc (.cells #[.slice A1 b.first.length c1, .slice A2 b.chs.length c2] 25)) (.cells #[.slice none 0 0, .slice none 0 0] 55)).mono (by simp))
    have HH := Lib.hid (historyOf_any (.agg #[.slice A1 b.first.length c1, .slice A2 b.chs.length c2]) _ b _ ⟨_, rfl, HB.out.1.step hbs2, HB.out.2.1.step hbs2⟩ HB.out.2.2)
    have HBs := Lib.hid hbs2
    have HRes := Lib.hid (two_new w (.cells #[.slice A1 b.first.length c1, .slice A2 b.chs.length c2] 25) (.cells #[.slice none 0 0, .slice none 0 0] 55))
    have hbig' : ¬ (64 : Int) < (b.chs.length : Int) := by omega
    clear hbs hbs2
    have HEq := Lib.hid (show openE b V = if Val b then (if ∀ v ∈ V, 0 ≤ v ∧ v < (vers b).length then 0 else 21) else 20 from rfl)
    have HVal := Lib.hid (show Val b ↔ b.chs.length < (vers b).length from ⟨fun h => h.2, fun h => ⟨hbig, h⟩⟩)
    generalize openE b V = er at *
    go_enter Tryz.func22, Tryz.ntmps22
    go_wp2_with fail
    refine HH.out.mono ?_
    rintro e w1 ⟨⟨u, rfl, hu⟩, hb⟩
    obtain ⟨Av, cv, rfl⟩ := hu.form
    have HU := Lib.hid hu
    have HB1 := Lib.hid (HBs.out.trans (hb.mono HBs.out.size))
    have HR1 := Lib.hid ((hb.block _ (Array.getElem?_eq_some_iff.1 HRes.out).1).trans HRes.out)
    have hrl : w.heap.size + 1 < w1.heap.size := (Array.getElem?_eq_some_iff.1 HR1.out).1
    clear hu hb
    have HU2 := Lib.hid (HU.out.step (below_new (.cells #[.slice Av (vers b).length cv, .slice A2 b.chs.length c2] 55)))
    have HC := Lib.hid (complete_any _ _ b _ HU2.out)
    have HB2 := Lib.hid (HB1.out.trans ((below_new (.cells #[.slice Av (vers b).length cv, .slice A2 b.chs.length c2] 55)).mono HB1.out.size))
    have HR2 := Lib.hid (((below_new (w := w1) (.cells #[.slice Av (vers b).length cv, .slice A2 b.chs.length c2] 55)).block _ (Array.getElem?_eq_some_iff.1 HR1.out).1).trans HR1.out)
    have HN2 := Lib.hid (World.alloc_heap_new w1 (.cells #[.slice Av (vers b).length cv, .slice A2 b.chs.length c2] 55))
    clear HU HB1 HR1
    by_cases hval : Val b
    · rw [decide_eq_true (HVal.out.1 hval)] at HC
      have HEq2 := Lib.hid (show er = if ∀ v ∈ V, 0 ≤ v ∧ v < (vers b).length then 0 else 21 from by rw [HEq.out, if_pos hval])
      clear HEq HVal hval
      go_wp2_with fail
      refine HC.out.mono ?_
      rintro e w2 ⟨rfl, hb⟩
      have HU3 := Lib.hid (HU2.out.step hb)
      have HB3 := Lib.hid (HB2.out.trans (hb.mono HB2.out.size))
      have HR3 := Lib.hid ((hb.block _ (Array.getElem?_eq_some_iff.1 HR2.out).1).trans HR2.out)
      have HN3 := Lib.hid ((hb.block _ (Array.getElem?_eq_some_iff.1 HN2.out).1).trans HN2.out)
      have HT3 := Lib.hid (HT.out.step HB3.out)
      clear hb HU2 HB2 HR2 HN2
      generalize hnv : V.length = nv at *
      have HNv := Lib.hid hnv
      clear hnv
      obtain ⟨k0, k1⟩ := cells_two HN3.out
      obtain ⟨r0, r1⟩ := cells_two HR3.out
      have f0 := frozen_cells HR3.out 0
      have f1 := frozen_cells HR3.out 1
      have HVl : (vers b).length ≤ 1001 := by have := vers_len b; have := HB.out.2.2.2.1; omega
      generalize hvl : (vers b).length = vl at *
      have HVle := Lib.hid hvl
      clear hvl
      have HFin := Lib.hid (HU3.out.fin (b := b) HB3.out HB.out.2.1 r0 r1)
      go_wp2_with fail
      go_loop [22] (fun ix => ∃ j : Nat, ix = .int .i64 (j : Int) ∧ j ≤ nv ∧ ∀ i z, i < j → V[i]? = some z → 0 ≤ z ∧ z < (vl : Int)) (fun ix => nv - (intOf ix).toNat)
      case atStart => exact ⟨0, rfl, by omega, fun i z h => absurd h (by omega)⟩
      case round =>
        obtain ⟨j, rfl, hjn, hno⟩ := hrel
        have HJ := Lib.hid hno
        clear hno
        by_cases hjlt : j < nv
        · obtain ⟨A5', c5', e5, h51, h52, h53⟩ := HT3.out
          obtain ⟨z, ad5, hz, ea, hb5, hcz⟩ := h53.at_ HNv.out hjlt
          injection e5 with e51 e52 e53
          subst e51
          subst ea
          have HZ1 := Lib.hid hz
          clear hz h51 h52 h53 e52 e53 hb5
          by_cases hz0 : z < 0
          · have HE := Lib.hid (show er = 21 from by
              rw [HEq2.out, if_neg]
              intro h
              have := (h z (List.mem_of_getElem? HZ1.out)).1; omega)
            obtain rfl := HE.out
            go_wp2_with fail
            exact bodyPost_ret (v := .tuple #[.agg #[.slice none 0 0, .slice none 0 0], .int .i64 21]) (by simp [results, Tryz.results22, go_sem, r0, r1]) rfl (OpR.bad (by decide) ((HB3.out.setCell (by simp) _).setCell (by simp) _))
          · by_cases hz1 : (vl : Int) ≤ z
            · have HE := Lib.hid (show er = 21 from by
                rw [HEq2.out, if_neg]
                intro h
                have := (h z (List.mem_of_getElem? HZ1.out)).2; omega)
              obtain rfl := HE.out
              go_wp2_with fail
              exact bodyPost_ret (v := .tuple #[.agg #[.slice none 0 0, .slice none 0 0], .int .i64 21]) (by simp [results, Tryz.results22, go_sem, r0, r1]) rfl (OpR.bad (by decide) ((HB3.out.setCell (by simp) _).setCell (by simp) _))
            · have HJ2 := Lib.hid (show ∀ i z', i < j + 1 → V[i]? = some z' → 0 ≤ z' ∧ z' < (vl : Int) from fun i z' hi hz' => by
                by_cases e : i = j
                · subst e; rw [HZ1.out] at hz'; injection hz' with hz'; subst hz'; omega
                · exact HJ.out i z' (by omega) hz')
              go_wp2_with fail
              go_round
              case rel => exact ⟨j + 1, by go_num, by omega, HJ2.out⟩
              case measure => simp [intOf]; omega
        · have HE := Lib.hid (show er = 0 from by
            rw [HEq2.out, if_pos]
            intro z hz
            obtain ⟨i, hi, rfl⟩ := List.getElem_of_mem hz
            exact HJ.out i _ (by have := HNv.out; omega) (List.getElem?_eq_getElem hi))
          obtain rfl := HE.out
          go_wp2_with fail
          exact bodyPost_ret (v := .tuple #[.agg #[.slice Av vl cv, .slice A2 b.chs.length c2], .int .i64 0]) (by simp [results, Tryz.results22, go_sem, r0, r1]) rfl (OpR.good HFin.out.1 HFin.out.2)
    · rw [decide_eq_false (fun h => hval (HVal.out.2 h))] at HC
      have HEq2 := Lib.hid (show er = 20 from by rw [HEq.out, if_neg hval])
      clear HEq HVal hval
      go_wp2_with fail
      refine HC.out.mono ?_
      rintro e w2 ⟨rfl, hb⟩
      have HB3 := Lib.hid (HB2.out.trans (hb.mono HB2.out.size))
      have HR3 := Lib.hid ((hb.block _ (Array.getElem?_eq_some_iff.1 HR2.out).1).trans HR2.out)
      obtain ⟨r0, r1⟩ := cells_two HR3.out
      have f0 := frozen_cells HR3.out 0
      have f1 := frozen_cells HR3.out 1
      obtain rfl := HEq2.out
      clear hb
      go_wp2_with fail
      exact bodyPost_ret (v := .tuple #[.agg #[.slice none 0 0, .slice none 0 0], .int .i64 20]) (by simp [results, Tryz.results22, go_sem, r0, r1]) rfl (OpR.bad (by decide) ((HB3.out.setCell (by simp) _).setCell (by simp) _))
  · have HE := Lib.hid (show openE b V = 20 from by unfold openE; rw [if_neg (fun h => hbig h.1)])
    generalize openE b V = er at *
    obtain rfl := HE.out
    generalize hm : b.chs.length = m at *
    have hbig' : (64 : Int) < (m : Int) := by omega
    go_enter Tryz.func22, Tryz.ntmps22
    go_wp2_with fail
    exact bodyPost_ret (v := .tuple #[.agg #[.slice none 0 0, .slice none 0 0], .int .i64 20]) (by simp [results, Tryz.results22, go_sem]) rfl (OpR.bad (by decide) (by (repeat (first | exact Below.refl _ _ | refine Below.drew ?_ | refine below_drewN ?_ _ | refine Below.alloc ?_ (by simp; try omega) _ | refine Below.setCell ?_ (by simp; try omega) _))))
end Go.Proofs.YtplpogonkfnafaaGreat
namespace Go.Proofs.YtplpogonkfnafaaGreat
open Go

section
variable {P : Program} {ops : Array Oper} {Q : Exit → Act → World → Prop}

/-- what is left to do -/
def leftOf (l : List Bool) : Nat := l.count false

theorem leftOf_set : ∀ (l : List Bool) (i : Nat), l[i]? = some false → leftOf (l.set i true) + 1 = leftOf l
  | [], i, h => by simp at h
  | b :: l, 0, h => by simp at h; subst h; simp [leftOf]
  | b :: l, i + 1, h => by
    have ih := leftOf_set l i (by simpa using h)
    unfold leftOf at *
    simp only [List.set_cons_succ, List.count_cons]
    omega

theorem leftOf_pos {l : List Bool} {i : Nat} (h : l[i]? = some false) : 0 < leftOf l := by
  have := leftOf_set l i h; omega

/-- an edge leads back -/
def backB (ops : Array Oper) : Bool := (List.range ops.size).all fun i => ((ops[i]?).map (·.after.all fun e => !Region.binds .any e || decide (e.on < i))).getD true

theorem backB_spec (h : backB ops = true) {i : Nat} {o : Oper} (hi : ops[i]? = some o) {e : Edge} (he : e ∈ o.after) (hb : Region.binds .any e = true) : e.on < i := by
  unfold backB at h
  rw [List.all_eq_true] at h
  have h1 := h i (by rw [List.mem_range]; exact (Array.getElem?_eq_some_iff.1 hi).1)
  simp only [hi, Option.map_some, Option.getD_some, Array.all_eq_true_iff_forall_mem] at h1
  have h2 := h1 e he
  rw [hb] at h2
  simpa using h2

theorem ready_none {listed : Array Bool} (hb : backB ops = true) (hs : listed.size = ops.size) (h : Region.ready .any ops listed = []) : ∀ i, i < ops.size → listed.getD i false = true := by
  intro i
  induction i using Nat.strongRecOn with
  | _ i ih =>
    intro hi
    rcases hl : listed.getD i false with _ | _
    · exfalso
      have hm : i ∈ Region.ready .any ops listed := mem_ready.2 ⟨by
          rw [← hs] at hi
          simp [hi] at hl ⊢
          exact hl, ops[i], Array.getElem?_eq_getElem hi, fun e he hbd => ih e.on (backB_spec hb (Array.getElem?_eq_getElem hi) he hbd) (by have := backB_spec hb (Array.getElem?_eq_getElem hi) he hbd; omega)⟩
      rw [h] at hm; cases hm
    · rfl

/-- operation j waits for operation i -/
def waitsB (ops : Array Oper) (j i : Nat) : Bool := ((ops[j]?).map (·.after.any fun e => Region.binds .any e && e.on == i)).getD false
theorem waits_no {j i : Nat} {oj : Oper} (hj : ops[j]? = some oj) (h : ∀ e ∈ oj.after, Region.binds .any e = true → e.on ≠ i) : waitsB ops j i = false := by
  unfold waitsB
  rw [hj]
  simp only [Option.map_some, Option.getD_some]
  rw [← Bool.not_eq_true, Array.any_eq_true']
  rintro ⟨e, he, hb⟩
  rw [Bool.and_eq_true, beq_iff_eq] at hb
  exact h e he hb.1 hb.2

theorem wpAny_facts (G : Act → World → Prop) (F : Nat → Act → World → Prop) (hb : backB ops = true)
    (hstep : ∀ i o, ops[i]? = some o → ∀ a w, G a w → (∀ e ∈ o.after, Region.binds .any e = true → F e.on a w) → wpOp P ops Q i (fun a' w' => G a' w' ∧ F i a' w' ∧ ∀ j, j < ops.size → j ≠ i → waitsB ops j i = false → F j a w → F j a' w') a w)
    (hend : ∀ a w, G a w → (∀ j, j < ops.size → F j a w) → Q .normal a w) :
    ∀ (fuel : Nat) (listed : Array Bool) (a : Act) (w : World), listed.size = ops.size → leftOf listed.toList ≤ fuel →
      (∀ j oj, ops[j]? = some oj → listed.getD j false = true → ∀ e ∈ oj.after, Region.binds .any e = true → listed.getD e.on false = true) → G a w → (∀ j, listed.getD j false = true → F j a w) → wpAny P .any ops Q fuel listed a w := by
  intro fuel
  induction fuel with
  | zero =>
    intro listed a w hs hf _ hG hF
    have hnil : Region.ready .any ops listed = [] := by
      cases hr : Region.ready .any ops listed with
      | nil => rfl
      | cons i rs =>
        have hm : i ∈ Region.ready .any ops listed := by rw [hr]; exact List.mem_cons_self
        obtain ⟨h0, o, ho, _⟩ := mem_ready.1 hm
        have hi : i < listed.size := by rw [hs]; exact (Array.getElem?_eq_some_iff.1 ho).1
        have := leftOf_pos (l := listed.toList) (i := i) (by simp [hi] at h0 ⊢; exact h0)
        omega
    exact ⟨hnil, hend a w hG fun j hj => hF j (ready_none hb hs hnil j hj)⟩
  | succ fuel ih =>
    intro listed a w hs hf hw hG hF
    refine ⟨fun hnil => hend a w hG fun j hj => hF j (ready_none hb hs hnil j hj), fun i hm => ?_⟩
    obtain ⟨h0, o, ho, hall⟩ := mem_ready.1 hm
    have hi : i < listed.size := by rw [hs]; exact (Array.getElem?_eq_some_iff.1 ho).1
    have hi0 : listed.getD i false = false := by simp [hi] at h0 ⊢; exact h0
    refine wpOp_mono (fun a' w' h => ?_) (hstep i o ho a w hG fun e he hbd => hF _ (hall e he hbd))
    refine ih _ a' w' (by simpa using hs) ?_ (fun j oj hj hl e he hbd => ?_) h.1 fun j hj => ?_
    · have := leftOf_set listed.toList i (by simp [hi] at h0 ⊢; exact h0)
      rw [Array.toList_setIfInBounds]
      omega
    · by_cases hji : j = i
      · subst hji
        rw [ho] at hj
        cases hj
        exact getD_set_true (hall e he hbd)
      · rw [getD_set_ne false (Ne.symm hji)] at hl
        exact getD_set_true (hw j oj hj hl e he hbd)
    · by_cases hji : j = i
      · subst hji; exact h.2.1
      · rw [getD_set_ne false (Ne.symm hji)] at hj
        have hjs : j < ops.size := by
          rcases Nat.lt_or_ge j listed.size with h | h
          · omega
          · simp [Array.getElem?_eq_none h] at hj
        refine h.2.2 j hjs hji (waits_no (Array.getElem?_eq_getElem hjs) fun e he hbd heq => ?_) (hF j hj)
        have := hw j _ (Array.getElem?_eq_getElem hjs) hj e he hbd
        rw [heq, hi0] at this; cases this

/-- the law: 'G' holds all along, operation i leaves 'F i' and keeps all other facts -/
theorem wp_region_facts {id : Nat} {a : Act} {w : World} (G : Act → World → Prop) (F : Nat → Act → World → Prop) (hm : P.follows .mixedOrders = true) (hb : backB ops = true)
    (hG : G a w.drew)
    (hstep : ∀ i o, ops[i]? = some o → ∀ a w, G a w → (∀ e ∈ o.after, Region.binds .any e = true → F e.on a w) → wpOp P ops Q i (fun a' w' => G a' w' ∧ F i a' w' ∧ ∀ j, j < ops.size → j ≠ i → waitsB ops j i = false → F j a w → F j a' w') a w)
    (hend : ∀ a w, G a w → (∀ j, j < ops.size → F j a w) → Q .normal a w) : (Code.region id ops true).wp P Q a w :=
  wp_region_any hm (wpAny_facts G F hb hstep hend ops.size _ a _ (by simp) (by simp [leftOf]) (fun j oj hj hl => by
      exfalso
      rcases Nat.lt_or_ge j ops.size with h | h <;> simp [h] at hl) hG (fun j hj => by
      exfalso
      rcases Nat.lt_or_ge j ops.size with h | h <;> simp [h] at hj))
/-- an operation without a guard -/
theorem wpOp_bare {i : Nat} {o : Oper} {K : Act → World → Prop} {a : Act} {w : World} (ho : ops[i]? = some o) (hg : o.guard = none) (h : o.wp P a w K Q) : wpOp P ops Q i K a w := by
  unfold wpOp
  simp only [ho]
  rw [if_pos (by unfold Region.wanted; rw [hg])]
  exact .inl h
end
section
variable {P : Program} {ops : Array Oper} {Q : Exit → Act → World → Prop}
/-- one more operation is done -/
def andB (dn : Nat → Bool) (i : Nat) : Nat → Bool := fun j => j == i || dn j
theorem wpAny_done (G : (Nat → Bool) → Act → World → Prop) (hb : backB ops = true)
    (hstep : ∀ dn i o, ops[i]? = some o → dn i = false → (∀ e ∈ o.after, Region.binds .any e = true → dn e.on = true) → ∀ a w, G dn a w → wpOp P ops Q i (fun a' w' => G (andB dn i) a' w') a w)
    (hend : ∀ dn a w, (∀ j, j < ops.size → dn j = true) → G dn a w → Q .normal a w) :
    ∀ (fuel : Nat) (listed : Array Bool) (a : Act) (w : World), listed.size = ops.size → leftOf listed.toList ≤ fuel → G (fun j => listed.getD j false) a w → wpAny P .any ops Q fuel listed a w := by
  intro fuel
  induction fuel with
  | zero =>
    intro listed a w hs hf hG
    have hnil : Region.ready .any ops listed = [] := by
      cases hr : Region.ready .any ops listed with
      | nil => rfl
      | cons i rs =>
        have hm : i ∈ Region.ready .any ops listed := by rw [hr]; exact List.mem_cons_self
        obtain ⟨h0, o, ho, _⟩ := mem_ready.1 hm
        have hi : i < listed.size := by rw [hs]; exact (Array.getElem?_eq_some_iff.1 ho).1
        have := leftOf_pos (l := listed.toList) (i := i) (by simp [hi] at h0 ⊢; exact h0)
        omega
    exact ⟨hnil, hend _ a w (ready_none hb hs hnil) hG⟩
  | succ fuel ih =>
    intro listed a w hs hf hG
    refine ⟨fun hnil => hend _ a w (ready_none hb hs hnil) hG, fun i hm => ?_⟩
    obtain ⟨h0, o, ho, hall⟩ := mem_ready.1 hm
    have hi : i < listed.size := by rw [hs]; exact (Array.getElem?_eq_some_iff.1 ho).1
    have hi0 : listed.getD i false = false := by simp [hi] at h0 ⊢; exact h0
    refine wpOp_mono (fun a' w' h => ?_) (hstep _ i o ho hi0 (fun e he hbd => hall e he hbd) a w hG)
    refine ih _ a' w' (by simpa using hs) ?_ ?_
    · have := leftOf_set listed.toList i (by simp [hi] at h0 ⊢; exact h0)
      rw [Array.toList_setIfInBounds]
      omega
    · have e : (fun j => (listed.setIfInBounds i true).getD j false) = andB (fun j => listed.getD j false) i := by
        funext j
        unfold andB
        by_cases hji : j = i
        · subst hji
          simp [hi]
        · have : (j == i) = false := by simpa using hji
          rw [this, Bool.false_or]
          by_cases hj : j < listed.size
          · simp [hj, Ne.symm hji]
          · simp [hj]
      rw [e]; exact h
/-- the law -/
theorem wp_region_done {id : Nat} {a : Act} {w : World} (G : (Nat → Bool) → Act → World → Prop) (hm : P.follows .mixedOrders = true) (hb : backB ops = true)
    (hG : G (fun _ => false) a w.drew)
    (hstep : ∀ dn i o, ops[i]? = some o → dn i = false → (∀ e ∈ o.after, Region.binds .any e = true → dn e.on = true) → ∀ a w, G dn a w → wpOp P ops Q i (fun a' w' => G (andB dn i) a' w') a w)
    (hend : ∀ dn a w, (∀ j, j < ops.size → dn j = true) → G dn a w → Q .normal a w) : (Code.region id ops true).wp P Q a w :=
  wp_region_any hm (wpAny_done G hb hstep hend ops.size _ a _ (by simp) (by simp [leftOf]) (by
    have e : (fun j => (Array.replicate ops.size false).getD j false) = fun _ => false := by
      funext j
      by_cases hj : j < ops.size <;> simp [hj]
    rw [e]; exact hG))
end
end Go.Proofs.YtplpogonkfnafaaGreat
namespace Go.Proofs.YtplpogonkfnafaaGreat
open Go.RowKit Go.Nm

theorem arr36 {t : Array Value} (h : t.size = 36) : ∃ f : Nat → Value, t = #[f 0, f 1, f 2, f 3, f 4, f 5, f 6, f 7, f 8, f 9, f 10, f 11, f 12, f 13, f 14, f 15, f 16, f 17, f 18, f 19, f 20, f 21, f 22, f 23, f 24, f 25, f 26, f 27, f 28, f 29, f 30, f 31, f 32, f 33, f 34, f 35] := by
  refine ⟨fun k => t.getD k undef, ?_⟩
  apply Array.ext
  · simpa using h
  · intro i h1 h2
    have : i < 36 := by omega
    have hi : i = 0 ∨ i = 1 ∨ i = 2 ∨ i = 3 ∨ i = 4 ∨ i = 5 ∨ i = 6 ∨ i = 7 ∨ i = 8 ∨ i = 9 ∨ i = 10 ∨ i = 11 ∨ i = 12 ∨ i = 13 ∨ i = 14 ∨ i = 15 ∨ i = 16 ∨ i = 17 ∨ i = 18 ∨ i = 19 ∨ i = 20 ∨ i = 21 ∨ i = 22 ∨ i = 23 ∨ i = 24 ∨ i = 25 ∨ i = 26 ∨ i = 27 ∨ i = 28 ∨ i = 29 ∨ i = 30 ∨ i = 31 ∨ i = 32 ∨ i = 33 ∨ i = 34 ∨ i = 35 := by omega
    rcases hi with rfl | rfl | rfl | rfl | rfl | rfl | rfl | rfl | rfl | rfl | rfl | rfl | rfl | rfl | rfl | rfl | rfl | rfl | rfl | rfl | rfl | rfl | rfl | rfl | rfl | rfl | rfl | rfl | rfl | rfl | rfl | rfl | rfl | rfl | rfl | rfl <;> simp [Array.getD, h1]
def onlyN (K : Act → World → Prop) : Exit → Act → World → Prop
  | .normal, a, w => K a w
  | _, _, _ => False
def fst1 : Value → Value
  | .tuple ⟨[u, _]⟩ => u
  | _ => undef
/-- what open returned -/
def HsW (b : Bk) (vc : Value) (er : Int) (u : Value) (X : World) : Prop :=
  ∃ A n c A' n' c', u = .agg #[.slice A n c, .slice A' n' c'] ∧ (er = 0 → .slice A' n' c' = vc ∧ VsSl X X.heap.size (.slice A n c) (vers b)) ∧ (er ≠ 0 → u = nilH)
theorem HsW.step {b : Bk} {vc : Value} {er : Int} {u : Value} {X Y : World} (h : HsW b vc er u X) (hb : Below X.heap.size X Y) : HsW b vc er u Y := by
  obtain ⟨A, n, c, A', n', c', e, h1, h2⟩ := h
  exact ⟨A, n, c, A', n', c', e, fun e0 => ⟨(h1 e0).1, ((h1 e0).2.below hb).mono hb.size⟩, h2⟩
theorem HsW.store {b : Bk} {vc : Value} {er : Int} {u : Value} {X : World} {g : Nat} (h : HsW b vc er u X) (h0 : X.cell? ⟨g, 0, none⟩ = some (.slice none 0 0)) (h1 : X.cell? ⟨g, 1, none⟩ = some (.slice none 0 0)) (p q : Value) :
    HsW b vc er u ((X.setCell ⟨g, 0, none⟩ p).setCell ⟨g, 1, none⟩ q) := by
  obtain ⟨A, n, c, A', n', c', e, g1, g2⟩ := h
  refine ⟨A, n, c, A', n', c', e, fun e0 => ⟨(g1 e0).1, ?_⟩, g2⟩
  have hs : ((X.setCell ⟨g, 0, none⟩ p).setCell ⟨g, 1, none⟩ q).heap.size = X.heap.size := by simp
  rw [hs]
  refine ((g1 e0).2.store vers_ne h0 p).store vers_ne ?_ q
  rw [World.cell?_setCell_other _ _ _ _ (by intro e; injection e with e1 e2; omega)]
  exact h1
theorem HsW.of_op {b : Bk} {vc : Value} {er : Int} {w w' : World} {e : Ending} (h : OpR b vc er w e w') (hc : ∃ A n c, vc = .slice A n c) : ∃ u, e = .returned (.tuple #[u, .int .i64 er]) ∧ HsW b vc er u w' ∧ Below w.heap.size w w' := by
  obtain ⟨u, e1, h0, h1, hb⟩ := h
  by_cases he : er = 0
  · obtain ⟨vs, e2, hv, _⟩ := h0 he
    obtain ⟨A, c, e3⟩ := hv.form
    obtain ⟨A', n', c', e4⟩ := hc
    subst e3; subst e4
    exact ⟨u, e1, ⟨A, _, c, A', n', c', e2, fun _ => ⟨rfl, hv⟩, fun h => absurd he h⟩, hb⟩
  · have := h1 he
    exact ⟨u, e1, ⟨none, 0, 0, none, 0, 0, this, fun h => absurd h he, fun _ => this⟩, hb⟩
theorem run_append_int {o : Oper} {a : Act} {w : World} {K : Act → World → Prop} {Q : Exit → Act → World → Prop} (s x : Operand) (ho : o.op = .call { callee := .builtin .append, args := #[s, x], argTypes := #[22, 22] })
    (M : Nat) (v : Value) (L : List Int) (z : Int) (hs : a.eval s = v) (hown : w.ownsRow M 3 1 v L.length (intsV L)) (g : Nat) (hx : a.eval x = .slice (some ⟨g, 0, none⟩) 1 1) (hc : w.heap[g]? = some (.cells #[.int .i64 z] 3)) (hn : L.length ≤ 1000000) (hM : M ≤ w.heap.size)
    (h : ∀ v' w', w'.ownsRow M 3 1 v' (L ++ [z]).length (intsV (L ++ [z])) → w.grownBy w' v.ownBlock → (v'.ownBlock = v.ownBlock ∨ v'.ownBlock = some w.heap.size) → K (a.put o.dst v') w') : o.wp Tryz.prog a w K Q := by
  obtain ⟨i0, hi0, hz0, hz1, hz2⟩ := infoI
  obtain ⟨v', w', hr, h2, h3, _, h5⟩ := run_append_own_at (P := Tryz.prog) (w := w) M 22 o.type 3 i0 (.int .i64 0) 1 8 Tryz.underlying22 hi0 hz0 hz1 hz2 rfl (by decide) v L.length (intsV L) hown ⟨g, 0, none⟩ 1 1 [.int .i64 z] rfl
    (fun j u hj => by
      have e : (⟨g, 0, none⟩ : Addr).add j = ⟨g, j, none⟩ := by
        unfold Addr.add
        split
        · rename_i h; rw [h]
        · simp
      rw [e]
      simpa [World.cell?, hc] using hj) (fun u hu => by simp at hu; subst hu; rfl) (by unfold maxLen; omega) (by omega) hM
  unfold Oper.wp execOp
  simp only [ho, resolve, invoke, builtin, Sem.run_bind, Sem.run_pure, Result.andThen_ok, List.map_toArray, List.map_cons, List.map_nil, hs, hx, hr]
  exact h v' w' (by rw [List.length_append, intsV_append]; exact h2) h3 h5
/-- while the history is opened: what holds, by which operations are done -/
structure OaG (W0 w : World) (v1 vc t : Value) (n x : Int) (V : List Int) (b : Bk) (er : Int) (dn : Nat → Bool) (a : Act) (X : World) : Prop where
  sz : a.tmps.size = 36
  t1 : a.tmps.getD 1 undef = .int .i64 n
  t2 : a.tmps.getD 2 undef = .int .i64 x
  t3 : a.tmps.getD 3 undef = t
  t4 : a.tmps.getD 4 undef = .pointer (some ⟨w.heap.size, 0, none⟩)
  t8 : a.tmps.getD 8 undef = .pointer (some ⟨w.heap.size + 1, 0, none⟩)
  t9 : a.tmps.getD 9 undef = .int .i64 0
  ds : a.defers = []
  bel : Below W0.heap.size W0 X
  box : X.heap[w.heap.size]? = some (.cells #[v1, vc] 25)
  res : X.heap[w.heap.size + 1]? = some (.cells #[.slice none 0 0, .slice none 0 0] 55)
  e0 : dn 0 = true → a.tmps.getD 13 undef = .agg #[v1, vc]
  e1 : dn 1 = true → a.tmps.getD 14 undef = t
  e2 : dn 2 = true → a.tmps.getD 15 undef = .int .i64 n
  e3 : dn 3 = true → dn 4 = false → ∃ g, a.tmps.getD 16 undef = .slice (some ⟨g, 0, none⟩) 1 1 ∧ X.heap[g]? = some (.cells #[.int .i64 n] 3)
  own : dn 4 = false → X.ownsRow W0.heap.size 3 1 t V.length (intsV V)
  e4 : dn 4 = true → dn 5 = false → InSl X X.heap.size (a.tmps.getD 17 undef) (V ++ [n])
  e5 : dn 5 = true → ∃ u, a.tmps.getD 18 undef = .tuple #[u, .int .i64 er] ∧ HsW b vc er u X
  e6 : dn 6 = true → a.tmps.getD 12 undef = a.tmps.getD 18 undef
  e7 : dn 7 = true → a.tmps.getD 19 undef = fst1 (a.tmps.getD 18 undef)
  e8 : dn 8 = true → a.tmps.getD 20 undef = .int .i64 er
  e9 : dn 9 = true → dn 10 = false → ∃ g, a.tmps.getD 10 undef = .pointer (some ⟨g, 0, none⟩) ∧ X.heap[g]? = some (.cells #[.slice none 0 0, .slice none 0 0] 55) ∧ w.heap.size + 1 < g
  e10 : dn 10 = true → ∃ g p q, a.tmps.getD 10 undef = .pointer (some ⟨g, 0, none⟩) ∧ a.tmps.getD 18 undef = .tuple #[.agg #[p, q], .int .i64 er] ∧ X.heap[g]? = some (.cells #[p, q] 55) ∧ w.heap.size + 1 < g
  e11 : dn 11 = true → a.tmps.getD 11 undef = .int .i64 er
  o4 : dn 4 = true → dn 1 = true ∧ dn 3 = true
  o5 : dn 5 = true → dn 0 = true ∧ dn 4 = true
  o6 : dn 6 = true → dn 5 = true
  o7 : dn 7 = true → dn 6 = true
  o10 : dn 10 = true → dn 5 = true ∧ dn 9 = true
theorem BkV.step' {W0 X : World} {v vc : Value} {b : Bk} (h : BkV W0 v b vc) (hb : Below W0.heap.size W0 X) : BkV X v b vc := h.step hb
/-- what openAt tells -/
def openAtE (b : Bk) (V : List Int) (n x : Int) : Int := if openE b (V ++ [n]) = 0 then (if x ∈ (vers b).getD n.toNat [] then 0 else 22) else openE b (V ++ [n])
theorem HsV.fin2 {W0 W : World} {G : Nat} {vs vc : Value} {b : Bk} (h : HsV W (.agg #[vs, vc]) b vc) (hb : Below W0.heap.size W0 W) (hG : W0.heap.size ≤ G) (h2 : ChSl W0 W0.heap.size vc b.chs) (r0 : W.cell? ⟨G, 0, none⟩ = some (.slice none 0 0)) (r1 : W.cell? ⟨G, 1, none⟩ = some (.slice none 0 0)) :
    HsV ((W.setCell ⟨G, 0, none⟩ vs).setCell ⟨G, 1, none⟩ vc) (.agg #[vs, vc]) b vc ∧ Below W0.heap.size W0 ((W.setCell ⟨G, 0, none⟩ vs).setCell ⟨G, 1, none⟩ vc) := by
  obtain ⟨vs', e, h1, _⟩ := h
  simp only [Value.agg.injEq, Array.mk.injEq, List.cons.injEq, and_true] at e
  subst e
  have hb2 : Below W0.heap.size W0 ((W.setCell ⟨G, 0, none⟩ vs).setCell ⟨G, 1, none⟩ vc) := (hb.setCell hG _).setCell hG _
  refine ⟨⟨vs, rfl, ?_, h2.step hb2⟩, hb2⟩
  have hs : ((W.setCell ⟨G, 0, none⟩ vs).setCell ⟨G, 1, none⟩ vc).heap.size = W.heap.size := by simp
  rw [hs]
  refine (h1.store vers_ne r0 vs).store vers_ne ?_ vc
  rw [World.cell?_setCell_other _ _ _ _ (by intro e; injection e with e1 e2; omega)]
  exact r1
theorem BkV.chs {w : World} {v vc : Value} {b : Bk} (h : BkV w v b vc) : ChSl w w.heap.size vc b.chs := by
  obtain ⟨v1, _, _, h2⟩ := h; exact h2
theorem versF_ok : ∀ (l : List Ch) (a : List Int) (y : Int), Inc a → a.length ≤ 400 → ∀ L ∈ versF a y l, Inc L ∧ L.length ≤ 400
  | [], a, y, h, h4, L, hL => by simp [versF] at hL; subst hL; exact ⟨h, h4⟩
  | x :: l, a, y, h, h4, L, hL => by
    unfold versF at hL
    split at hL
    · rename_i hx
      rcases List.mem_cons.1 hL with rfl | hL
      · exact ⟨h, h4⟩
      · refine versF_ok l _ _ (rep_inc h hx.2.2.1.2.2.1 hx.2.2.2.1.2.2.1 fun z hz hza => Classical.byContradiction fun hn => hx.2.2.2.2.2.1 z ((mem_wo hx.2.2.2.1.2.2.1 hx.2.2.1.2.2.1 z).2 ⟨hz, hn⟩) hza) hx.2.2.2.2.2.2 L hL
    · simp at hL; subst hL; exact ⟨h, h4⟩
theorem vers_ok {b : Bk} : ∀ L ∈ vers b, Inc L ∧ L.length ≤ 400 := fun L hL => by
  unfold vers at hL
  split at hL
  · rename_i h; exact versF_ok _ _ _ h.2.2.1 h.2.1 L hL
  · simp at hL
theorem openE_zero {b : Bk} {V : List Int} {n : Int} (h : openE b (V ++ [n]) = 0) : 0 ≤ n ∧ n < (vers b).length := by
  unfold openE at h
  split at h
  · split at h
    · rename_i h2; exact h2 n (by simp)
    · cases h
  · cases h
def OaR (W0 : World) (b : Bk) (vc : Value) (ea : Int) (e : Ending) (w' : World) : Prop := ∃ u, e = .returned (.tuple #[u, .int .i64 ea]) ∧ (ea = 0 → HsV w' u b vc) ∧ (ea ≠ 0 → u = nilH) ∧ Below W0.heap.size W0 w'
theorem OaR.bad {W0 w' : World} {b : Bk} {vc : Value} {ea : Int} (h : ea ≠ 0) (hb : Below W0.heap.size W0 w') : OaR W0 b vc ea (.returned (.tuple #[.agg #[.slice none 0 0, .slice none 0 0], .int .i64 ea])) w' := ⟨_, rfl, fun e => absurd e h, fun _ => rfl, hb⟩
theorem OaR.good {W0 w' : World} {b : Bk} {vc u : Value} (h : HsV w' u b vc) (hb : Below W0.heap.size W0 w') : OaR W0 b vc 0 (.returned (.tuple #[u, .int .i64 0])) w' := ⟨u, rfl, fun _ => h, fun e => absurd rfl e, hb⟩
/-- when all is done -/
theorem OaG.all {W0 w : World} {v1 vc t : Value} {n x : Int} {V : List Int} {b : Bk} {er : Int} {dn : Nat → Bool} {a : Act} {X : World} (h : OaG W0 w v1 vc t n x V b er dn a X) (hd : ∀ j, j < 12 → dn j = true) : OaG W0 w v1 vc t n x V b er (fun _ => true) a X :=
  ⟨h.sz, h.t1, h.t2, h.t3, h.t4, h.t8, h.t9, h.ds, h.bel, h.box, h.res, fun _ => h.e0 (hd 0 (by omega)), fun _ => h.e1 (hd 1 (by omega)), fun _ => h.e2 (hd 2 (by omega)), (fun _ e => nomatch e), (fun e => nomatch e), (fun _ e => nomatch e), fun _ => h.e5 (hd 5 (by omega)), fun _ => h.e6 (hd 6 (by omega)), fun _ => h.e7 (hd 7 (by omega)), fun _ => h.e8 (hd 8 (by omega)), (fun _ e => nomatch e), fun _ => h.e10 (hd 10 (by omega)), fun _ => h.e11 (hd 11 (by omega)), fun _ => ⟨rfl, rfl⟩, fun _ => ⟨rfl, rfl⟩, fun _ => rfl, fun _ => rfl, fun _ => ⟨rfl, rfl⟩⟩
set_option maxRecDepth 100000 in
set_option maxHeartbeats 16000000 in
theorem openAt_any (W0 w : World) (v vc t : Value) (n x : Int) (V : List Int) (b : Bk) (hbk : BkV W0 v b vc) (hsm : Sm b) (hW : Below W0.heap.size W0 w) (ht : w.ownsRow W0.heap.size 3 1 t V.length (intsV V)) (hV : V.length ≤ 900) :
    Calls Tryz.prog 41 #[v, .int .i64 n, .int .i64 x, t] w (OaR W0 b vc (openAtE b V n x)) := by
  obtain ⟨v1, rfl, hb1, hb2⟩ := hbk
  have HBk := Lib.hid (show BkV W0 (.agg #[v1, vc]) b vc from ⟨v1, rfl, hb1, hb2⟩)
  have HVc := Lib.hid (show ∃ A n c, vc = .slice A n c from by obtain ⟨A, c, e⟩ := hb2.form; exact ⟨A, _, c, e⟩)
  have HSm := Lib.hid hsm
  have HT0 := Lib.hid (show ∀ g, t.ownBlock = some g → g < w.heap.size from fun g e => (ht.lt g e).2)
  have HO := Lib.hid ht
  have HW := Lib.hid hW
  obtain ⟨er, herr⟩ : ∃ er, openE b (V ++ [n]) = er := ⟨_, rfl⟩
  have HErr := Lib.hid herr
  obtain ⟨A1, c1, rfl, _⟩ := hb1.form
  obtain ⟨A2, c2, rfl⟩ := hb2.form
  have HAt := Lib.hid (show openAtE b V n x = if openE b (V ++ [n]) = 0 then (if x ∈ (vers b).getD n.toNat [] then 0 else 22) else openE b (V ++ [n]) from rfl)
  generalize openAtE b V n x = ea at *
  clear hb1 hb2 hsm ht hW herr
  have HW2 := Lib.hid (show Below W0.heap.size W0 ((w.alloc (.cells #[.slice A1 b.first.length c1, .slice A2 b.chs.length c2] 25)).alloc (.cells #[.slice none 0 0, .slice none 0 0] 55)) from (HW.out.alloc HW.out.size _).alloc (by have := HW.out.size; simp; omega) _)
  have HR0 := Lib.hid (And.intro ((Below.heap_alloc (w.alloc (.cells #[.slice A1 b.first.length c1, .slice A2 b.chs.length c2] 25)) (.cells #[.slice none 0 0, .slice none 0 0] 55) w.heap.size (by simp)).trans (World.alloc_heap_new w (.cells #[.slice A1 b.first.length c1, .slice A2 b.chs.length c2] 25))) (two_new w (.cells #[.slice A1 b.first.length c1, .slice A2 b.chs.length c2] 25) (.cells #[.slice none 0 0, .slice none 0 0] 55)))
  have HOw := Lib.hid ((HO.out.alloc (.cells #[.slice A1 b.first.length c1, .slice A2 b.chs.length c2] 25)).alloc (.cells #[.slice none 0 0, .slice none 0 0] 55))
  go_enter Tryz.func41, Tryz.ntmps41
  go_wp2_with fail
  refine wp_mono (Q := onlyN (fun a' Y => OaG W0 w (.slice A1 b.first.length c1) (.slice A2 b.chs.length c2) t n x V b er (fun _ => true) a' Y)) ?_ ?_
  · refine wp_region_done (OaG W0 w (.slice A1 b.first.length c1) (.slice A2 b.chs.length c2) t n x V b er) (by kernel_rfl) (by kernel_rfl) ?_ ?_ ?_
    · exact ⟨rfl, rfl, rfl, rfl, rfl, rfl, rfl, rfl, HW2.out.drew, HR0.out.1, HR0.out.2, (fun h => nomatch h), (fun h => nomatch h), (fun h => nomatch h), (fun h => nomatch h), (fun _ => HOw.out), (fun h => nomatch h), (fun h => nomatch h), (fun h => nomatch h), (fun h => nomatch h), (fun h => nomatch h), (fun h => nomatch h), (fun h => nomatch h), (fun h => nomatch h), (fun h => nomatch h), (fun h => nomatch h), (fun h => nomatch h), (fun h => nomatch h), (fun h => nomatch h)⟩
    · intro dn i o hi hd hD a Y hG
      obtain ⟨tm, ds⟩ := a
      obtain ⟨hsz, t1, t2, t3, t4, t8, t9, hds, bel, box, res, e0, e1, e2, e3, own, e4, e5, e6, e7, e8, e9, e10, e11, o4, o5, o6, o7, o10⟩ := hG
      obtain ⟨fn, rfl⟩ := arr36 hsz
      have HT := HT0.out
      have HV : V.length ≤ 1000000 := by omega
      have hi12 : i < 12 := by
        have := (Array.getElem?_eq_some_iff.1 hi).1
        simpa using this
      simp [Array.getD] at t1 t2 t3 t4 t8 t9
      rcases (show i = 0 ∨ i = 1 ∨ i = 2 ∨ i = 3 ∨ i = 4 ∨ i = 5 ∨ i = 6 ∨ i = 7 ∨ i = 8 ∨ i = 9 ∨ i = 10 ∨ i = 11 by omega) with rfl | rfl | rfl | rfl | rfl | rfl | rfl | rfl | rfl | rfl | rfl | rfl
      · obtain rfl := Option.some.inj hi
        obtain ⟨q0, q1⟩ := cells_two box
        refine wpOp_bare hi rfl ?_
        go_simp
        exact ⟨rfl, rfl, rfl, rfl, rfl, rfl, rfl, hds, bel, box, res, (fun _ => rfl), e1, e2, e3, own, e4, e5, e6, e7, e8, e9, e10, e11, o4, (fun h => ⟨rfl, (o5 h).2⟩), o6, o7, o10⟩
      · obtain rfl := Option.some.inj hi
        refine wpOp_bare hi rfl ?_
        go_simp
        exact ⟨rfl, rfl, rfl, rfl, rfl, rfl, rfl, hds, bel, box, res, e0, (fun _ => rfl), e2, e3, own, e4, e5, e6, e7, e8, e9, e10, e11, (fun h => ⟨rfl, (o4 h).2⟩), o5, o6, o7, o10⟩
      · obtain rfl := Option.some.inj hi
        refine wpOp_bare hi rfl ?_
        go_simp
        exact ⟨rfl, rfl, rfl, rfl, rfl, rfl, rfl, hds, bel, box, res, e0, e1, (fun _ => rfl), e3, own, e4, e5, e6, e7, e8, e9, e10, e11, o4, o5, o6, o7, o10⟩
      · obtain rfl := Option.some.inj hi
        have d2 := e2 (hD ⟨2, .data⟩ (by simp) rfl)
        simp [Array.getD] at d2
        have HB := below_new (w := Y) (.cells #[.int .i64 n] 3)
        refine wpOp_bare hi rfl ?_
        go_simp
        exact ⟨rfl, rfl, rfl, rfl, rfl, rfl, rfl, hds, bel.trans (HB.mono bel.size), (HB.block _ (Array.getElem?_eq_some_iff.1 box).1).trans box, (HB.block _ (Array.getElem?_eq_some_iff.1 res).1).trans res, e0, e1, (fun _ => rfl), (fun _ _ => ⟨_, rfl, World.alloc_heap_new Y _⟩), (fun h => own_step (own h) HB), (fun h1 h2 => (e4 h1 h2).step HB), (fun h => by obtain ⟨u, h1, h2⟩ := e5 h; exact ⟨u, h1, h2.step HB⟩), e6, e7, e8, (fun h1 h2 => by obtain ⟨g, h3, h4, h5⟩ := e9 h1 h2; exact ⟨g, h3, (HB.block _ (Array.getElem?_eq_some_iff.1 h4).1).trans h4, h5⟩), (fun h => by obtain ⟨g, p, q, h3, h3b, h4, h5⟩ := e10 h; exact ⟨g, p, q, h3, h3b, (HB.block _ (Array.getElem?_eq_some_iff.1 h4).1).trans h4, h5⟩), e11, (fun h => ⟨(o4 h).1, rfl⟩), o5, o6, o7, o10⟩
      · obtain rfl := Option.some.inj hi
        have d1 := e1 (hD ⟨1, .data⟩ (by simp) rfl)
        simp [Array.getD] at d1
        obtain ⟨g3, d3, hb3⟩ := e3 (hD ⟨3, .data⟩ (by simp) rfl) hd
        simp [Array.getD] at d3
        have hO := own hd
        refine wpOp_bare hi rfl ?_
        refine run_append_int (.tmp 14) (.tmp 16) rfl W0.heap.size t V n d1 hO g3 d3 hb3 HV bel.size ?_
        intro v' w' ho hg hob
        exact ⟨rfl, t1, t2, t3, t4, t8, t9, hds, bel.grown hg bel.size (fun r e => (hO.lt r e).1), (hg.block _ (Array.getElem?_eq_some_iff.1 box).1 (fun e => by have := HT _ e.symm; omega)).trans box, (hg.block _ (Array.getElem?_eq_some_iff.1 res).1 (fun e => by have := HT _ e.symm; omega)).trans res, e0, e1, e2, (fun _ h => nomatch h), (fun h => nomatch h), (fun _ _ => (show OwN W0 v' (V ++ [n]) w' from ⟨bel.grown hg bel.size (fun r e => (hO.lt r e).1), ho⟩).sl), (fun h => absurd (hd.symm.trans (o5 h).2) (by decide)), e6, e7, e8, (fun h1 h2 => by obtain ⟨g, h3, h4, h5⟩ := e9 h1 h2; exact ⟨g, h3, (hg.block _ (Array.getElem?_eq_some_iff.1 h4).1 (fun e => by have := HT _ e.symm; omega)).trans h4, h5⟩), (fun h => absurd (hd.symm.trans (o5 (o10 h).1).2) (by decide)), e11, (fun _ => ⟨hD ⟨1, .data⟩ (by simp) rfl, hD ⟨3, .data⟩ (by simp) rfl⟩), (fun h => ⟨(o5 h).1, rfl⟩), o6, o7, o10⟩
      · obtain rfl := Option.some.inj hi
        have d0 := e0 (hD ⟨0, .data⟩ (by simp) rfl)
        simp [Array.getD] at d0
        have y4 := hD ⟨4, .data⟩ (by simp) rfl
        have d4 := e4 y4 hd
        obtain ⟨vv, ev⟩ : ∃ vv, fn 17 = vv := ⟨_, rfl⟩
        have d4' : InSl Y Y.heap.size vv (V ++ [n]) := by rw [← ev]; exact d4
        have hC := Lib.hid (open_any _ _ vv b (V ++ [n]) Y (HBk.out.step' bel) HSm.out d4' (by rw [List.length_append]; simp; omega))
        have HB4 := Lib.hid d4'
        clear d4 d4'
        refine wpOp_bare hi rfl ?_
        go_simp
        (try simp only [ev])
        refine hC.out.mono ?_
        rintro e Y' hop
        rw [HErr.out] at hop
        obtain ⟨u, rfl, hu, HB⟩ := HsW.of_op hop HVc.out
        exact ⟨rfl, rfl, rfl, rfl, rfl, rfl, rfl, hds, bel.trans (HB.mono bel.size), (HB.block _ (Array.getElem?_eq_some_iff.1 box).1).trans box, (HB.block _ (Array.getElem?_eq_some_iff.1 res).1).trans res, (fun _ => rfl), e1, e2, (fun h1 h2 => by obtain ⟨g, h3, h4⟩ := e3 h1 h2; exact ⟨g, h3, (HB.block _ (Array.getElem?_eq_some_iff.1 h4).1).trans h4⟩), (fun h => own_step (own h) HB), (fun _ h => nomatch h), (fun _ => ⟨_, rfl, hu⟩), (fun h => absurd (hd.symm.trans (o6 h)) (by decide)), (fun h => absurd (hd.symm.trans (o6 (o7 h))) (by decide)), e8, (fun h1 h2 => by obtain ⟨g, h3, h4, h5⟩ := e9 h1 h2; exact ⟨g, h3, (HB.block _ (Array.getElem?_eq_some_iff.1 h4).1).trans h4, h5⟩), (fun h => absurd (hd.symm.trans (o10 h).1) (by decide)), e11, o4, (fun _ => ⟨hD ⟨0, .data⟩ (by simp) rfl, y4⟩), (fun _ => rfl), o7, (fun h => ⟨rfl, (o10 h).2⟩)⟩
      · obtain rfl := Option.some.inj hi
        have y5 := hD ⟨5, .data⟩ (by simp) rfl
        obtain ⟨u, d5, hu⟩ := e5 y5
        simp [Array.getD] at d5
        refine wpOp_bare hi rfl ?_
        go_simp
        exact ⟨rfl, rfl, rfl, rfl, rfl, rfl, rfl, hds, bel, box, res, e0, e1, e2, e3, own, e4, (fun _ => ⟨u, rfl, hu⟩), (fun _ => rfl), (fun h => (e7 h).trans (congrArg fst1 d5)), e8, e9, (fun h => by obtain ⟨g, p, q, h1, h2, h3, h4⟩ := e10 h; exact ⟨g, p, q, h1, d5.symm.trans h2, h3, h4⟩), e11, o4, o5, (fun _ => y5), (fun h => rfl), o10⟩
      · obtain rfl := Option.some.inj hi
        have y6 := hD ⟨6, .data⟩ (by simp) rfl
        obtain ⟨u, d5, hu⟩ := e5 (o6 y6)
        have d6 := e6 y6
        simp [Array.getD] at d5 d6
        rw [d5] at d6
        refine wpOp_bare hi rfl ?_
        go_simp
        exact ⟨rfl, rfl, rfl, rfl, rfl, rfl, rfl, hds, bel, box, res, e0, e1, e2, e3, own, e4, (fun _ => ⟨u, rfl, hu⟩), (fun _ => rfl), (fun _ => rfl), e8, e9, (fun h => by obtain ⟨g, p, q, h1, h2, h3, h4⟩ := e10 h; exact ⟨g, p, q, h1, d5.symm.trans h2, h3, h4⟩), e11, o4, o5, o6, (fun _ => y6), o10⟩
      · obtain rfl := Option.some.inj hi
        have y6 := hD ⟨6, .data⟩ (by simp) rfl
        obtain ⟨u, d5, hu⟩ := e5 (o6 y6)
        have d6 := e6 y6
        simp [Array.getD] at d5 d6
        rw [d5] at d6
        refine wpOp_bare hi rfl ?_
        go_simp
        exact ⟨rfl, rfl, rfl, rfl, rfl, rfl, rfl, hds, bel, box, res, e0, e1, e2, e3, own, e4, (fun _ => ⟨u, rfl, hu⟩), (fun _ => rfl), (fun h => (e7 h).trans (congrArg fst1 d5)), (fun _ => rfl), e9, (fun h => by obtain ⟨g, p, q, h1, h2, h3, h4⟩ := e10 h; exact ⟨g, p, q, h1, d5.symm.trans h2, h3, h4⟩), e11, o4, o5, o6, o7, o10⟩
      · obtain rfl := Option.some.inj hi
        have HB := below_new (w := Y) (.cells #[.slice none 0 0, .slice none 0 0] 55)
        refine wpOp_bare hi rfl ?_
        go_simp
        exact ⟨rfl, rfl, rfl, rfl, rfl, rfl, rfl, hds, bel.trans (HB.mono bel.size), (HB.block _ (Array.getElem?_eq_some_iff.1 box).1).trans box, (HB.block _ (Array.getElem?_eq_some_iff.1 res).1).trans res, e0, e1, e2, (fun h1 h2 => by obtain ⟨g, h3, h4⟩ := e3 h1 h2; exact ⟨g, h3, (HB.block _ (Array.getElem?_eq_some_iff.1 h4).1).trans h4⟩), (fun h => own_step (own h) HB), (fun h1 h2 => (e4 h1 h2).step HB), (fun h => by obtain ⟨u, h1, h2⟩ := e5 h; exact ⟨u, h1, h2.step HB⟩), e6, e7, e8, (fun _ _ => ⟨_, rfl, World.alloc_heap_new Y _, (Array.getElem?_eq_some_iff.1 res).1⟩), (fun h => absurd (hd.symm.trans (o10 h).2) (by decide)), e11, o4, o5, o6, o7, (fun h => ⟨(o10 h).1, rfl⟩)⟩
      · obtain rfl := Option.some.inj hi
        have y5 := hD ⟨5, .chain⟩ (by simp) rfl
        have y7 := hD ⟨7, .data⟩ (by simp) rfl
        have y9 := hD ⟨9, .data⟩ (by simp) rfl
        have y4 := (o5 y5).2
        obtain ⟨u, d5, hu⟩ := e5 y5
        have d7 := e7 y7
        simp [Array.getD] at d5 d7
        obtain ⟨g9, d9, h94, h95⟩ := e9 y9 hd
        simp [Array.getD] at d9
        have hu' := hu
        obtain ⟨Ap, np, cp, Aq, nq, cq, rfl, hu0, hu1⟩ := hu
        rw [d5] at d7
        simp only [fst1] at d7
        obtain ⟨c90, c91⟩ := cells_two h94
        have f90 := frozen_cells h94 0
        have f91 := frozen_cells h94 1
        have hnb : ∀ k, k ≠ g9 → ((Y.setCell ⟨g9, 0, none⟩ (.slice Ap np cp)).setCell ⟨g9, 1, none⟩ (.slice Aq nq cq)).heap[k]? = Y.heap[k]? := fun k hk => by
          rw [heap_setCell_other _ _ _ _ hk, heap_setCell_other _ _ _ _ hk]
        have hst : ((Y.setCell ⟨g9, 0, none⟩ (.slice Ap np cp)).setCell ⟨g9, 1, none⟩ (.slice Aq nq cq)).heap[g9]? = some (.cells #[.slice Ap np cp, .slice Aq nq cq] 55) := by
          rw [heap_setCell_same _ g9 1 #[.slice Ap np cp, .slice none 0 0] _ _ (by rw [heap_setCell_same Y g9 0 _ _ _ h94]; rfl)]; rfl
        refine wpOp_bare hi rfl ?_
        go_simp
        exact ⟨rfl, rfl, rfl, rfl, rfl, rfl, rfl, hds, (bel.setCell (by show W0.heap.size ≤ g9; have := bel.size; have := HW.out.size; omega) _).setCell (by show W0.heap.size ≤ g9; have := HW.out.size; omega) _, (hnb _ (by omega)).trans box, (hnb _ (by omega)).trans res, e0, e1, e2, (fun _ h => absurd (y4.symm.trans h) (by decide)), (fun h => absurd (y4.symm.trans h) (by decide)), (fun _ h => absurd (y5.symm.trans h) (by decide)), (fun _ => ⟨_, rfl, HsW.store hu' c90 c91 _ _⟩), (fun h => (e6 h).trans d5), (fun _ => rfl), e8, (fun _ h => nomatch h), (fun _ => ⟨g9, _, _, rfl, rfl, hst, h95⟩), e11, o4, o5, o6, o7, (fun _ => ⟨y5, y9⟩)⟩
      · obtain rfl := Option.some.inj hi
        have d8 := e8 (hD ⟨8, .data⟩ (by simp) rfl)
        simp [Array.getD] at d8
        refine wpOp_bare hi rfl ?_
        go_simp
        exact ⟨rfl, rfl, rfl, rfl, rfl, rfl, rfl, hds, bel, box, res, e0, e1, e2, e3, own, e4, e5, e6, e7, (fun _ => rfl), e9, e10, (fun _ => rfl), o4, o5, o6, o7, o10⟩
    · intro dn a Y hdn hG
      have he : ∀ j, j < 12 → dn j = true := fun j hj => hdn j (by simpa using hj)
      exact hG.all he
  · rintro e ⟨tm, ds⟩ Y h
    cases e with
    | normal =>
      obtain ⟨hsz, t1, t2, t3, t4, t8, t9, hds, bel, box, res, e0, e1, e2, e3, own, e4, e5, e6, e7, e8, e9, e10, e11, o4, o5, o6, o7, o10⟩ := h
      obtain ⟨fn, rfl⟩ := arr36 hsz
      obtain ⟨u, d5, hu⟩ := e5 rfl
      obtain ⟨g9, p, q, d9, d5', hg9, h95⟩ := e10 rfl
      have d11 := e11 rfl
      have t1' : fn 1 = .int .i64 n := t1
      have t2' : fn 2 = .int .i64 x := t2
      have t8' : fn 8 = .pointer (some ⟨w.heap.size + 1, 0, none⟩) := t8
      have t9' : fn 9 = .int .i64 0 := t9
      have d9' : fn 10 = .pointer (some ⟨g9, 0, none⟩) := d9
      have d11' : fn 11 = .int .i64 er := d11
      have hds' : ds = [] := hds
      subst hds'
      have eu : u = .agg #[p, q] := by
        have := d5.symm.trans d5'
        simp only [Value.tuple.injEq, Array.mk.injEq, List.cons.injEq, and_true] at this
        exact this
      subst eu
      obtain ⟨Ap, np, cp, Aq, nq, cq, epq, hu0, hu1⟩ := hu
      simp only [Value.agg.injEq, Array.mk.injEq, List.cons.injEq, and_true] at epq
      obtain ⟨rfl, rfl⟩ := epq
      have HY := Lib.hid (And.intro bel (And.intro hu0 hu1))
      obtain ⟨k0, k1⟩ := cells_two hg9
      obtain ⟨r0, r1⟩ := cells_two res
      have f0 := frozen_cells res 0
      have f1 := frozen_cells res 1
      rw [t1', t2', t8', t9', d9', d11']
      clear t1 t2 t3 t4 t8 t9 hds box e0 e1 e2 e3 own e4 e5 e6 e7 e8 e9 e10 e11 o4 o5 o6 o7 o10 d5 d5' d9 d11 bel hu0 hu1 t1' t2' t8' t9' d9' d11'
      simp only [Exit.then]
      by_cases her : er = 0
      · subst her
        obtain ⟨hcq, hvs⟩ := HY.out.2.1 rfl
        obtain ⟨hn0, hn1⟩ := openE_zero HErr.out
        obtain ⟨k, rfl⟩ : ∃ k : Nat, n = (k : Int) := ⟨n.toNat, by omega⟩
        obtain ⟨Av, cv, ev⟩ := hvs.form
        injection ev with ev1 ev2 ev3
        subst ev1; subst ev2; subst ev3
        injection hcq with hc1 hc2 hc3
        subst hc1; subst hc2; subst hc3
        have hkl : k < (vers b).length := by omega
        obtain ⟨ad, uk, L, hAp, hadb, hL, hck, hinL⟩ := hvs.at_ hkl
        obtain ⟨hLi, hLl⟩ := vers_ok L (List.mem_of_getElem? hL)
        subst hAp
        obtain ⟨Ak, ck, rfl, _⟩ := hinL.form
        have HHas := Lib.hid (has_any _ L x Y hinL hLi (by omega))
        have HFin := Lib.hid (HsV.fin2 (G := w.heap.size + 1) ⟨_, rfl, hvs, HBk.out.chs.step HY.out.1⟩ HY.out.1 (by have := HW.out.size; omega) HBk.out.chs r0 r1)
        have HAt2 := Lib.hid (show ea = if x ∈ L then 0 else 22 from by
          rw [HAt.out, if_pos HErr.out, Int.toNat_natCast, List.getD_eq_getElem?_getD, hL]; rfl)
        have HWs := Lib.hid HW.out.size
        clear hvs hinL hLi hLl hL hadb HAt HErr
        generalize hvl : (vers b).length = vl at *
        clear hvl
        by_cases hx : x ∈ L
        · rw [decide_eq_true hx] at HHas
          have HE := Lib.hid (show ea = 0 from by rw [HAt2.out, if_pos hx])
          obtain rfl := HE.out
          clear hx HAt2
          go_wp2_with fail
          refine HHas.out.mono ?_
          rintro e w1 ⟨rfl, rfl⟩
          go_wp2_with fail
          exact bodyPost_ret (v := .tuple #[.agg #[.slice (some ad) vl cp, .slice Aq b.chs.length cq], .int .i64 0]) (by simp [results, Tryz.results41, go_sem, r0, r1]) rfl (OaR.good HFin.out.1 HFin.out.2)
        · rw [decide_eq_false hx] at HHas
          have HE := Lib.hid (show ea = 22 from by rw [HAt2.out, if_neg hx])
          obtain rfl := HE.out
          clear hx HAt2
          go_wp2_with fail
          refine HHas.out.mono ?_
          rintro e w1 ⟨rfl, rfl⟩
          go_wp2_with fail
          exact bodyPost_ret (v := .tuple #[.agg #[.slice none 0 0, .slice none 0 0], .int .i64 22]) (by simp [results, Tryz.results41, go_sem, r0, r1]) rfl (OaR.bad (by decide) ((HY.out.1.setCell (by show _ ≤ w.heap.size + 1; have := HWs.out; omega) _).setCell (by show _ ≤ w.heap.size + 1; have := HWs.out; omega) _))
      · have eu2 := HY.out.2.2 her
        simp only [nilH, Value.agg.injEq, Array.mk.injEq, List.cons.injEq, and_true, Value.slice.injEq] at eu2
        obtain ⟨⟨rfl, rfl, rfl⟩, rfl, rfl, rfl⟩ := eu2
        have HE := Lib.hid (show ea = er from by rw [HAt.out, HErr.out, if_neg her])
        obtain rfl := HE.out
        have HNe := Lib.hid her
        have HWs := Lib.hid HW.out.size
        clear HAt HErr her
        go_wp2_with fail
        exact bodyPost_ret (v := .tuple #[.agg #[.slice none 0 0, .slice none 0 0], .int .i64 ea]) (by simp [results, Tryz.results41, go_sem, r0, r1]) rfl (OaR.bad HNe.out ((HY.out.1.setCell (by show _ ≤ w.heap.size + 1; have := HWs.out; omega) _).setCell (by show _ ≤ w.heap.size + 1; have := HWs.out; omega) _))
    | _ => exact h.elim
end Go.Proofs.YtplpogonkfnafaaGreat
