
/- normalOf. -/
import Derived.Test.YtabolonlkocopaaGreatDoorJoin
namespace Go.Proofs.YtabolonlkocopaaGreatDoor
open Go.RowKit Go.Plc Go.Shelf

theorem join_walk (C : List Sq) (i : Nat) : (walkTo (fun pre => pre.foldl joinStep C) i).foldl joinStep C = (List.range i).foldl (fun C i => (rowS C i).foldl joinStep C) C := by
  induction i with
  | zero => rfl
  | succ i ih => rw [List.range_succ, List.foldl_append, ← ih]; simp [walkTo]
theorem join_any (b : Nat → Nat) (C : List Sq) (w : World) (h : Cov w b C) (hlen : C.length ≤ 1000000) :
    Calls Tryz.prog 86 #[.agg (covA b)] w fun e w' => e = .returned (.tuple #[]) ∧ Cov w' b (joinS C) ∧ CBut b w w' := by
  have h := (callsIn_wide (n := 6)).1 (join_in 6 (Nat.le_refl _) b C w h hlen)
  rw [join_walk] at h
  exact h
/-- a square that lies in another one of the cover goes -/
def thinStep (C : List Sq) (s : Sq) : List Sq := if hasAroundS C s then dropS C s else C
theorem thin_len (L : List Sq) : ∀ C : List Sq, (L.foldl thinStep C).length ≤ C.length := by
  induction L with
  | nil => intro C; exact Nat.le_refl _
  | cons s r ih => intro C; refine Nat.le_trans (ih _) ?_; unfold thinStep; split <;> simp [drop_len_le]
theorem normal_eq (L : List Sq) : normalS L = joinS (L.foldl thinStep (L.foldl addS [])) := rfl

structure NormI (w : World) (g : Nat) (b : Nat → Nat) (C : List Sq) (X : World) : Prop where
  cov : Cov X b C
  res : X.heap[w.heap.size]? = some (.cells nilCov 54)
  box : X.heap[g]? = some (.cells (covA b) 54)
  bel : Below w.heap.size w X
theorem NormI.step {w : World} {g : Nat} {b : Nat → Nat} {C C' : List Sq} {X Y : World} (h : NormI w g b C X) (hb : ∀ i, i < 11 → w.heap.size + 1 ≤ b i ∧ b i < g) (hc : Cov Y b C') (h2 : CBut b X Y) : NormI w g b C' Y :=
  ⟨hc, h2.heap h.res (fun i hi e => by have := hb i hi; omega), h2.heap h.box (fun i hi e => by have := hb i hi; omega), h.bel.trans (h2.below h.bel.size (fun i hi => by have := hb i hi; omega))⟩

set_option maxHeartbeats 1000000 in
theorem normalOf_any (v : Value) (L : List Sq) (w : World) (hv : SqSl w w.heap.size v L) (hok : ∀ s ∈ L, s.okB = true) (hn : L.length ≤ 1000000) :
    Calls Tryz.prog 39 #[v] w fun e w' => ∃ b, e = .returned (.agg (covA b)) ∧ (∀ i, i < 11 → w.heap.size ≤ b i) ∧ Cov w' b (normalS L) ∧ Below w.heap.size w w' := by
  obtain ⟨A, c, rfl, hA⟩ := hv
  have HA := Lib.hid hA
  have HO := Lib.hid hok
  have HCo := Lib.hid (coverOf_any (.slice A L.length c) L (w.alloc (.cells nilCov 54)) ⟨A, c, rfl, (hA.below (below_new _)).mono (by simp)⟩ hok hn)
  have HLn := Lib.hid (show ∀ L' : List Sq, (L'.foldl thinStep (L.foldl addS [])).length ≤ 1000000 from fun L' => Nat.le_trans (thin_len _ _) (Nat.le_trans (ofList_len L []) (by simpa using hn)))
  clear hok hA
  have HN := Lib.hid (normal_eq L)
  generalize hL : L.length = n at *
  have HL := Lib.hid hL
  clear hL
  unfold nilCov at HCo
  go_enter Tryz.func39, Tryz.ntmps39
  go_wp2_with fail
  refine HCo.out.mono ?_
  rintro e w1 ⟨b, rfl, hbge, hcov, hbel⟩
  have hw1 : w.heap.size + 1 ≤ w1.heap.size := by have := hbel.size; simpa using this
  have H0 := Lib.hid (show NormI w w1.heap.size b (L.foldl addS []) (w1.alloc (.cells (covA b) 54)) from
    ⟨hcov.below (below_new _), (Below.heap_alloc _ _ _ (by omega)).trans ((hbel.block _ (by simp)).trans (World.alloc_heap_new w _)), World.alloc_heap_new w1 _, ((below_new _).trans (hbel.mono (by simp))).trans ((below_new _).mono (by omega))⟩)
  have HB := Lib.hid (show ∀ i, i < 11 → w.heap.size + 1 ≤ b i ∧ b i < w1.heap.size from fun i hi => ⟨by have := hbge i hi; simpa using this, (hcov.row i hi).lt⟩)
  clear hbge hcov hbel
  unfold covA
  go_wp2_with fail
  change Code.wp _ _ _ _ (w1.alloc (.cells (covA b) 54))
  generalize w1.alloc (.cells (covA b) 54) = w0 at *
  generalize w1.heap.size = g at *
  clear HCo
  go_loopw [10] (fun k wr => ∃ i : Nat, k = .int .i64 (i : Int) ∧ i ≤ n ∧ NormI w g b ((L.take i).foldl thinStep (L.foldl addS [])) wr) (fun k _ => n - (intOf k).toNat)
  case atStart => exact ⟨0, rfl, Nat.zero_le _, H0.out⟩
  case round =>
    obtain ⟨i, rfl, hin, hR⟩ := hrel
    have HR := Lib.hid hR
    obtain ⟨q0, q1, q2, q3, q4, q5, q6, q7, q8, q9, q10⟩ := cov_cells hR.box
    have hsz1 : g < wr.heap.size := (Array.getElem?_eq_some_iff.1 hR.box).1
    have hsz0 : w.heap.size < wr.heap.size := (Array.getElem?_eq_some_iff.1 hR.res).1
    clear hR
    have HRL := Lib.hid (HLn.out (L.take i))
    by_cases hlt : i < n
    · obtain ⟨s, ad, hs, hm, rfl, hb, h1, h2, h3⟩ := (HA.out.below HR.out.bel).at_ HL.out hlt
      have HOs := Lib.hid (HO.out s hm)
      have HT := Lib.hid (fold_take thinStep (L.foldl addS []) L i s hs)
      clear hs hm
      generalize (L.take i).foldl thinStep (L.foldl addS []) = D at *
      have HX := Lib.hid (hasAround_any b s D (wr.alloc (.cells #[.int .i64 s.l, .int .i64 s.x, .int .i64 s.y] 31)) (HR.out.cov.below (below_new _)) HOs.out)
      cases hh : hasAroundS D s
      · rw [hh] at HX
        have HT2 := Lib.hid (show (L.take (i + 1)).foldl thinStep (L.foldl addS []) = D by rw [HT.out]; unfold thinStep; rw [hh]; rfl)
        clear hh
        go_wp2_with fail
        refine HX.out.mono ?_
        rintro e w2 ⟨rfl, hb2⟩
        have H2 := Lib.hid (HR.out.step HB.out (C' := (L.take (i + 1)).foldl thinStep (L.foldl addS [])) (by rw [HT2.out]; exact (HR.out.cov.below (below_new _)).below hb2) ((CBut.of_below (below_new _)).trans (CBut.of_below hb2)))
        clear hb2
        go_wp2_with fail
        go_roundw
        case rel => exact ⟨i + 1, by go_num, by omega, H2.out⟩
        case measure => simp [intOf]; omega
      · rw [hh] at HX
        have HT2 := Lib.hid (show (L.take (i + 1)).foldl thinStep (L.foldl addS []) = dropS D s by rw [HT.out]; unfold thinStep; rw [hh]; rfl)
        clear hh
        go_wp2_with fail
        refine HX.out.mono ?_
        rintro e w2 ⟨rfl, hb2⟩
        have hzz : (wr.alloc (.cells #[.int .i64 s.l, .int .i64 s.x, .int .i64 s.y] 31)).heap.size = wr.heap.size + 1 := by simp
        have hs2 : wr.heap.size + 1 ≤ w2.heap.size := by have := hb2.size; omega
        obtain ⟨q0, q1, q2, q3, q4, q5, q6, q7, q8, q9, q10⟩ := cov_cells ((hb2.block g (by omega)).trans ((Below.heap_alloc wr (.cells #[.int .i64 s.l, .int .i64 s.x, .int .i64 s.y] 31) g hsz1).trans HR.out.box))
        obtain ⟨s0, s1, s2⟩ := sq_cells ((hb2.block wr.heap.size (by omega)).trans (World.alloc_heap_new wr _))
        have H1 := Lib.hid (show Cov w2 b D ∧ CBut b wr w2 from ⟨(HR.out.cov.below (below_new _)).below hb2, (CBut.of_below (below_new _)).trans (CBut.of_below hb2)⟩)
        clear hb2
        go_wp2_with fail
        refine (drop_cov b s D w2 H1.out.1 HOs.out).mono ?_
        rintro e w3 ⟨rfl, hc3, hb3⟩
        have H2 := Lib.hid (HR.out.step HB.out (C' := (L.take (i + 1)).foldl thinStep (L.foldl addS [])) (by rw [HT2.out]; exact hc3) (H1.out.2.trans hb3))
        clear hb3 hc3
        go_wp2_with fail
        go_roundw
        case rel => exact ⟨i + 1, by go_num, by omega, H2.out⟩
        case measure => simp [intOf]; omega
    · go_wp2_with fail
      refine (join_any b _ wr HR.out.cov HRL.out).mono ?_
      rintro e w2 ⟨rfl, hc2, hb2⟩
      have hi : L.take i = L := List.take_of_length_le (by have := HL.out; omega)
      rw [hi] at hc2
      have H2 := Lib.hid (HR.out.step HB.out (HN.out ▸ hc2) hb2)
      clear hc2 hb2
      obtain ⟨q0, q1, q2, q3, q4, q5, q6, q7, q8, q9, q10⟩ := cov_cells H2.out.box
      obtain ⟨r0, r1, r2, r3, r4, r5, r6, r7, r8, r9, r10⟩ := nil_cells H2.out.res
      have hfz := frozen_row H2.out.res
      have hsz2 : w.heap.size < w2.heap.size := (Array.getElem?_eq_some_iff.1 H2.out.res).1
      go_wp2_with fail
      refine bodyPost_ret (v := .agg (covA b)) (by unfold covA; simp [results, Tryz.results39, go_sem, r0, r1, r2, r3, r4, r5, r6, r7, r8, r9, r10]) rfl ⟨b, rfl, fun j hj => by have := HB.out j hj; omega, ?_, ?_⟩
      · have hne : ∀ j, j < 11 → b j ≠ w.heap.size := fun j hj => by have := HB.out j hj; omega
        have hc0 := H2.out.cov
        iterate 11 (refine Cov.setCell ?_ hne _)
        exact hc0
      · have hb0 := H2.out.bel
        iterate 11 (refine Below.setCell (p := ⟨w.heap.size, _, none⟩) ?_ (Nat.le_refl w.heap.size) _)
        exact hb0
end Go.Proofs.YtabolonlkocopaaGreatDoor


/- around: the squares in which others lie. -/
namespace Go.Proofs.YtabolonlkocopaaGreatDoor
open Go.RowKit Go.Plc Go.Shelf
attribute [local go_sem] Oper.semAt_some

def aroS (O : List Sq) (s : Sq) : List Sq := aroundStep (s.l + 1).toNat s (10 - s.l).toNat O
theorem around_eq (C : List Sq) : aroundS C = (regionS C).foldl aroS [] := rfl

theorem aroundStep_len (s : Sq) : ∀ (k i : Nat) (O : List Sq), (aroundStep i s k O).length ≤ O.length + k
  | 0, i, O => by simp [aroundStep]
  | k + 1, i, O => by
    unfold aroundStep
    split
    · omega
    · have := aroundStep_len s k (i + 1) (addS O (blurS s i)); have := addS_len O (blurS s (i : Int)); omega
theorem aroS_len (O : List Sq) (s : Sq) (h : 0 ≤ s.l) : (aroS O s).length ≤ O.length + 10 := by
  have := aroundStep_len s (10 - s.l).toNat (s.l + 1).toNat O
  unfold aroS; omega
/-- all that around has laid -/
structure AroS (w : World) (g : Nat) (b b' : Nat → Nat) (C O : List Sq) (X : World) : Prop where
  cov : Cov X b C
  covO : Cov X b' O
  box : X.heap[w.heap.size]? = some (.cells (covA b) 54)
  res : X.heap[w.heap.size + 1]? = some (.cells nilCov 54)
  boxO : X.heap[g]? = some (.cells (covA b') 54)
  box2 : X.heap[g + 1]? = some (.cells (covA b) 54)
  bel : Below w.heap.size w X
structure AroB (w : World) (g : Nat) (b b' : Nat → Nat) : Prop where
  b : ∀ i, i < 11 → b i < w.heap.size
  b' : ∀ i, i < 11 → w.heap.size + 2 ≤ b' i ∧ b' i < g
theorem AroS.grown {w : World} {g : Nat} {b b' : Nat → Nat} {C O : List Sq} {X Y : World} {row : Option Nat} (h : AroS w g b b' C O X) (hb : AroB w g b b') (hg : X.grownBy Y row) (hr : ∀ r, row = some r → g + 2 ≤ r) : AroS w g b b' C O Y := by
  have hw := h.bel.size
  have h2 := (h.covO.row 0 (by omega)).lt
  have hgw : w.heap.size + 2 ≤ g := by have := hb.b' 0 (by omega); omega
  have hne : ∀ k, k < g + 2 → some k ≠ row := fun k hk e => by have := hr k e.symm; omega
  exact ⟨h.cov.grownB (B := w.heap.size) hb.b hg (fun r e => by have := hr r e; omega), h.covO.grownB (B := g) (fun i hi => (hb.b' i hi).2) hg (fun r e => by have := hr r e; omega),
    (hg.block _ (Array.getElem?_eq_some_iff.1 h.box).1 (hne _ (by omega))).trans h.box, (hg.block _ (Array.getElem?_eq_some_iff.1 h.res).1 (hne _ (by omega))).trans h.res,
    (hg.block _ (Array.getElem?_eq_some_iff.1 h.boxO).1 (hne _ (by omega))).trans h.boxO, (hg.block _ (Array.getElem?_eq_some_iff.1 h.box2).1 (hne _ (by omega))).trans h.box2, h.bel.grown hg hw (fun r e => by have := hr r e; omega)⟩
theorem AroS.step {w : World} {g : Nat} {b b' : Nat → Nat} {C O O' : List Sq} {X Y : World} (h : AroS w g b b' C O X) (hb : AroB w g b b') (hc : Cov Y b' O') (h2 : CBut b' X Y) : AroS w g b b' C O' Y := by
  have hgw : w.heap.size + 2 ≤ g := by have := hb.b' 0 (by omega); omega
  exact ⟨h.cov.keep fun i hi => h2.block _ (h.cov.lt i hi) (fun j hj e => by have := hb.b i hi; have := hb.b' j hj; omega), hc, h2.heap h.box (fun i hi e => by have := hb.b' i hi; omega), h2.heap h.res (fun i hi e => by have := hb.b' i hi; omega),
    h2.heap h.boxO (fun i hi e => by have := hb.b' i hi; omega), h2.heap h.box2 (fun i hi e => by have := hb.b' i hi; omega), h.bel.trans (h2.below h.bel.size (fun i hi => by have := hb.b' i hi; omega))⟩
theorem AroS.below {w : World} {g : Nat} {b b' : Nat → Nat} {C O : List Sq} {X Y : World} (h : AroS w g b b' C O X) (hb : AroB w g b b') (h2 : Below X.heap.size X Y) : AroS w g b b' C O Y :=
  h.step hb (h.covO.below h2) (CBut.of_below h2)

theorem set_at {W : World} {g i : Nat} {cs : Array Value} {t : TypeId} {fr : Nat × Nat} {v : Value} (h : W.heap[g]? = some (.cells cs t fr)) : (W.setCell ⟨g, i, none⟩ v).heap[g]? = some (.cells (cs.setIfInBounds i v) t fr) := by
  obtain ⟨hlt, hk⟩ := Array.getElem?_eq_some_iff.1 h
  show (W.heap.modify g _)[g]? = _
  rw [Array.getElem?_eq_getElem (by rw [Array.size_modify]; exact hlt), Array.getElem_modify_self, hk]
  rfl
theorem set_other {W : World} {g i : Nat} {v : Value} {k : Nat} {o : Obj} (h : W.heap[k]? = some o) (hne : k ≠ g) : (W.setCell ⟨g, i, none⟩ v).heap[k]? = some o := (Below.heap_setCell _ _ _ k hne).trans h
def set11 (W : World) (g : Nat) (b : Nat → Nat) : World :=
  (((((((((((W.setCell ⟨g, 0, none⟩ (.map (some (b 0)))).setCell ⟨g, 1, none⟩ (.map (some (b 1)))).setCell ⟨g, 2, none⟩ (.map (some (b 2)))).setCell ⟨g, 3, none⟩ (.map (some (b 3)))).setCell ⟨g, 4, none⟩ (.map (some (b 4)))).setCell ⟨g, 5, none⟩ (.map (some (b 5)))).setCell
    ⟨g, 6, none⟩ (.map (some (b 6)))).setCell ⟨g, 7, none⟩ (.map (some (b 7)))).setCell ⟨g, 8, none⟩ (.map (some (b 8)))).setCell ⟨g, 9, none⟩ (.map (some (b 9)))).setCell ⟨g, 10, none⟩ (.map (some (b 10))))
theorem set11_at {W : World} {g : Nat} {b : Nat → Nat} {t : TypeId} (h : W.heap[g]? = some (.cells nilCov t)) : (set11 W g b).heap[g]? = some (.cells (covA b) t) := by
  have h := set_at (i := 0) (v := .map (some (b 0))) h
  have h := set_at (i := 1) (v := .map (some (b 1))) h
  have h := set_at (i := 2) (v := .map (some (b 2))) h
  have h := set_at (i := 3) (v := .map (some (b 3))) h
  have h := set_at (i := 4) (v := .map (some (b 4))) h
  have h := set_at (i := 5) (v := .map (some (b 5))) h
  have h := set_at (i := 6) (v := .map (some (b 6))) h
  have h := set_at (i := 7) (v := .map (some (b 7))) h
  have h := set_at (i := 8) (v := .map (some (b 8))) h
  have h := set_at (i := 9) (v := .map (some (b 9))) h
  have h := set_at (i := 10) (v := .map (some (b 10))) h
  simpa [nilCov, covA, set11] using h
theorem set11_other {W : World} {g : Nat} {b : Nat → Nat} {k : Nat} {o : Obj} (h : W.heap[k]? = some o) (hne : k ≠ g) : (set11 W g b).heap[k]? = some o := by
  have h := set_other (i := 0) (v := .map (some (b 0))) h hne
  have h := set_other (i := 1) (v := .map (some (b 1))) h hne
  have h := set_other (i := 2) (v := .map (some (b 2))) h hne
  have h := set_other (i := 3) (v := .map (some (b 3))) h hne
  have h := set_other (i := 4) (v := .map (some (b 4))) h hne
  have h := set_other (i := 5) (v := .map (some (b 5))) h hne
  have h := set_other (i := 6) (v := .map (some (b 6))) h hne
  have h := set_other (i := 7) (v := .map (some (b 7))) h hne
  have h := set_other (i := 8) (v := .map (some (b 8))) h hne
  have h := set_other (i := 9) (v := .map (some (b 9))) h hne
  have h := set_other (i := 10) (v := .map (some (b 10))) h hne
  exact h
theorem set11_cov {W : World} {g : Nat} {b : Nat → Nat} {c : Nat → Nat} {C : List Sq} (h : Cov W c C) (hne : ∀ i, i < 11 → c i ≠ g) : Cov (set11 W g b) c C := by
  unfold set11
  iterate 11 (refine Cov.setCell ?_ hne _)
  exact h
theorem set11_bel {W w : World} {g : Nat} {b : Nat → Nat} {B : Nat} (h : Below B w W) (hB : B ≤ g) : Below B w (set11 W g b) := by
  unfold set11
  iterate 11 (refine Below.setCell (p := ⟨g, _, none⟩) ?_ hB _)
  exact h

set_option maxRecDepth 100000 in
set_option maxHeartbeats 4000000 in
theorem around_in (n : Nat) (hn : 6 ≤ n) (b : Nat → Nat) (C : List Sq) (w : World) (h : Cov w b C) (hlen : C.length ≤ 50000) :
    CallsIn Fence.wide n Tryz.prog 51 #[.agg (covA b)] w fun e w' => ∃ b', e = .returned (.agg (covA b')) ∧ (∀ i, i < 11 → w.heap.size ≤ b' i) ∧ Cov w' b' (aroundS C) ∧ Below w.heap.size w w' := by
  have hbl : ∀ i, i < 11 → b i < w.heap.size := fun i hi => (h.row i hi).lt
  refine callsIn_of_wp_marks Tryz.func51 rfl trivial ?_ rfl
  simp only [Tryz.ntmps51, List.size_toArray, List.length_cons, List.length_nil, Nat.reduceAdd, Nat.reduceSub, Array.replicate_succ, Array.replicate_zero, List.push_toArray, List.append_toArray, List.nil_append, List.cons_append]
  have hcA : ∀ b : Nat → Nat, covA b = #[.map (some (b 0)), .map (some (b 1)), .map (some (b 2)), .map (some (b 3)), .map (some (b 4)), .map (some (b 5)), .map (some (b 6)), .map (some (b 7)), .map (some (b 8)), .map (some (b 9)), .map (some (b 10))] := fun _ => rfl
  have HCo := Lib.hid (coverOf_any (.slice none 0 0) [] ((w.alloc (.cells (covA b) 54)).alloc (.cells nilCov 54)) ⟨none, 0, rfl, fun i s hs => by simp at hs⟩ (fun s hs => by cases hs) (by simp))
  rw [hcA b] at HCo ⊢
  unfold nilCov at HCo
  gi_wp2_with fail
  refine ⟨trivial, fun h => (by first | omega | cases h), (callsIn_wide.2 HCo.out).mono ?_⟩
  rw [← hcA b]
  rintro e w1 ⟨b', rfl, hbge, hcov, hbel⟩
  have hw1 : w.heap.size + 2 ≤ w1.heap.size := by have := hbel.size; simpa using this
  have hlt1 : w.heap.size < w1.heap.size := by omega
  have hx0 : w1.heap[w.heap.size]? = some (.cells (covA b) 54) := (hbel.block _ (by simp; omega)).trans ((Below.heap_alloc _ _ _ (by simp)).trans (World.alloc_heap_new w _))
  have hx1 : w1.heap[w.heap.size + 1]? = some (.cells nilCov 54) := (hbel.block _ (by simp)).trans (by have := World.alloc_heap_new (w.alloc (.cells (covA b) 54)) (.cells nilCov 54); rwa [World.size_alloc] at this)
  have hb1 : Below w.heap.size w w1 := ((below_new _).trans ((below_new _).mono (by simp))).trans (hbel.mono (by simp; omega))
  have HB := Lib.hid (show AroB w w1.heap.size b b' from ⟨hbl, fun i hi => ⟨by have := hbge i hi; simpa using this, (hcov.row i hi).lt⟩⟩)
  have hb2 : ∀ o1 o2 : Obj, Below w1.heap.size w1 ((w1.alloc o1).alloc o2) := fun o1 o2 => (below_new _).trans ((below_new _).mono (by simp))
  have H0 := Lib.hid (show AroS w w1.heap.size b b' C [] ((w1.alloc (.cells (covA b') 54)).alloc (.cells (covA b) 54)) from
    ⟨(h.below hb1).below (hb2 _ _), hcov.below (hb2 _ _), ((hb2 _ _).block _ (by omega)).trans hx0, ((hb2 _ _).block _ (by omega)).trans hx1, (Below.heap_alloc _ _ _ (by simp)).trans (World.alloc_heap_new w1 _),
      by have := World.alloc_heap_new (w1.alloc (.cells (covA b') 54)) (.cells (covA b) 54); rwa [World.size_alloc] at this, hb1.trans ((hb2 _ _).mono (by omega))⟩)
  have hsz0 : ((w1.alloc (.cells (covA b') 54)).alloc (.cells (covA b) 54)).heap.size = w1.heap.size + 2 := by simp
  obtain ⟨q0, q1, q2, q3, q4, q5, q6, q7, q8, q9, q10⟩ := cov_cells hx0
  rw [hcA b']
  gi_wp2_with fail
  refine ⟨trivial, fun h => (by first | omega | cases h), (callsIn_wide.2 (squares_any b _)).mono ?_⟩
  rintro e w2 ⟨rfl, rfl⟩
  gi_wp2_with fail
  rw [← hcA b, ← hcA b']
  generalize (w1.alloc (.cells (covA b') 54)).alloc (.cells (covA b) 54) = W0 at *
  clear q0 q1 q2 q3 q4 q5 q6 q7 q8 q9 q10 hx0 hx1 hb1 hb2 hcov hbel hbge HCo
  generalize w1.heap.size = g at *
  have hreg : (regionS C).length ≤ 50000 := by rw [region_len h.ok]; exact hlen
  have hIt : ∀ pre ow X, (AroS w g b b' C (pre.foldl aroS []) X ∧ (pre.foldl aroS []).length ≤ 11 * pre.length ∧ ow = none) → Cov X b ((fun _ : List Sq => C) pre) ∧ X.heap[g + 1]? = some (.cells (covA b) 54) ∧ ((fun _ : List Sq => C) pre).length ≤ 1000000 ∧ ∀ k : Nat, ow = some k → k < X.heap.size :=
    fun pre ow X h => ⟨h.1.cov, h.1.box2, Nat.le_trans hlen (by omega), fun k e => by rw [h.2.2] at e; cases e⟩
  refine wp_rangeG (by omega) (gf := 112) (lb := #[.pointer (some ⟨g + 1, 0, none⟩)]) rfl (enters_of Tryz.func112 (by kernel_rfl) rfl) (encs := fun s : Sq => #[sqv s]) (fun _ => rfl)
    (fun pre ow X => AroS w g b b' C (pre.foldl aroS []) X ∧ (pre.foldl aroS []).length ≤ 11 * pre.length ∧ ow = none) (fun _ _ _ => False)
    (fun ow pre X Y row hs hg hr => ⟨hs.1.grown HB.out hg (fun r e => by have := (hr r e).1; omega), hs.2⟩) (fun _ _ _ _ _ hs _ _ => hs) (fun pre ow W h k e => by rw [h.2.2] at e; cases e) none ⟨H0.out, by simp, rfl⟩
    (squares_iter W0.heap.size (n - 1) (by omega) b (g + 1) (fun _ => C) (fun pre ow X => AroS w g b b' C (pre.foldl aroS []) X ∧ (pre.foldl aroS []).length ≤ 11 * pre.length ∧ ow = none) hIt)
    (fun x a' W => ∃ Bx, g + 2 ≤ Bx ∧ W.heap[Bx]? = some (.cells #[.int .i64 x.l, .int .i64 x.x, .int .i64 x.y] 31) ∧ a' = { tmps := #[.agg (covA b), .pointer (some ⟨w.heap.size, 0, none⟩), .pointer (some ⟨w.heap.size + 1, 0, none⟩), .pointer (some ⟨g, 0, none⟩), .pointer (some ⟨Bx, 0, none⟩), undef, undef, .agg (covA b'), .agg (covA b), .func (.func 112) #[] #[.pointer (some ⟨g + 1, 0, none⟩)], sqv x, undef, undef, undef, undef, undef, undef, undef, undef, undef, undef, undef, undef, undef, undef, undef, undef, undef], defers := [] })
    (fun x a' _ X Y row hs hg hr => by
      obtain ⟨Bx, h0, h1, h2⟩ := hs
      refine ⟨Bx, h0, (hg.block _ (Array.getElem?_eq_some_iff.1 h1).1 (fun e => ?_)).trans h1, h2⟩
      obtain ⟨_, o, ho, hc⟩ := hr Bx e.symm
      rw [h1] at ho; cases ho; cases hc)
    ?assign ?body ?done ?stop
  case assign =>
    intro l pre x ow W K hI hK
    unfold sqv
    gi_wp2_with fail
    refine hK _ _ (.inr ⟨_, rfl⟩) ⟨W.heap.size, ?_, World.alloc_heap_new W _, rfl⟩
    have := (Array.getElem?_eq_some_iff.1 hI.1.box2).1
    omega
  case body =>
    rintro l pre x ow a' W hl ⟨r, hr⟩ ⟨hI, hO0, rfl⟩ ⟨Bx, hBx, hx, rfl⟩ ⟨hxo, hpf⟩
    rw [walk_region] at hpf
    have HPl := Lib.hid (show pre.length + 1 ≤ 50000 from by have := hpf.length_le; simp at this; omega)
    have HF := Lib.hid (show (pre ++ [x]).foldl aroS [] = aroS (pre.foldl aroS []) x by rw [List.foldl_append]; rfl)
    generalize pre.foldl aroS [] = O at *
    have HI := Lib.hid hI
    have HO0 := Lib.hid hO0
    have HO := Lib.hid hxo
    obtain ⟨s0, s1, s2⟩ := sq_cells hx
    obtain ⟨h1, h2, h3, h4, h5, h6⟩ := (Sq.okB_iff x).1 hxo
    have HX := Lib.hid hx
    have HBx := Lib.hid (Array.getElem?_eq_some_iff.1 hx).1
    clear hI hx hxo hpf
    gi_wp2_with fail
    gi_loopw [5] (fun k X => ∃ (j : Nat) (O' : List Sq), k = .int .i64 (j : Int) ∧ x.l < (j : Int) ∧ j ≤ 11 ∧ AroS w g b b' C O' X ∧ aroundStep j x (11 - j) O' = aroS O x ∧ O'.length ≤ 11 * pre.length + j ∧ X.heap[Bx]? = some (.cells #[.int .i64 x.l, .int .i64 x.x, .int .i64 x.y] 31) ∧ KA (g + 2) none W X) (fun k _ => 11 - (intOf k).toNat)
    case atStart =>
      refine ⟨(x.l + 1).toNat, O, by congr 1; omega, by omega, by omega, HI.out, ?_, ?_, HX.out, KA.refl _ _ _⟩
      · unfold aroS
        rw [show 11 - (x.l + 1).toNat = (10 - x.l).toNat by omega]
      · have := HO0.out; omega
    case round =>
      obtain ⟨j, O', rfl, hj1, hj2, hS, hst, hOl, hxb, hka⟩ := hrel
      have HS := Lib.hid hS
      have HSt := Lib.hid hst
      have HXb := Lib.hid hxb
      have HK := Lib.hid hka
      obtain ⟨q0, q1, q2, q3, q4, q5, q6, q7, q8, q9, q10⟩ := cov_cells hS.boxO
      obtain ⟨t0, t1, t2⟩ := sq_cells hxb
      have hz1 : g < wr.heap.size := (Array.getElem?_eq_some_iff.1 hS.boxO).1
      have hz2 : Bx < wr.heap.size := (Array.getElem?_eq_some_iff.1 hxb).1
      clear hS hst hxb hka s0 s1 s2
      by_cases hlt : j ≤ 10
      · have HBl := Lib.hid (show ∀ w, Calls Tryz.prog 94 #[.agg #[.int .i64 x.l, .int .i64 x.x, .int .i64 x.y], .int .i64 (j : Int)] w fun e w' => e = .returned (.agg #[.int .i64 (blurS x (j : Int)).l, .int .i64 (blurS x (j : Int)).x, .int .i64 (blurS x (j : Int)).y]) ∧ Below w.heap.size w w' from fun w => blur_any x j w h1 (by omega) (by omega))
        have HQ := Lib.hid (show (blurS x (j : Int)).okB = true from blur_ok HO.out (by omega) (by omega))
        have HSt2 := Lib.hid (show aroundStep j x (11 - j) O' = if decide (blurS x (j : Int) ∈ O') then O' else aroundStep (j + 1) x (11 - (j + 1)) (addS O' (blurS x (j : Int))) by
          rw [show 11 - j = (11 - (j + 1)) + 1 by omega]; rfl)
        generalize blurS x (j : Int) = q at *
        gi_wp2_with fail
        refine ⟨trivial, fun h => (by first | omega | cases h), (CallsIn.inRound _ (callsIn_wide.2 (HBl.out wr))).mono ?_⟩
        rintro e w3 ⟨rfl, hb3⟩
        have hs3 := hb3.size
        have H3 := Lib.hid (show AroS w g b b' C O' (w3.alloc (.cells #[.int .i64 q.l, .int .i64 q.x, .int .i64 q.y] 31)) ∧ (w3.alloc (.cells #[.int .i64 q.l, .int .i64 q.x, .int .i64 q.y] 31)).heap[Bx]? = some (.cells #[.int .i64 x.l, .int .i64 x.x, .int .i64 x.y] 31) ∧ KA (g + 2) none W (w3.alloc (.cells #[.int .i64 q.l, .int .i64 q.x, .int .i64 q.y] 31)) from
          ⟨(HS.out.below HB.out hb3).below HB.out (below_new _), (Below.heap_alloc _ _ _ (by omega)).trans ((hb3.block _ hz2).trans HXb.out), (HK.out.trans (KA.of_below hb3)).trans (KA.alloc _ _ _ _)⟩)
        have q0 := (hb3.cell hz1).trans q0; have q1 := (hb3.cell hz1).trans q1; have q2 := (hb3.cell hz1).trans q2; have q3 := (hb3.cell hz1).trans q3; have q4 := (hb3.cell hz1).trans q4; have q5 := (hb3.cell hz1).trans q5
        have q6 := (hb3.cell hz1).trans q6; have q7 := (hb3.cell hz1).trans q7; have q8 := (hb3.cell hz1).trans q8; have q9 := (hb3.cell hz1).trans q9; have q10 := (hb3.cell hz1).trans q10
        have hz3 : g < w3.heap.size := by omega
        have hzB : Bx < w3.heap.size := by omega
        clear hb3
        have HH := Lib.hid (hasOne_cov b' q O' _ H3.out.1.covO HQ.out)
        cases hin : memB q O'
        · rw [hin] at HH
          gi_wp2_with fail
          refine ⟨trivial, fun h => (by first | omega | cases h), (CallsIn.inRound _ (callsIn_wide.2 HH.out)).mono ?_⟩
          rintro e w4 ⟨rfl, hb4⟩
          have hz : (w3.alloc (.cells #[.int .i64 q.l, .int .i64 q.x, .int .i64 q.y] 31)).heap.size = w3.heap.size + 1 := by simp
          have hs4 : w3.heap.size + 1 ≤ w4.heap.size := by have := hb4.size; omega
          have H4 := Lib.hid (show AroS w g b b' C O' w4 ∧ w4.heap[Bx]? = some (.cells #[.int .i64 x.l, .int .i64 x.x, .int .i64 x.y] 31) ∧ KA (g + 2) none W w4 from
            ⟨H3.out.1.below HB.out hb4, (hb4.block _ (by omega)).trans H3.out.2.1, H3.out.2.2.trans (KA.of_below hb4)⟩)
          obtain ⟨q0, q1, q2, q3, q4, q5, q6, q7, q8, q9, q10⟩ := cov_cells H4.out.1.boxO
          obtain ⟨u0, u1, u2⟩ := sq_cells ((hb4.block w3.heap.size (by omega)).trans (World.alloc_heap_new w3 _))
          have hzz : g < w4.heap.size := by omega
          have hL : O'.length < maxLen := by have := HPl.out; unfold maxLen; omega
          clear hb4
          gi_wp2_with fail
          refine ⟨trivial, fun h => (by first | omega | cases h), (CallsIn.inRound _ (callsIn_wide.2 (add_cov b' q O' w4 H4.out.1.covO HQ.out hL))).mono ?_⟩
          rintro e w5 ⟨rfl, hc5, hb5⟩
          have H5 := Lib.hid (show AroS w g b b' C (addS O' q) w5 ∧ aroundStep (j + 1) x (11 - (j + 1)) (addS O' q) = aroS O x ∧ (addS O' q).length ≤ 11 * pre.length + (j + 1) ∧ w5.heap[Bx]? = some (.cells #[.int .i64 x.l, .int .i64 x.x, .int .i64 x.y] 31) ∧ KA (g + 2) none W w5 from by
            have hka5 := hb5.ka (G := g + 2) (fun i hi => by have := HB.out.b' i hi; omega)
            refine ⟨H4.out.1.step HB.out hc5 hb5, ?_, by have := addS_len O' q; omega, hka5.at_ hBx H4.out.2.1, H4.out.2.2.trans hka5⟩
            rw [← HSt.out, HSt2.out, if_neg (by have := memB_false.1 hin; simp [this])])
          clear hc5 hb5
          gi_wp2_with fail
          go_roundw
          case rel => exact ⟨j + 1, addS O' q, by go_num, by omega, by omega, H5.out⟩
          case measure => simp [intOf]; omega
        · rw [hin] at HH
          gi_wp2_with fail
          refine ⟨trivial, fun h => (by first | omega | cases h), (CallsIn.inRound _ (callsIn_wide.2 HH.out)).mono ?_⟩
          rintro e w4 ⟨rfl, hb4⟩
          have H4 := Lib.hid (show AroS w g b b' C ((pre ++ [x]).foldl aroS []) w4 ∧ KA W0.heap.size none W w4 ∧ ((pre ++ [x]).foldl aroS []).length ≤ 11 * (pre ++ [x]).length from by
            rw [HF.out, ← HSt.out, HSt2.out, if_pos (by have := memB_iff.1 hin; simp [this])]
            exact ⟨H3.out.1.below HB.out hb4, hsz0 ▸ H3.out.2.2.trans (KA.of_below hb4), by simp; omega⟩)
          clear hb4
          gi_wp2_with fail
          exact ⟨H4.out.2.1, none, ⟨H4.out.1, H4.out.2.2, rfl⟩, .inl rfl⟩
      · have ej : j = 11 := by omega
        subst ej
        gi_wp2_with fail
        refine ⟨hsz0 ▸ HK.out, none, ?_, .inl rfl⟩
        dsimp only
        rw [HF.out, ← HSt.out]
        exact ⟨HS.out, by simp [aroundStep]; omega, rfl⟩
  case done =>
    rintro D xs ow W hD rfl ⟨hI, -, rfl⟩ hK
    rw [walk_region, ← around_eq] at hI
    obtain ⟨q0, q1, q2, q3, q4, q5, q6, q7, q8, q9, q10⟩ := cov_cells hI.boxO
    have hfz := frozen_row hI.res
    obtain ⟨r0, r1, r2, r3, r4, r5, r6, r7, r8, r9, r10⟩ := nil_cells hI.res
    have hsz2 : w.heap.size + 1 < W.heap.size := (Array.getElem?_eq_some_iff.1 hI.res).1
    have HI := Lib.hid hI
    clear hI
    gi_wp2_with fail
    change bodyPostM Fence.wide n Tryz.prog _ _ _ _ (set11 W (w.heap.size + 1) b')
    have hV := set11_at (b := b') HI.out.res
    have hVD := set11_other (b := b') (g := w.heap.size + 1) hK (by have := HI.out.bel.size; omega)
    have hVc := set11_cov (b := b') (g := w.heap.size + 1) HI.out.covO (fun i hi => by have := HB.out.b' i hi; omega)
    have hVb := set11_bel (b := b') (g := w.heap.size + 1) HI.out.bel (by omega)
    generalize set11 W (w.heap.size + 1) b' = V at *
    have hgr := grownBy_putObj' V D (.deferred none)
    have hV' : (V.putObj D (.deferred none)).heap[w.heap.size + 1]? = some (.cells (covA b') 54) := (World.putObj_heap_other (by omega)).trans hV
    refine ⟨by simp, .inl ⟨_, _, rfl, run_takeDeferred hVD, ?_⟩⟩
    obtain ⟨r0, r1, r2, r3, r4, r5, r6, r7, r8, r9, r10⟩ := cov_cells hV'
    exact ⟨.agg (covA b'), by unfold covA; simp [results, Tryz.results51, go_sem, r0, r1, r2, r3, r4, r5, r6, r7, r8, r9, r10], b', rfl, fun j hj => by have := HB.out.b' j hj; omega,
      hVc.grownB (B := g) (fun i hi => (HB.out.b' i hi).2) hgr (fun r e => by cases e; omega), hVb.grown hgr hVb.size (fun r e => by cases e; omega)⟩
  case stop =>
    rintro D c pre W hD _ h _
    exact h.elim
end Go.Proofs.YtabolonlkocopaaGreatDoor
