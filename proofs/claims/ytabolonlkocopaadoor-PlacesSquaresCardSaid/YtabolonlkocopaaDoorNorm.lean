/- normalOf. -/
import Derived.Test.YtabolonlkocopaaDoorJoin
namespace Go.Proofs.YtabolonlkocopaaDoor
open Go.RowKit Go.Plc Go.Shelf

theorem join_walk (C : List Sq) (i : Nat) : (walkTo (fun pre => pre.foldl joinStep C) i).foldl joinStep C = (List.range i).foldl (fun C i => (rowS C i).foldl joinStep C) C := by
  induction i with
  | zero => rfl
  | succ i ih => rw [List.range_succ, List.foldl_append, ← ih]; simp [walkTo]
theorem join_any (b : Nat → Nat) (C : List Sq) (w : World) (h : Cov w b C) (hlen : C.length ≤ 1000000) :
    Calls Tryd.prog 97 #[.agg (covA b)] w fun e w' => e = .returned (.tuple #[]) ∧ Cov w' b (joinS C) ∧ CBut b w w' := by
  have h := (callsIn_wide (n := 6)).1 (join_in 6 (Nat.le_refl _) b C w h hlen)
  rw [join_walk] at h
  exact h
/-- a square that lies in another one of the cover goes -/
def thinStep (C : List Sq) (s : Sq) : List Sq := if hasAroundS C s then dropS C s else C
theorem thin_len (L : List Sq) : ∀ C : List Sq, (L.foldl thinStep C).length ≤ C.length := by
  induction L with
  | nil => intro C; exact Nat.le_refl _
  | cons s r ih => intro C; refine Nat.le_trans (ih _) ?_; unfold thinStep; split <;> simp [drop_len_le]
theorem normal_eq (L : List Sq) : normalS L = joinS (L.foldl thinStep (L.foldl addS [])) := rfl

structure NormI (w : World) (g : Nat) (b : Nat → Nat) (C : List Sq) (X : World) : Prop where
  cov : Cov X b C
  res : X.heap[w.heap.size]? = some (.cells nilCov 84)
  box : X.heap[g]? = some (.cells (covA b) 84)
  bel : Below w.heap.size w X
theorem NormI.step {w : World} {g : Nat} {b : Nat → Nat} {C C' : List Sq} {X Y : World} (h : NormI w g b C X) (hb : ∀ i, i < 11 → w.heap.size + 1 ≤ b i ∧ b i < g) (hc : Cov Y b C') (h2 : CBut b X Y) : NormI w g b C' Y :=
  ⟨hc, h2.heap h.res (fun i hi e => by have := hb i hi; omega), h2.heap h.box (fun i hi e => by have := hb i hi; omega), h.bel.trans (h2.below h.bel.size (fun i hi => by have := hb i hi; omega))⟩

set_option maxHeartbeats 1000000 in
theorem normalOf_any (v : Value) (L : List Sq) (w : World) (hv : SqSl w w.heap.size v L) (hok : ∀ s ∈ L, s.okB = true) (hn : L.length ≤ 1000000) :
    Calls Tryd.prog 73 #[v] w fun e w' => ∃ b, e = .returned (.agg (covA b)) ∧ (∀ i, i < 11 → w.heap.size ≤ b i) ∧ Cov w' b (normalS L) ∧ Below w.heap.size w w' := by
  obtain ⟨A, c, rfl, hA⟩ := hv
  have HA := Lib.hid hA
  have HO := Lib.hid hok
  have HCo := Lib.hid (coverOf_any (.slice A L.length c) L (w.alloc (.cells nilCov 84)) ⟨A, c, rfl, (hA.below (below_new _)).mono (by simp)⟩ hok hn)
  have HLn := Lib.hid (show ∀ L' : List Sq, (L'.foldl thinStep (L.foldl addS [])).length ≤ 1000000 from fun L' => Nat.le_trans (thin_len _ _) (Nat.le_trans (ofList_len L []) (by simpa using hn)))
  clear hok hA
  have HN := Lib.hid (normal_eq L)
  generalize hL : L.length = n at *
  have HL := Lib.hid hL
  clear hL
  unfold nilCov at HCo
  go_enter Tryd.func73, Tryd.ntmps73
  go_wp2_with fail
  refine HCo.out.mono ?_
  rintro e w1 ⟨b, rfl, hbge, hcov, hbel⟩
  have hw1 : w.heap.size + 1 ≤ w1.heap.size := by have := hbel.size; simpa using this
  have H0 := Lib.hid (show NormI w w1.heap.size b (L.foldl addS []) (w1.alloc (.cells (covA b) 84)) from
    ⟨hcov.below (below_new _), (Below.heap_alloc _ _ _ (by omega)).trans ((hbel.block _ (by simp)).trans (World.alloc_heap_new w _)), World.alloc_heap_new w1 _, ((below_new _).trans (hbel.mono (by simp))).trans ((below_new _).mono (by omega))⟩)
  have HB := Lib.hid (show ∀ i, i < 11 → w.heap.size + 1 ≤ b i ∧ b i < w1.heap.size from fun i hi => ⟨by have := hbge i hi; simpa using this, (hcov.row i hi).lt⟩)
  clear hbge hcov hbel
  unfold covA
  go_wp2_with fail
  change Code.wp _ _ _ _ (w1.alloc (.cells (covA b) 84))
  generalize w1.alloc (.cells (covA b) 84) = w0 at *
  generalize w1.heap.size = g at *
  clear HCo
  go_loopw [10] (fun k wr => ∃ i : Nat, k = .int .i64 (i : Int) ∧ i ≤ n ∧ NormI w g b ((L.take i).foldl thinStep (L.foldl addS [])) wr) (fun k _ => n - (intOf k).toNat)
  case atStart => exact ⟨0, rfl, Nat.zero_le _, H0.out⟩
  case round =>
    obtain ⟨i, rfl, hin, hR⟩ := hrel
    have HR := Lib.hid hR
    obtain ⟨q0, q1, q2, q3, q4, q5, q6, q7, q8, q9, q10⟩ := cov_cells hR.box
    have hsz1 : g < wr.heap.size := (Array.getElem?_eq_some_iff.1 hR.box).1
    have hsz0 : w.heap.size < wr.heap.size := (Array.getElem?_eq_some_iff.1 hR.res).1
    clear hR
    have HRL := Lib.hid (HLn.out (L.take i))
    by_cases hlt : i < n
    · obtain ⟨s, ad, hs, hm, rfl, hb, h1, h2, h3⟩ := (HA.out.below HR.out.bel).at_ HL.out hlt
      have HOs := Lib.hid (HO.out s hm)
      have HT := Lib.hid (fold_take thinStep (L.foldl addS []) L i s hs)
      clear hs hm
      generalize (L.take i).foldl thinStep (L.foldl addS []) = D at *
      have HX := Lib.hid (hasAround_any b s D (wr.alloc (.cells #[.int .i64 s.l, .int .i64 s.x, .int .i64 s.y] 23)) (HR.out.cov.below (below_new _)) HOs.out)
      cases hh : hasAroundS D s
      · rw [hh] at HX
        have HT2 := Lib.hid (show (L.take (i + 1)).foldl thinStep (L.foldl addS []) = D by rw [HT.out]; unfold thinStep; rw [hh]; rfl)
        clear hh
        go_wp2_with fail
        refine HX.out.mono ?_
        rintro e w2 ⟨rfl, hb2⟩
        have H2 := Lib.hid (HR.out.step HB.out (C' := (L.take (i + 1)).foldl thinStep (L.foldl addS [])) (by rw [HT2.out]; exact (HR.out.cov.below (below_new _)).below hb2) ((CBut.of_below (below_new _)).trans (CBut.of_below hb2)))
        clear hb2
        go_wp2_with fail
        go_roundw
        case rel => exact ⟨i + 1, by go_num, by omega, H2.out⟩
        case measure => simp [intOf]; omega
      · rw [hh] at HX
        have HT2 := Lib.hid (show (L.take (i + 1)).foldl thinStep (L.foldl addS []) = dropS D s by rw [HT.out]; unfold thinStep; rw [hh]; rfl)
        clear hh
        go_wp2_with fail
        refine HX.out.mono ?_
        rintro e w2 ⟨rfl, hb2⟩
        have hzz : (wr.alloc (.cells #[.int .i64 s.l, .int .i64 s.x, .int .i64 s.y] 23)).heap.size = wr.heap.size + 1 := by simp
        have hs2 : wr.heap.size + 1 ≤ w2.heap.size := by have := hb2.size; omega
        obtain ⟨q0, q1, q2, q3, q4, q5, q6, q7, q8, q9, q10⟩ := cov_cells ((hb2.block g (by omega)).trans ((Below.heap_alloc wr (.cells #[.int .i64 s.l, .int .i64 s.x, .int .i64 s.y] 23) g hsz1).trans HR.out.box))
        obtain ⟨s0, s1, s2⟩ := sq_cells ((hb2.block wr.heap.size (by omega)).trans (World.alloc_heap_new wr _))
        have H1 := Lib.hid (show Cov w2 b D ∧ CBut b wr w2 from ⟨(HR.out.cov.below (below_new _)).below hb2, (CBut.of_below (below_new _)).trans (CBut.of_below hb2)⟩)
        clear hb2
        go_wp2_with fail
        refine (drop_cov b s D w2 H1.out.1 HOs.out).mono ?_
        rintro e w3 ⟨rfl, hc3, hb3⟩
        have H2 := Lib.hid (HR.out.step HB.out (C' := (L.take (i + 1)).foldl thinStep (L.foldl addS [])) (by rw [HT2.out]; exact hc3) (H1.out.2.trans hb3))
        clear hb3 hc3
        go_wp2_with fail
        go_roundw
        case rel => exact ⟨i + 1, by go_num, by omega, H2.out⟩
        case measure => simp [intOf]; omega
    · go_wp2_with fail
      refine (join_any b _ wr HR.out.cov HRL.out).mono ?_
      rintro e w2 ⟨rfl, hc2, hb2⟩
      have hi : L.take i = L := List.take_of_length_le (by have := HL.out; omega)
      rw [hi] at hc2
      have H2 := Lib.hid (HR.out.step HB.out (HN.out ▸ hc2) hb2)
      clear hc2 hb2
      obtain ⟨q0, q1, q2, q3, q4, q5, q6, q7, q8, q9, q10⟩ := cov_cells H2.out.box
      obtain ⟨r0, r1, r2, r3, r4, r5, r6, r7, r8, r9, r10⟩ := nil_cells H2.out.res
      have hfz := frozen_row H2.out.res
      have hsz2 : w.heap.size < w2.heap.size := (Array.getElem?_eq_some_iff.1 H2.out.res).1
      go_wp2_with fail
      refine bodyPost_ret (v := .agg (covA b)) (by unfold covA; simp [results, Tryd.results73, go_sem, r0, r1, r2, r3, r4, r5, r6, r7, r8, r9, r10]) rfl ⟨b, rfl, fun j hj => by have := HB.out j hj; omega, ?_, ?_⟩
      · have hne : ∀ j, j < 11 → b j ≠ w.heap.size := fun j hj => by have := HB.out j hj; omega
        have hc0 := H2.out.cov
        iterate 11 (refine Cov.setCell ?_ hne _)
        exact hc0
      · have hb0 := H2.out.bel
        iterate 11 (refine Below.setCell (p := ⟨w.heap.size, _, none⟩) ?_ (Nat.le_refl w.heap.size) _)
        exact hb0
end Go.Proofs.YtabolonlkocopaaDoor
