/- The cover of a list. -/
import Derived.Test.YtabolonlkocopaaDoorCov
namespace Go.Proofs.YtabolonlkocopaaDoor
open Go.RowKit Go.Plc

def nilCov : Array Value := #[.map none, .map none, .map none, .map none, .map none, .map none, .map none, .map none, .map none, .map none, .map none]
/-- the blocks of the maps of a cover that is made in a world of z blocks -/
def cb (z : Nat) (i : Nat) : Nat := z + 2 + i
def covWorld (w : World) : World :=
  ((((((((((((w.alloc (.cells nilCov 84)).alloc (.cells (covA (cb w.heap.size)) 84)).alloc (.map #[] 0)).alloc (.map #[] 0)).alloc (.map #[] 0)).alloc (.map #[] 0)).alloc (.map #[] 0)).alloc (.map #[] 0)).alloc (.map #[] 0)).alloc (.map #[] 0)).alloc (.map #[] 0)).alloc (.map #[] 0)).alloc (.map #[] 0)

theorem covWorld_grow (w : World) : covWorld w = Sort.grow w #[.cells nilCov 84, .cells (covA (cb w.heap.size)) 84, .map #[] 0, .map #[] 0, .map #[] 0, .map #[] 0, .map #[] 0, .map #[] 0, .map #[] 0, .map #[] 0, .map #[] 0, .map #[] 0, .map #[] 0] := by
  unfold covWorld
  simp only [Sort.alloc_eq_grow, Sort.grow_grow]
  rfl
theorem grow_at (w : World) (os : Array Obj) (k : Nat) : (Sort.grow w os).heap[w.heap.size + k]? = os[k]? := by
  unfold Sort.grow
  show (w.heap ++ os)[w.heap.size + k]? = _
  rw [Array.getElem?_append_right (by omega)]
  congr 1
  omega
theorem grow_size (w : World) (os : Array Obj) : (Sort.grow w os).heap.size = w.heap.size + os.size := by unfold Sort.grow; simp
theorem grow_below (w : World) (os : Array Obj) : Below w.heap.size w (Sort.grow w os) :=
  ⟨rfl, rfl, rfl, by rw [grow_size]; omega, fun k hk => by
    unfold Sort.grow
    show (w.heap ++ os)[k]? = _
    rw [Array.getElem?_append_left hk]⟩
theorem RowAt.empty {w : World} {b : Nat} (h : w.heap[b]? = some (.map #[] 0)) : RowAt w b [] :=
  ⟨[], ⟨#[], 0, h, ⟨by simp, MapKept.stamped_empty 0, by simp⟩, Nat.le_refl _, rfl⟩, List.Perm.refl _, List.nodup_nil, by simp⟩
theorem covWorld_facts (w : World) : Cov (covWorld w) (cb w.heap.size) [] ∧ (covWorld w).heap[w.heap.size]? = some (.cells nilCov 84) ∧ (covWorld w).heap[w.heap.size + 1]? = some (.cells (covA (cb w.heap.size)) 84) ∧
    Below w.heap.size w (covWorld w) ∧ (covWorld w).heap.size = w.heap.size + 13 := by
  rw [covWorld_grow]
  refine ⟨⟨fun i hi => ?_, fun i j _ _ h => by unfold cb at h; omega, List.nodup_nil, by simp⟩, grow_at w _ 0, grow_at w _ 1, grow_below w _, grow_size w _⟩
  show RowAt _ (w.heap.size + 2 + i) []
  refine RowAt.empty ?_
  rw [Nat.add_assoc, grow_at]
  match i, hi with
  | 0, _ => rfl
  | 1, _ => rfl
  | 2, _ => rfl
  | 3, _ => rfl
  | 4, _ => rfl
  | 5, _ => rfl
  | 6, _ => rfl
  | 7, _ => rfl
  | 8, _ => rfl
  | 9, _ => rfl
  | 10, _ => rfl

theorem cov_cells {w : World} {g : Nat} {b : Nat → Nat} {t : TypeId} {fr : Nat × Nat} (h : w.heap[g]? = some (.cells (covA b) t fr)) :
    w.cell? ⟨g, 0, none⟩ = some (.map (some (b 0))) ∧ w.cell? ⟨g, 1, none⟩ = some (.map (some (b 1))) ∧ w.cell? ⟨g, 2, none⟩ = some (.map (some (b 2))) ∧ w.cell? ⟨g, 3, none⟩ = some (.map (some (b 3))) ∧
    w.cell? ⟨g, 4, none⟩ = some (.map (some (b 4))) ∧ w.cell? ⟨g, 5, none⟩ = some (.map (some (b 5))) ∧ w.cell? ⟨g, 6, none⟩ = some (.map (some (b 6))) ∧ w.cell? ⟨g, 7, none⟩ = some (.map (some (b 7))) ∧
    w.cell? ⟨g, 8, none⟩ = some (.map (some (b 8))) ∧ w.cell? ⟨g, 9, none⟩ = some (.map (some (b 9))) ∧ w.cell? ⟨g, 10, none⟩ = some (.map (some (b 10))) := by
  refine ⟨?_, ?_, ?_, ?_, ?_, ?_, ?_, ?_, ?_, ?_, ?_⟩ <;> exact cell_of_row w g _ (covA b) t fr h
theorem nil_cells {w : World} {g : Nat} {t : TypeId} (h : w.heap[g]? = some (.cells nilCov t)) :
    (w.cell? ⟨g, 0, none⟩ = some (.map none) ∧ w.cell? ⟨g, 1, none⟩ = some (.map none) ∧ w.cell? ⟨g, 2, none⟩ = some (.map none) ∧ w.cell? ⟨g, 3, none⟩ = some (.map none) ∧
    w.cell? ⟨g, 4, none⟩ = some (.map none) ∧ w.cell? ⟨g, 5, none⟩ = some (.map none) ∧ w.cell? ⟨g, 6, none⟩ = some (.map none) ∧ w.cell? ⟨g, 7, none⟩ = some (.map none) ∧
    w.cell? ⟨g, 8, none⟩ = some (.map none) ∧ w.cell? ⟨g, 9, none⟩ = some (.map none) ∧ w.cell? ⟨g, 10, none⟩ = some (.map none)) := by
  refine ⟨?_, ?_, ?_, ?_, ?_, ?_, ?_, ?_, ?_, ?_, ?_⟩ <;> exact cell_of_row w g _ nilCov t (0, 0) h
theorem frozen_row {w : World} {g : Nat} {t : TypeId} {cs : Array Value} (h : w.heap[g]? = some (.cells cs t)) : ∀ i, w.frozen? ⟨g, i, none⟩ = false := fun i => by simp [World.frozen?, h]
theorem Cov.setCell {w : World} {b : Nat → Nat} {C : List Sq} (h : Cov w b C) {a : Addr} (hne : ∀ i, i < 11 → b i ≠ a.block) (u : Value) : Cov (w.setCell a u) b C :=
  h.keep fun i hi => Below.heap_setCell _ _ _ _ (hne i hi)
theorem fold_take {α β : Type} (f : β → α → β) (x : β) (L : List α) (i : Nat) (s : α) (h : L[i]? = some s) : (L.take (i + 1)).foldl f x = f ((L.take i).foldl f x) s := by
  obtain ⟨hi, rfl⟩ := List.getElem?_eq_some_iff.1 h
  rw [List.take_succ_eq_append_getElem hi, List.foldl_append]
  rfl
theorem ofList_len (L : List Sq) : ∀ C : List Sq, (L.foldl addS C).length ≤ C.length + L.length := by
  induction L with
  | nil => simp
  | cons s r ih => intro C; have := ih (addS C s); have := addS_len C s; simp; omega

set_option maxHeartbeats 1000000 in
theorem coverOf_any (v : Value) (L : List Sq) (w : World) (hv : SqSl w w.heap.size v L) (hok : ∀ s ∈ L, s.okB = true) (hn : L.length ≤ 1000000) :
    Calls Tryd.prog 70 #[v] w fun e w' => ∃ b, e = .returned (.agg (covA b)) ∧ (∀ i, i < 11 → w.heap.size ≤ b i) ∧ Cov w' b (L.foldl addS []) ∧ Below w.heap.size w w' := by
  have hmm := @run_makeMap Tryd.prog
  obtain ⟨A, c, rfl, hA⟩ := hv
  have HA := Lib.hid hA
  have HO := Lib.hid hok
  clear hok hA
  generalize hL : L.length = n at *
  have HL := Lib.hid hL
  clear hL
  go_enter Tryd.func70, Tryd.ntmps70
  go_wp2_with fail
  refine wp_loop_rounds 12 ?_
  iterate 12 (rw [rounds_succ]; go_wp2_with fail)
  change Code.wp _ _ _ _ (covWorld w)
  obtain ⟨hcov, hres, hbox, hbel, hsz⟩ := covWorld_facts w
  generalize covWorld w = w0 at *
  have hbge := Lib.hid (show ∀ i, i < 11 → w.heap.size + 2 ≤ cb w.heap.size i from fun i _ => by unfold cb; omega)
  generalize cb w.heap.size = b at *
  have H0 := Lib.hid (show Cov w0 b [] ∧ w0.heap[w.heap.size]? = some (.cells nilCov 84) ∧ w0.heap[w.heap.size + 1]? = some (.cells (covA b) 84) ∧ Below w.heap.size w w0 ∧ w.heap.size + 13 ≤ w0.heap.size from ⟨hcov, hres, hbox, hbel, by omega⟩)
  clear hcov hres hbox hbel hsz hmm
  go_loopw [16] (fun k wr => ∃ i : Nat, k = .int .i64 (i : Int) ∧ i ≤ n ∧ Cov wr b ((L.take i).foldl addS []) ∧ wr.heap[w.heap.size]? = some (.cells nilCov 84) ∧ wr.heap[w.heap.size + 1]? = some (.cells (covA b) 84) ∧ Below w.heap.size w wr ∧ w.heap.size + 13 ≤ wr.heap.size) (fun k _ => n - (intOf k).toNat)
  case atStart => exact ⟨0, rfl, Nat.zero_le _, by simpa using H0.out⟩
  case round =>
    obtain ⟨i, rfl, hin, hR⟩ := hrel
    have HR := Lib.hid hR
    clear hR
    obtain ⟨q0, q1, q2, q3, q4, q5, q6, q7, q8, q9, q10⟩ := cov_cells HR.out.2.2.1
    by_cases hlt : i < n
    · obtain ⟨s, ad, hs, hm, rfl, hb, h1, h2, h3⟩ := (HA.out.below HR.out.2.2.2.1).at_ HL.out hlt
      have HSi := Lib.hid hs
      have HOs := Lib.hid (HO.out s hm)
      clear hs hm
      have hsz : w.heap.size + 13 ≤ wr.heap.size := HR.out.2.2.2.2
      have hsz1 : w.heap.size + 1 < wr.heap.size := by omega
      have hsz0 : w.heap.size < wr.heap.size := by omega
      go_wp2_with fail
      refine (add_cov b s _ _ (HR.out.1.alloc _) HOs.out (Nat.lt_of_le_of_lt (ofList_len _ _) (by rw [List.length_take]; unfold maxLen; simp; omega))).mono ?_
      rintro e w1 ⟨rfl, hcov, hbut⟩
      have H1 := Lib.hid (show Cov w1 b ((L.take (i + 1)).foldl addS []) ∧ w1.heap[w.heap.size]? = some (.cells nilCov 84) ∧ w1.heap[w.heap.size + 1]? = some (.cells (covA b) 84) ∧ Below w.heap.size w w1 ∧ w.heap.size + 13 ≤ w1.heap.size from
        ⟨by rw [fold_take _ _ _ _ _ HSi.out]; exact hcov,
         hbut.heap ((Below.heap_alloc _ _ _ (by omega)).trans HR.out.2.1) (fun j hj e => by have := hbge.out j hj; omega),
         hbut.heap ((Below.heap_alloc _ _ _ (by omega)).trans HR.out.2.2.1) (fun j hj e => by have := hbge.out j hj; omega),
         (HR.out.2.2.2.1.alloc (by omega) _).trans (hbut.below (by simp; omega) (fun j hj => by have := hbge.out j hj; omega)), by have := hbut.size; simp at this; omega⟩)
      clear hcov hbut
      go_wp2_with fail
      go_roundw
      case rel => exact ⟨i + 1, by go_num, by omega, H1.out⟩
      case measure => simp [intOf]; omega
    · have hsz : w.heap.size + 13 ≤ wr.heap.size := HR.out.2.2.2.2
      have hsz1 : w.heap.size + 1 < wr.heap.size := by omega
      have hsz0 : w.heap.size < wr.heap.size := by omega
      obtain ⟨r0, r1, r2, r3, r4, r5, r6, r7, r8, r9, r10⟩ := nil_cells HR.out.2.1
      have hfz := frozen_row HR.out.2.1
      go_wp2_with fail
      refine bodyPost_ret (v := .agg (covA b)) (by unfold covA; simp [results, Tryd.results70, go_sem, r0, r1, r2, r3, r4, r5, r6, r7, r8, r9, r10]) rfl ⟨b, rfl, fun j hj => by have := hbge.out j hj; omega, ?_, ?_⟩
      · have hne : ∀ j, j < 11 → b j ≠ w.heap.size := fun j hj => by have := hbge.out j hj; omega
        have hi : i = L.length := by have := HL.out; omega
        have hc0 := HR.out.1
        rw [hi, List.take_length] at hc0
        iterate 11 (refine Cov.setCell ?_ hne _)
        exact hc0
      · have hb0 := HR.out.2.2.2.1
        iterate 11 (refine Below.setCell (p := ⟨w.heap.size, _, none⟩) ?_ (Nat.le_refl w.heap.size) _)
        exact hb0
end Go.Proofs.YtabolonlkocopaaDoor
