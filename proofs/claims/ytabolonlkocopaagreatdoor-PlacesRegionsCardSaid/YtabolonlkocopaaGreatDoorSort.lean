
/- slices.SortFunc over squares, by the order of the document. -/
import Derived.Test.YtabolonlkocopaaGreatDoorCvr
import Derived.Test.YtabolonlkocopaaGreatDoorLayP
namespace Go.Proofs.YtabolonlkocopaaGreatDoor
open Go.RowKit Go.Plc Go.Sort

theorem perm_sorted_eq {α : Type} {R : α → α → Prop} (anti : ∀ a b, R a b → R b a → a = b) : ∀ {l1 l2 : List α}, l1.Perm l2 → l1.Pairwise R → l2.Pairwise R → l1 = l2
  | [], l2, p, _, _ => (List.Perm.nil_eq p)
  | a :: r, [], p, _, _ => absurd p.length_eq (by simp)
  | a :: r, b :: s, p, h1, h2 => by
    obtain ⟨ha, hr⟩ := List.pairwise_cons.1 h1
    obtain ⟨hb, hs⟩ := List.pairwise_cons.1 h2
    have e : a = b := by
      rcases List.mem_cons.1 (p.mem_iff.1 (List.mem_cons_self (a := a) (l := r))) with h | h
      · exact h
      · rcases List.mem_cons.1 (p.mem_iff.2 (List.mem_cons_self (a := b) (l := s))) with h' | h'
        · exact h'.symm
        · exact anti _ _ (ha _ h') (hb _ h)
    subst e
    rw [perm_sorted_eq anti (List.Perm.cons_inv p) hr hs]

def leS (a b : Sq) : Bool := !aheadB b a
theorem leS_iff (a b : Sq) : leS a b = true ↔ a.l < b.l ∨ (a.l = b.l ∧ (a.y < b.y ∨ (a.y = b.y ∧ a.x ≤ b.x))) := by
  unfold leS
  rw [Bool.not_eq_true', ← Bool.not_eq_true, ahead_iff]; omega
theorem leS_anti (a b : Sq) (h1 : leS a b = true) (h2 : leS b a = true) : a = b := by
  rw [leS_iff] at h1 h2; exact Sq.ext3 (by omega) (by omega) (by omega)
theorem leS_trans (a b c : Sq) (h1 : leS a b = true) (h2 : leS b c = true) : leS a c = true := by
  rw [leS_iff] at *; omega
theorem leS_total (a b : Sq) : (leS a b || leS b a) = true := by
  rw [Bool.or_eq_true, leS_iff, leS_iff]; omega
theorem insS_perm (s : Sq) : ∀ L : List Sq, (insS s L).Perm (s :: L)
  | [] => List.Perm.refl _
  | t :: r => by
    unfold insS
    split
    · exact ((insS_perm s r).cons t).trans (List.Perm.swap s t r)
    · exact List.Perm.refl _
theorem sortS_perm : ∀ L : List Sq, (sortS L).Perm L
  | [] => List.Perm.refl _
  | s :: r => (insS_perm s _).trans ((sortS_perm r).cons s)
theorem insS_sorted (s : Sq) : ∀ L : List Sq, L.Pairwise (fun a b => leS a b = true) → (insS s L).Pairwise (fun a b => leS a b = true)
  | [], _ => by simp [insS]
  | t :: r, h => by
    obtain ⟨h1, h2⟩ := List.pairwise_cons.1 h
    unfold insS
    split
    · rename_i hts
      refine List.pairwise_cons.2 ⟨fun u hu => ?_, insS_sorted s r h2⟩
      rcases List.mem_cons.1 ((insS_perm s r).mem_iff.1 hu) with rfl | hu
      · rw [leS_iff]; rw [ahead_iff] at hts; omega
      · exact h1 u hu
    · rename_i hts
      have hst : leS s t = true := by unfold leS; simpa using hts
      refine List.pairwise_cons.2 ⟨fun u hu => ?_, h⟩
      rcases List.mem_cons.1 hu with rfl | hu
      · exact hst
      · exact leS_trans _ _ _ hst (h1 u hu)
theorem sortS_sorted : ∀ L : List Sq, (sortS L).Pairwise (fun a b => leS a b = true)
  | [] => List.Pairwise.nil
  | s :: r => insS_sorted s _ (sortS_sorted r)
theorem lt_eq (x y : Sq) : ltOf cmpS x y = aheadB x y := by
  unfold ltOf
  rw [Bool.eq_iff_iff, decide_eq_true_eq, cmp_lt]
theorem merge_eq (P : List Sq) : (P.mergeSort fun x y => !ltOf cmpS y x) = sortS P := by
  have e : (fun x y : Sq => !ltOf cmpS y x) = leS := by funext x y; rw [lt_eq]; rfl
  rw [e]
  exact perm_sorted_eq leS_anti ((List.mergeSort_perm P leS).trans (sortS_perm P).symm) (List.pairwise_mergeSort leS_trans leS_total P) (sortS_sorted P)
theorem swoS : SWO (ltOf cmpS) where
  irrefl x := by rw [lt_eq, ← Bool.not_eq_true, ahead_iff]; omega
  trans x y z h1 h2 := by rw [lt_eq, ahead_iff] at *; omega
  ntrans x y z h1 h2 := by rw [lt_eq, ← Bool.not_eq_true, ahead_iff] at *; omega

def encS (s : Sq) : List Value := [.int .i64 s.l, .int .i64 s.x, .int .i64 s.y]
instance : Inhabited Sq := ⟨⟨0, 0, 0⟩⟩
def cellsOf (L : List Sq) : List Value := L.flatMap encS
theorem cellsOf_len (P : List Sq) : (cellsOf P).length = P.length * 3 := by
  unfold cellsOf
  induction P with
  | nil => rfl
  | cons s r ih => rw [List.flatMap_cons, List.length_append, ih]; simp [encS]; omega
theorem cellsOf_get : ∀ (P : List Sq) (i : Nat) (s : Sq), P[i]? = some s → (cellsOf P)[i * 3]? = some (.int .i64 s.l) ∧ (cellsOf P)[i * 3 + 1]? = some (.int .i64 s.x) ∧ (cellsOf P)[i * 3 + 2]? = some (.int .i64 s.y)
  | [], _, _, h => by simp at h
  | t :: r, 0, s, h => by
    simp at h; subst h
    exact ⟨rfl, rfl, rfl⟩
  | t :: r, i + 1, s, h => by
    have ih := cellsOf_get r i s (by simpa using h)
    have e : ∀ j, (cellsOf (t :: r))[j + 3]? = (cellsOf r)[j]? := fun j => rfl
    rw [show (i + 1) * 3 = i * 3 + 3 by omega, show i * 3 + 3 + 1 = i * 3 + 1 + 3 by omega, show i * 3 + 3 + 2 = i * 3 + 2 + 3 by omega, e, e, e]
    exact ih

theorem isAggSq (w : World) : (isAgg 31).run Tryz.prog w = .ok true w := by kernel_rfl
theorem sizeSq (w : World) : (Go.sizeOf 31).run Tryz.prog w = .ok 3 w := by kernel_rfl

theorem cmpLays (blk off size : Nat) (w : World) : CmpLays Tryz.prog 46 #[] encS 3 cmpS blk off size w :=
  fun _ _ _ _ x y => order_lays x y _

/-- a row of the call's own: its cells lie so, none frozen -/
theorem holds_row {w : World} {g : Nat} {cur : Array Value} {P : List Sq} (hg : w.heap[g]? = some (.cells cur 31 (0, 0))) (hc : cur.toList.take (P.length * 3) = cellsOf P) : HoldsK encS 3 w g 0 P.toArray := by
  intro j hj
  rw [size_flatK] at hj
  have hj' : j < P.length * 3 := by simpa using hj
  refine ⟨?_, by simp [World.frozen?, hg]⟩
  rw [Nat.zero_add, cell_of_row w g j cur _ _ hg, get_flatK _ _ _ _ hj]
  have hcj : cur[j]? = (cellsOf P)[j]? := by
    rw [← hc, List.getElem?_take_of_lt hj']; simp
  rw [hcj]
  have hi : j / 3 < P.length := by omega
  obtain ⟨t, ht⟩ : ∃ t, P[j / 3]? = some t := ⟨_, List.getElem?_eq_getElem hi⟩
  obtain ⟨h0, h1, h2⟩ := cellsOf_get P (j / 3) t ht
  have ep : P.toArray[j / 3]! = t := by
    rw [getElem!_def, List.getElem?_toArray, ht]
  rw [ep]
  have hm : j % 3 = 0 ∨ j % 3 = 1 ∨ j % 3 = 2 := by omega
  rcases hm with hm | hm | hm
  · rw [hm, show (cellsOf P)[j]? = (cellsOf P)[j / 3 * 3]? by congr 1; omega, h0]; rfl
  · rw [hm, show (cellsOf P)[j]? = (cellsOf P)[j / 3 * 3 + 1]? by congr 1; omega, h1]; rfl
  · rw [hm, show (cellsOf P)[j]? = (cellsOf P)[j / 3 * 3 + 2]? by congr 1; omega, h2]; rfl
theorem holds_sqA {w : World} {g : Nat} {P : List Sq} (h : HoldsK encS 3 w g 0 P.toArray) (hg : g < w.heap.size) : SqA w w.heap.size (some ⟨g, 0, none⟩) P := by
  intro i s hs
  obtain ⟨hi, rfl⟩ := List.getElem?_eq_some_iff.1 hs
  have e : (⟨g, 0, none⟩ : Addr).add (i * 3) = ⟨g, i * 3, none⟩ := by
    unfold Addr.add
    split
    · rename_i h; rw [h]
    · simp
  have c := fun (c : Nat) (hc : c < 3) => (h.cell (i := i) (c := c) (by simpa using hi) hc).1
  have c0 := c 0 (by omega); have c1 := c 1 (by omega); have c2 := c 2 (by omega)
  have ep : P.toArray[i]! = P[i] := by simp [hi]
  simp only [Nat.zero_add, Nat.add_zero, ep] at c0 c1 c2
  exact ⟨_, rfl, hg, by rw [e]; exact c0, by rw [e]; exact c1, by rw [e]; exact c2⟩

theorem sortWorld_but (w : World) (g n : Nat) (d : Array Sq) (os : Array Obj) : But g w (sortWorldK encS 3 w g 0 n d os) := by
  refine ⟨rfl, rfl, rfl, size_sortWorldK_c encS 3 w g 0 n d os, fun k hk hne => ?_⟩
  unfold sortWorldK putRowK putRow mapBlock grow
  show ((Array.modify _ g _) ++ os)[k]? = _
  rw [Array.getElem?_append_left (by simpa using hk), Array.getElem?_modify, if_neg (fun e => hne e.symm)]
  rfl

/-- slices.SortFunc of a row of the call's own -/
theorem sort_any (g cap : Nat) (P : List Sq) (w : World) {cur : Array Value} (hg : w.heap[g]? = some (.cells cur 31 (0, 0))) (hc : cur.toList.take (P.length * 3) = cellsOf P) (hn : P.length ≤ 1000000) :
    Calls Tryz.prog 118 #[.slice (some ⟨g, 0, none⟩) P.length cap, .func (.func 46) #[] #[]] w fun e w' =>
      e = .returned (.tuple #[]) ∧ SqA w' w'.heap.size (some ⟨g, 0, none⟩) (sortS P) ∧ But g w w' := by
  have hlt : g < w.heap.size := (Array.getElem?_eq_some_iff.1 hg).1
  have hH := holds_row hg hc
  have eg : ∀ args w, (callFunc 46 args).run Tryz.prog w = .ok (.enter 46 args) w := enters_of Tryz.func46 (by kernel_rfl) rfl
  have hcon := AnyQ.slices_SortFunc_total Tryz.sortSq 3 isAggSq sizeSq encS (fun _ => rfl) (fun x v hv => by simp [encS] at hv; rcases hv with rfl | rfl | rfl <;> rfl) cmpS swoS 46 #[] g 0 cap P.toArray w eg (cmpLays g 0 _ w) hH hlt (by simp; omega)
    (fun x y h1 h2 => cmp_eq (by unfold ltOf at h1; simpa using h1) (by unfold ltOf at h2; simpa using h2))
  change Calls Tryz.prog 118 _ _ _ at hcon
  rw [List.size_toArray] at hcon
  refine hcon.mono ?_
  rintro e w' ⟨rfl, n, os, hw⟩
  rw [show P.toArray.toList = P from rfl, merge_eq] at hw
  have hH' := holdsK_sortWorldK_c encS 3 w g 0 P.toArray (sortS P).toArray n os hH hlt (by simp [(sortS_perm P).length_eq])
  have hsz := size_sortWorldK_c encS 3 w g 0 n (sortS P).toArray os
  rw [← hw] at hH' hsz
  exact ⟨rfl, holds_sqA hH' (Nat.lt_of_lt_of_le hlt hsz), hw ▸ sortWorld_but w g n _ os⟩
end Go.Proofs.YtabolonlkocopaaGreatDoor
