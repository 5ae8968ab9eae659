
/- squares: the iterator over a cover. -/
import Derived.Test.YtabolonlkocopaaGreatDoorRow
import Derived.Test.YtabolonlkocopaaGreatDoorRange
namespace Go.Proofs.YtabolonlkocopaaGreatDoor
open Go.RowKit Go.Plc

/-- what has come when i levels are over -/
def walkTo (Cv : List Sq → List Sq) : Nat → List Sq
  | 0 => []
  | i + 1 => walkTo Cv i ++ rowS (Cv (walkTo Cv i)) i

theorem walk_mono (Cv : List Sq → List Sq) {i j : Nat} (h : i ≤ j) : walkTo Cv i <+: walkTo Cv j := by
  induction j with
  | zero => obtain rfl : i = 0 := by omega
            exact List.prefix_refl _
  | succ j ih =>
    by_cases e : i = j + 1
    · rw [e]; exact List.prefix_refl _
    · exact (ih (by omega)).trans (List.prefix_append _ _)
theorem row_in (n : Nat) (b : Nat → Nat) (C : List Sq) (i : Nat) (hi : i < 11) (w : World) (h : Cov w b C) (hn : C.length ≤ 1000000) :
    CallsIn Fence.wide n Tryz.prog 113 #[.agg (covA b), .int .i64 i] w fun e w' => ∃ g c, e = .returned (.slice (some ⟨g, 0, none⟩) (rowS C i).length c) ∧ w.heap.size ≤ g ∧ g < w'.heap.size ∧ SqA w' w'.heap.size (some ⟨g, 0, none⟩) (rowS C i) ∧ Below w.heap.size w w' :=
  callsIn_wide.2 (row_any b C i hi w h hn)

theorem SqA.of_block {w w' : World} {B g : Nat} {L : List Sq} (h : SqA w B (some ⟨g, 0, none⟩) L) (hg : w'.heap[g]? = w.heap[g]?) : SqA w' B (some ⟨g, 0, none⟩) L := by
  intro i s hs
  obtain ⟨ad, ha, hb, h1, h2, h3⟩ := h i s hs
  cases ha
  have e : ((⟨g, 0, none⟩ : Addr).add (i * 3)).block = g := add_block _ _
  exact ⟨_, rfl, hb, (World.cell?_of_block (w := w) (by rw [e]; exact hg)).trans h1, (World.cell?_of_block (w := w) (by show w'.heap[((⟨g, 0, none⟩ : Addr).add (i * 3)).block]? = w.heap[((⟨g, 0, none⟩ : Addr).add (i * 3)).block]?; rw [e]; exact hg)).trans h2, (World.cell?_of_block (w := w) (by show w'.heap[((⟨g, 0, none⟩ : Addr).add (i * 3)).block]? = w.heap[((⟨g, 0, none⟩ : Addr).add (i * 3)).block]?; rw [e]; exact hg)).trans h3⟩
theorem grown_of_below {W W' : World} (h : Below W.heap.size W W') (row : Option Nat) : W.grownBy W' row := ⟨h.os, h.tape, h.output, h.size, fun i hi _ => h.block i hi⟩
theorem abide_below {β : Type} {B : Nat} {J : β → World → Prop} (h : AbidesFrom B J) {s : β} {X X' : World} (hs : J s X) (hb : Below X.heap.size X X') : J s X' :=
  h s X X' none hs (grown_of_below hb none) (fun r e => by cases e)

set_option maxRecDepth 100000 in
set_option maxHeartbeats 1000000 in
theorem squares_iter (B n : Nat) (hn1 : 1 ≤ n) (b : Nat → Nat) (Bc : Nat) (Cv : List Sq → List Sq) (I : List Sq → Option Nat → World → Prop)
    (hI : ∀ pre ow X, I pre ow X → Cov X b (Cv pre) ∧ X.heap[Bc]? = some (.cells (covA b) 54) ∧ (Cv pre).length ≤ 1000000 ∧ ∀ k, ow = some k → k < X.heap.size) :
    IterG B Tryz.prog n 112 #[.pointer (some ⟨Bc, 0, none⟩)] (fun s : Sq => #[sqv s]) I (fun pre x => x.okB = true ∧ pre ++ [x] <+: walkTo Cv 11) (fun xs => xs = walkTo Cv 11) (fun _ => True) := by
  intro l J Jx ow W hB hJ hJx hJI hY h0
  refine callsIn_of_wp Tryz.func112 rfl trivial ?_ rfl
  simp only [Tryz.ntmps112, List.size_toArray, List.length_cons, List.length_nil, Nat.reduceAdd, Nat.reduceSub, Array.replicate_succ, Array.replicate_zero, List.push_toArray, List.append_toArray, List.nil_append, List.cons_append]
  gi_wp2_with fail
  have HJ := Lib.hid hJ; have HJI := Lib.hid hJI; have HY := Lib.hid hY; have HI := Lib.hid hI; have H0 := Lib.hid h0
  clear hJ hJI hY hI h0 hJx
  gi_loopw [6] (fun k wr => ∃ (i : Nat) (ow' : Option Nat), k = .int .i64 (i : Int) ∧ i ≤ 11 ∧ J (walkTo Cv i) ow' wr ∧ W.heap.size ≤ wr.heap.size) (fun k _ => 11 - (intOf k).toNat)
  case atStart => exact ⟨0, ow, rfl, by omega, H0.out, Nat.le_refl _⟩
  case round =>
    obtain ⟨i, ow1, rfl, hi, hj, hsz⟩ := hrel
    have HJ1 := Lib.hid hj
    clear hj
    by_cases hlt : i < 11
    · obtain ⟨q0, q1, q2, q3, q4, q5, q6, q7, q8, q9, q10⟩ := cov_cells (HI.out _ _ _ (HJI.out _ _ _ HJ1.out)).2.1
      gi_wp2_with fail
      refine ⟨trivial, (row_in (n - 1) b (Cv (walkTo Cv i)) i hlt wr (HI.out _ _ _ (HJI.out _ _ _ HJ1.out)).1 (HI.out _ _ _ (HJI.out _ _ _ HJ1.out)).2.2.1).mono ?_⟩
      rintro e w1 ⟨g, c, rfl, hg1, hg2, hA, hb⟩
      have HJ2 := Lib.hid (abide_below (HJ.out ow1) HJ1.out (hb.mono (Nat.le_refl _)))
      have HRok := Lib.hid (show ∀ s ∈ rowS (Cv (walkTo Cv i)) i, s.okB = true from fun s hs => (HI.out _ _ _ (HJI.out _ _ _ HJ1.out)).1.ok s (mem_lvl.1 ((sortS_perm _).mem_iff.1 hs)).1)
      have HG := Lib.hid (show B ≤ g ∧ some g ≠ ow1 ∧ g < w1.heap.size ∧ SqA w1 w1.heap.size (some ⟨g, 0, none⟩) (rowS (Cv (walkTo Cv i)) i) from
        ⟨by omega, fun e => by have := (HI.out _ _ _ (HJI.out _ _ _ HJ1.out)).2.2.2 g e.symm; omega, hg2, hA⟩)
      have hsz1 : W.heap.size ≤ w1.heap.size := Nat.le_trans hsz hb.size
      have hml : (rowS (Cv (walkTo Cv i)) i).length ≤ 1000000 := Nat.le_trans (by rw [rowS, (sortS_perm _).length_eq]; exact List.length_filter_le _ _) (HI.out _ _ _ (HJI.out _ _ _ HJ1.out)).2.2.1
      have HW := Lib.hid (show walkTo Cv (i + 1) = walkTo Cv i ++ rowS (Cv (walkTo Cv i)) i from rfl)
      have HPf := Lib.hid (show ∀ (j : Nat) (x : Sq), (rowS (Cv (walkTo Cv i)) i)[j]? = some x → (walkTo Cv i ++ (rowS (Cv (walkTo Cv i)) i).take j) ++ [x] <+: walkTo Cv 11 from fun j x hx => by
        refine List.IsPrefix.trans ?_ (walk_mono Cv (show i + 1 ≤ 11 by omega))
        rw [HW.out, List.append_assoc]
        refine (List.prefix_append_right_inj _).2 ?_
        have e : (rowS (Cv (walkTo Cv i)) i).take (j + 1) = (rowS (Cv (walkTo Cv i)) i).take j ++ [x] := by rw [List.take_add_one, hx]; rfl
        rw [← e]; exact List.take_prefix _ _)
      clear hb hA hg1 hg2 q0 q1 q2 q3 q4 q5 q6 q7 q8 q9 q10
      generalize rowS (Cv (walkTo Cv i)) i = R at *
      generalize walkTo Cv i = pre at *
      generalize hm : R.length = m at *
      have HM := Lib.hid hm
      clear hm
      have HA := Lib.hid (show ∀ X : World, X.heap[g]? = w1.heap[g]? → SqA X w1.heap.size (some ⟨g, 0, none⟩) R from fun X hX => SqA.of_block HG.out.2.2.2 hX)
      generalize (⟨g, 0, none⟩ : Addr) = ad0 at *
      gi_wp2_with fail
      gi_loopw [13] (fun k X => ∃ (j : Nat) (ow2 : Option Nat), k = .int .i64 (j : Int) ∧ j ≤ m ∧ J (pre ++ R.take j) ow2 X ∧ some g ≠ ow2 ∧ X.heap[g]? = w1.heap[g]? ∧ w1.heap.size ≤ X.heap.size) (fun k _ => m - (intOf k).toNat)
      case atStart => exact ⟨0, ow1, rfl, by omega, by rw [List.take_zero, List.append_nil]; exact HJ2.out, HG.out.2.1, rfl, Nat.le_refl _⟩
      case round =>
        obtain ⟨j, ow2, rfl, hj, hj2, hne2, hblk, hsz2⟩ := hrel
        have HJ3 := Lib.hid hj2
        have HN2 := Lib.hid hne2
        have HB2 := Lib.hid hblk
        clear hj2 hne2 hblk
        by_cases hlt2 : j < m
        · obtain ⟨x, ad, hx, hxm, had, hadb, c1, c2, c3⟩ := (HA.out _ HB2.out).at_ HM.out hlt2
          injection had with had
          subst had
          have HX := Lib.hid hx
          have hxo := HRok.out x hxm
          have hjn := abide_below (HJ.out ow2) HJ3.out (below_new (.cells #[.int .i64 x.l, .int .i64 x.x, .int .i64 x.y] 31))
          obtain ⟨fn, tmps, assign, body, hy, hR⟩ := HY.out _ x ow2 _ hjn ⟨hxo, HPf.out j x HX.out⟩
          have HR := Lib.hid hR
          unfold sqv at hy
          clear hx hxm hadb hjn hR hxo
          gi_wp2_with fail
          refine HR.out.mono ?_
          rintro e W3 (⟨rfl, ow3, hj3, hgr, hka⟩ | ⟨rfl, hjx⟩)
          · have H3 := Lib.hid (show J (pre ++ R.take (j + 1)) ow3 W3 ∧ some g ≠ ow3 ∧ W3.heap[g]? = w1.heap[g]? ∧ w1.heap.size ≤ W3.heap.size from by
              have hs3 := hka.size
              rw [World.size_alloc] at hs3
              refine ⟨by rw [List.take_add_one, HX.out, ← List.append_assoc]; exact hj3, ?_, ?_, by omega⟩
              · rcases hgr with h | ⟨k, h, hk⟩
                · rw [h]; exact HN2.out
                · rw [h]; intro e; cases e; have := HG.out.2.2.1; simp at hk; omega
              · have hg : w1.heap[g]? = some (w1.heap[g]'HG.out.2.2.1) := Array.getElem?_eq_getElem _
                rw [hg]
                exact hka.same g _ HG.out.1 ((Below.heap_alloc _ _ _ (by have := HG.out.2.2.1; omega)).trans (HB2.out.trans hg)) HN2.out)
            clear hj3 hgr hka
            gi_wp2_with fail
            go_roundw
            case rel => exact ⟨j + 1, ow3, by go_num, by omega, H3.out⟩
            case measure => simp [intOf]; omega
          · have HX3 := Lib.hid hjx
            clear hjx
            gi_wp2_with fail
            refine bodyPost_ret (results_none rfl _ _ _) rfl ?_
            exact ⟨⟨_, rfl⟩, .inr ⟨_, trivial, HX3.out⟩⟩
        · have ej : j = m := by omega
          have HJ4 := Lib.hid (show J (walkTo Cv (i + 1)) ow2 wr from by
            rw [HW.out]
            have h := HJ3.out
            rw [List.take_of_length_le (by have := HM.out; omega)] at h
            exact h)
          gi_wp2_with fail
          go_roundw
          case rel => exact ⟨i + 1, ow2, by go_num, by omega, HJ4.out, by omega⟩
          case measure => simp [intOf]; omega
    · have ei : i = 11 := by omega
      have HJ4 := Lib.hid (show J (walkTo Cv 11) ow1 wr from by rw [← ei]; exact HJ1.out)
      gi_wp2_with fail
      refine bodyPost_end (results_none rfl _ _ _) rfl ?_
      exact ⟨⟨_, rfl⟩, .inl ⟨_, ow1, rfl, HJ4.out⟩⟩
end Go.Proofs.YtabolonlkocopaaGreatDoor
