
/- awake: the examples of the document. -/
import Derived.Test.YtabolonlkocopaaGreatDoorMns
import Derived.Test.YtabolonlkocopaaGreatDoorCoa
import Derived.Test.YtabolonlkocopaaGreatDoorPsq
import Derived.Test.YtabolonlkocopaaGreatDoorSame
namespace Go.Proofs.YtabolonlkocopaaGreatDoor
open Go.RowKit Go.Plc

theorem lit_sq (w : World) (L : List Sq) (cs : Array Value) (n : Nat) (hn : L.length = n) (hc : cs.toList = cellsOf L) : SqSl (w.alloc (.cells cs 31)) (w.alloc (.cells cs 31)).heap.size (.slice (some ⟨w.heap.size, 0, none⟩) n n) L := by
  subst hn
  exact ⟨_, _, rfl, holds_sqA (holds_row (World.alloc_heap_new w _) (by rw [hc]; exact List.take_of_length_le (by rw [cellsOf_len]; exact Nat.le_refl _))) (by simp)⟩
def csN : Array Value := #[.int .i64 0, .int .i64 4, .int .i64 2, .int .i64 0, .int .i64 5, .int .i64 2, .int .i64 0, .int .i64 4, .int .i64 3, .int .i64 0, .int .i64 5, .int .i64 3, .int .i64 0, .int .i64 9, .int .i64 9]
def csS : Array Value := #[.int .i64 0, .int .i64 9, .int .i64 9, .int .i64 1, .int .i64 2, .int .i64 1]
def csM : Array Value := #[.int .i64 0, .int .i64 4, .int .i64 2, .int .i64 0, .int .i64 5, .int .i64 2, .int .i64 0, .int .i64 4, .int .i64 3]
def csC : Array Value := #[.int .i64 2, .int .i64 1, .int .i64 0, .int .i64 2, .int .i64 2, .int .i64 2]
def exN : List Sq := [⟨0, 4, 2⟩, ⟨0, 5, 2⟩, ⟨0, 4, 3⟩, ⟨0, 5, 3⟩, ⟨0, 9, 9⟩]
def exS : List Sq := [⟨0, 9, 9⟩, ⟨1, 2, 1⟩]
def exM : List Sq := [⟨0, 4, 2⟩, ⟨0, 5, 2⟩, ⟨0, 4, 3⟩]
def exC : List Sq := [⟨2, 1, 0⟩, ⟨2, 2, 2⟩]
theorem exN_eq : normalOut exN = (exS, 0) := by decide +kernel
theorem exM_eq : minusOut [⟨1, 2, 1⟩] [⟨0, 5, 3⟩] = (exM, 0) := by decide +kernel
theorem exC_eq : coarseOut exS 2 = (exC, 0) := by decide +kernel
theorem exP_eq : parseS [51, 58, 48, 53, 44, 50] = (⟨0, 0, 0⟩, 13) := by decide +kernel
theorem exT_eq : nightT 0 12 31 1 1 1 = [50, 48, 48, 48, 45, 49, 50, 45, 51, 49, 47, 50, 48, 48, 49, 45, 48, 49, 45, 48, 49] := by decide +kernel
theorem date_one {y m d y' m' d' : Int} (h : vdate y m d = true) (h' : vdate y' m' d' = true) (e : num y m d = num y' m' d') : y = y' ∧ m = m' ∧ d = d' := by
  obtain ⟨a1, a2, a3, a4, a5, a6⟩ := (vdate_iff _ _ _).1 h
  obtain ⟨b1, b2, b3, b4, b5, b6⟩ := (vdate_iff _ _ _).1 h'
  exact num_inj a3 a4 a5 a6 b3 b4 b5 b6 e
theorem sample_any (w : World) : Calls Tryz.prog 35 #[] w fun e w' => e = .returned (.slice (some ⟨w.heap.size, 0, none⟩) 2 2) ∧ w' = w.alloc (.cells csS 31) := by
  go_enter Tryz.func35, Tryz.ntmps35
  go_wp2_with fail
  go_ret
  exact ⟨rfl, rfl⟩

set_option maxRecDepth 100000 in
set_option maxHeartbeats 8000000 in
theorem awake_any (w : World) (hM : MonthDays w) (hT : TabW w) :
    Calls Tryz.prog 6 #[] w fun e w' => e = .returned (.bool true) ∧ Below w.heap.size w w' := by
  have HM := Lib.hid hM
  have HT := Lib.hid hT
  clear hM hT
  have HN := Lib.hid (Normal_any _ exN _ (lit_sq w exN csN 5 (by kernel_rfl) (by kernel_rfl)) (by decide))
  rw [exN_eq] at HN
  unfold csN at HN
  go_enter Tryz.func6, Tryz.ntmps6
  go_wp2_with fail
  refine HN.out.mono ?_
  rintro e w1 ⟨⟨A1, c1, rfl, hA1⟩, hb1⟩
  have H1 := Lib.hid (show Below w.heap.size w w1 ∧ SqSl w1 w1.heap.size (.slice A1 exS.length c1) exS from ⟨(below_new _).trans (hb1.mono (by simp)), A1, c1, rfl, hA1⟩)
  clear hA1 hb1 HN
  rw [show exS.length = 2 from rfl] at H1 ⊢
  generalize (Value.slice A1 2 c1) = v1 at *
  have HMi := Lib.hid (Minus_any _ _ [⟨1, 2, 1⟩] [⟨0, 5, 3⟩] _ (((lit_sq w1 [⟨1, 2, 1⟩] #[.int .i64 1, .int .i64 2, .int .i64 1] 1 (by kernel_rfl) (by kernel_rfl)).below (below_new _)).mono (by simp)) (lit_sq (w1.alloc (.cells #[.int .i64 1, .int .i64 2, .int .i64 1] 31)) [⟨0, 5, 3⟩] #[.int .i64 0, .int .i64 5, .int .i64 3] 1 (by kernel_rfl) (by kernel_rfl)) (by decide) (by decide))
  rw [exM_eq, World.size_alloc] at HMi
  have HMb := Lib.hid (show ∀ X, Below ((w1.alloc (.cells #[.int .i64 1, .int .i64 2, .int .i64 1] 31)).alloc (.cells #[.int .i64 0, .int .i64 5, .int .i64 3] 31)).heap.size ((w1.alloc (.cells #[.int .i64 1, .int .i64 2, .int .i64 1] 31)).alloc (.cells #[.int .i64 0, .int .i64 5, .int .i64 3] 31)) X → Below w1.heap.size w1 X from
    fun X h => ((below_new _).trans ((below_new _).mono (by simp))).trans (h.mono (by simp; omega)))
  go_wp2_with fail
  refine HMi.out.mono ?_
  rintro e w2 ⟨⟨A2, c2, rfl, hA2⟩, hb2⟩
  have H2 := Lib.hid (show Below w1.heap.size w1 w2 ∧ SqSl w2 w2.heap.size (.slice A2 exM.length c2) exM from ⟨HMb.out _ hb2, A2, c2, rfl, hA2⟩)
  clear hA2 hb2 HMi HMb
  rw [show exM.length = 3 from rfl] at H2 ⊢
  generalize (Value.slice A2 3 c2) = v2 at *
  go_wp2_with fail
  refine (sample_any w2).mono ?_
  rintro e w3 ⟨rfl, rfl⟩
  have HC := Lib.hid (Coarse_any _ exS 2 _ (lit_sq w2 exS csS 2 (by kernel_rfl) (by kernel_rfl)) (by decide))
  rw [exC_eq] at HC
  go_wp2_with fail
  refine HC.out.mono ?_
  rintro e w3 ⟨⟨A3, c3, rfl, hA3⟩, hb3⟩
  have H3 := Lib.hid (show Below w2.heap.size w2 w3 ∧ SqSl w3 w3.heap.size (.slice A3 exC.length c3) exC from ⟨(below_new _).trans (hb3.mono (by simp)), A3, c3, rfl, hA3⟩)
  clear hA3 hb3 HC
  rw [show exC.length = 2 from rfl] at H3 ⊢
  generalize (Value.slice A3 2 c3) = v3 at *
  have HB3 := Lib.hid (show Below w.heap.size w w2 ∧ Below w.heap.size w w3 from ⟨H1.out.1.trans (H2.out.1.mono H1.out.1.size), (H1.out.1.trans (H2.out.1.mono H1.out.1.size)).trans (H3.out.1.mono (H1.out.1.trans (H2.out.1.mono H1.out.1.size)).size)⟩)
  have HNi := Lib.hid (NightOf_any 0 2 29 w3 (HM.out.below HB3.out.2))
  rw [show nightV 0 2 29 = 59 by decide +kernel, show nightE 0 2 29 = 0 by decide +kernel] at HNi
  go_wp2_with fail
  refine HNi.out.mono ?_
  rintro e w4 ⟨rfl, hb4⟩
  have H4 := Lib.hid (show Below w3.heap.size w3 w4 from hb4)
  clear hb4 HNi
  have HB4 := Lib.hid (HB3.out.2.trans (H4.out.mono HB3.out.2.size))
  have HD := Lib.hid (DateOf_any 99999 w4 (HM.out.below HB4.out))
  go_wp2_with fail
  refine HD.out.mono ?_
  rintro e w5 ⟨(⟨_, _, y, m, d, rfl, hvd, hnm⟩ | ⟨hno, rfl⟩), hb5⟩
  · obtain ⟨rfl, rfl, rfl⟩ := date_one hvd (show vdate 273 10 15 = true by decide +kernel) (hnm.trans (by decide +kernel))
    have H5 := Lib.hid (show Below w4.heap.size w4 (w5.alloc (.cells #[.int .i64 273, .int .i64 10, .int .i64 15] 48)) ∧ (w5.alloc (.cells #[.int .i64 273, .int .i64 10, .int .i64 15] 48)).heap[w5.heap.size]? = some (.cells #[.int .i64 273, .int .i64 10, .int .i64 15] 48) from ⟨hb5.trans ((below_new _).mono hb5.size), World.alloc_heap_new w5 _⟩)
    clear hb5 HD hvd hnm
    have HB5 := Lib.hid (HB4.out.trans (H5.out.1.mono HB4.out.size))
    have HP := Lib.hid (PrintNight_any 365 (w5.alloc (.cells #[.int .i64 273, .int .i64 10, .int .i64 15] 48)) (HM.out.below HB5.out) (HT.out.below HB5.out))
    go_wp2_with fail
    generalize hW5 : w5.alloc (.cells #[.int .i64 273, .int .i64 10, .int .i64 15] 48) = W5 at *
    clear hW5
    generalize w5.heap.size = gd at *
    refine HP.out.mono ?_
    rintro e w6 ⟨(⟨_, _, y, m, d, y', m', d', rfl, hvd, hnm, hvd', hnm'⟩ | ⟨hno, rfl⟩), hb6⟩
    · obtain ⟨rfl, rfl, rfl⟩ := date_one hvd (show vdate 0 12 31 = true by decide +kernel) (hnm.trans (by decide +kernel))
      obtain ⟨rfl, rfl, rfl⟩ := date_one hvd' (show vdate 1 1 1 = true by decide +kernel) (hnm'.trans (by decide +kernel))
      rw [exT_eq]
      have H6 := Lib.hid (show Below W5.heap.size W5 w6 from hb6)
      clear hb6 HP hvd hnm hvd' hnm'
      have HB6 := Lib.hid (HB5.out.trans (H6.out.mono HB5.out.size))
      have HPs := Lib.hid (ParseSquare_any [51, 58, 48, 53, 44, 50] w6 (HT.out.below HB6.out) (by decide))
      rw [exP_eq] at HPs
      unfold sqv at HPs
      go_wp2_with fail
      refine HPs.out.mono ?_
      rintro e w7 ⟨rfl, hb7⟩
      have H7 := Lib.hid (show Below w6.heap.size w6 w7 from hb7)
      clear hb7 HPs
      have HX := Lib.hid (show Below w.heap.size w w7 ∧ SqSl w7 w7.heap.size v1 exS ∧ SqSl w7 w7.heap.size v2 exM ∧ SqSl w7 w7.heap.size v3 exC ∧ w7.heap[gd]? = some (.cells #[.int .i64 273, .int .i64 10, .int .i64 15] 48) from by
        have k3 : Below w3.heap.size w3 w7 := ((H4.out.trans (H5.out.1.mono H4.out.size)).trans (H6.out.mono (Nat.le_trans H4.out.size H5.out.1.size))).trans (H7.out.mono (Nat.le_trans (Nat.le_trans H4.out.size H5.out.1.size) H6.out.size))
        have k2 : Below w2.heap.size w2 w7 := H3.out.1.trans (k3.mono H3.out.1.size)
        have k1 : Below w1.heap.size w1 w7 := H2.out.1.trans (k2.mono H2.out.1.size)
        exact ⟨H1.out.1.trans (k1.mono H1.out.1.size), (H1.out.2.below k1).mono k1.size, (H2.out.2.below k2).mono k2.size, (H3.out.2.below k3).mono k3.size, ((H6.out.trans (H7.out.mono H6.out.size)).block _ (Array.getElem?_eq_some_iff.1 H5.out.2).1).trans H5.out.2⟩)
      clear H1 H2 H3 H4 H5 H6 H7 HB3 HB4 HB5 HB6
      have HXa := Lib.hid (show Below w.heap.size w (w7.alloc (.cells #[.int .i64 0, .int .i64 0, .int .i64 0] 31)) ∧ SqSl (w7.alloc (.cells #[.int .i64 0, .int .i64 0, .int .i64 0] 31)) (w7.alloc (.cells #[.int .i64 0, .int .i64 0, .int .i64 0] 31)).heap.size v1 exS ∧ SqSl (w7.alloc (.cells #[.int .i64 0, .int .i64 0, .int .i64 0] 31)) (w7.alloc (.cells #[.int .i64 0, .int .i64 0, .int .i64 0] 31)).heap.size v2 exM ∧ SqSl (w7.alloc (.cells #[.int .i64 0, .int .i64 0, .int .i64 0] 31)) (w7.alloc (.cells #[.int .i64 0, .int .i64 0, .int .i64 0] 31)).heap.size v3 exC ∧ (w7.alloc (.cells #[.int .i64 0, .int .i64 0, .int .i64 0] 31)).heap[gd]? = some (.cells #[.int .i64 273, .int .i64 10, .int .i64 15] 48) from
        ⟨HX.out.1.trans ((below_new _).mono HX.out.1.size), (HX.out.2.1.below (below_new _)).mono (by simp), (HX.out.2.2.1.below (below_new _)).mono (by simp), (HX.out.2.2.2.1.below (below_new _)).mono (by simp), (Below.heap_alloc _ _ _ (Array.getElem?_eq_some_iff.1 HX.out.2.2.2.2).1).trans HX.out.2.2.2.2⟩)
      have hdz : gd < w7.heap.size := (Array.getElem?_eq_some_iff.1 HX.out.2.2.2.2).1
      clear HX
      go_wp2_with fail
      generalize hW7 : w7.alloc (.cells #[.int .i64 0, .int .i64 0, .int .i64 0] 31) = W7 at *
      clear hW7 hdz
      generalize w7.heap.size = g7 at *
      have HX := HXa
      clear HXa
      have HS1 := Lib.hid (SameSquares_any v1 _ exS exS _ ((HX.out.2.1.below (below_new _)).mono (by simp)) (lit_sq W7 exS csS 2 (by kernel_rfl) (by kernel_rfl)) (by decide))
      rw [show decide (exS = exS) = true by decide] at HS1
      refine (sample_any W7).mono ?_
      rintro e wa ⟨rfl, rfl⟩
      go_wp2_with fail
      refine HS1.out.mono ?_
      rintro e w8 ⟨rfl, hb8⟩
      have H8 := Lib.hid (show Below W7.heap.size W7 w8 from (below_new _).trans (hb8.mono (by simp)))
      clear hb8 HS1
      have HS2 := Lib.hid (SameSquares_any v2 _ exM exM _ ((((HX.out.2.2.1.below H8.out).mono H8.out.size).below (below_new _)).mono (by simp)) (lit_sq w8 exM csM 3 (by kernel_rfl) (by kernel_rfl)) (by decide))
      rw [show decide (exM = exM) = true by decide] at HS2
      unfold csM at HS2
      go_wp2_with fail
      refine HS2.out.mono ?_
      rintro e w9 ⟨rfl, hb9⟩
      have H9 := Lib.hid (show Below W7.heap.size W7 w9 from H8.out.trans (((below_new _).trans (hb9.mono (by simp))).mono H8.out.size))
      clear hb9 HS2 H8
      have HS3 := Lib.hid (SameSquares_any v3 _ exC exC _ ((((HX.out.2.2.2.1.below H9.out).mono H9.out.size).below (below_new _)).mono (by simp)) (lit_sq w9 exC csC 2 (by kernel_rfl) (by kernel_rfl)) (by decide))
      rw [show decide (exC = exC) = true by decide] at HS3
      unfold csC at HS3
      go_wp2_with fail
      refine HS3.out.mono ?_
      rintro e w10 ⟨rfl, hb10⟩
      have H10 := Lib.hid (show Below W7.heap.size W7 w10 from H9.out.trans (((below_new _).trans (hb10.mono (by simp))).mono H9.out.size))
      clear hb10 HS3 H9
      have hdb := (H10.out.block _ (Array.getElem?_eq_some_iff.1 HX.out.2.2.2.2).1).trans HX.out.2.2.2.2
      obtain ⟨d0, d1, d2⟩ := date_cells hdb
      clear hdb
      go_wp2_with fail
      go_ret
      exact ⟨rfl, HX.out.1.trans (H10.out.mono HX.out.1.size)⟩
    · exact absurd (by omega) hno
  · exact absurd (by omega) hno
end Go.Proofs.YtabolonlkocopaaGreatDoor
