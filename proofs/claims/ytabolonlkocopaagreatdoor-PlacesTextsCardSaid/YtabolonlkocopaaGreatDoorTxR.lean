/- The reference reads squares and nights of texts. -/
import Derived.Test.YtabolonlkocopaaGreatDoorTxS
namespace Go.Proofs.YtabolonlkocopaaGreatDoor
open Go.RowKit Go.Plc

theorem ref_none {cs : List UInt8} (h : partsS cs = none) : parseS cs = (⟨0, 0, 0⟩, 13) := by rw [← parse_ref, h]
theorem ref_len {cs : List UInt8} {L : List Int} (h : partsS cs = some L) (h3 : L.length ≠ 3) : parseS cs = (⟨0, 0, 0⟩, 13) := by
  rw [← parse_ref, h]
  match L, h3 with
  | [], _ => rfl
  | [_], _ => rfl
  | [_, _], _ => rfl
  | [_, _, _], h3 => exact absurd rfl h3
  | _ :: _ :: _ :: _ :: _, _ => rfl
theorem ref_three {cs : List UInt8} {a b c : Int} (h : partsS cs = some [a, b, c]) : parseS cs = if (Sq.mk a b c).okB && decide (sqT ⟨a, b, c⟩ = cs) then (⟨a, b, c⟩, 0) else (⟨0, 0, 0⟩, 13) := by rw [← parse_ref, h]

set_option maxRecDepth 100000 in
set_option maxHeartbeats 4000000 in
theorem rParseSquare_any (cs : List UInt8) (w : World) (hc : cs.length ≤ 1000000) :
    Calls Tryz.prog 30 #[.string ⟨cs.toArray⟩] w fun e w' => e = .returned (.tuple #[sqv (parseS cs).1, .int .i64 (parseS cs).2]) ∧ Below w.heap.size w w' := by
  have HNu := Lib.hid (rparts_any cs (w.alloc (.cells #[.int .i64 0, .int .i64 0, .int .i64 0] 31)) hc)
  go_enter Tryz.func30, Tryz.ntmps30
  go_wp2_with fail
  refine HNu.out.mono ?_
  rintro e w1 ⟨(⟨L, v, hp, rfl, hown⟩ | ⟨hp, rfl⟩), hb1⟩
  · have hx1 := (hb1.block w.heap.size (by simp)).trans (World.alloc_heap_new w (.cells #[.int .i64 0, .int .i64 0, .int .i64 0] 31))
    by_cases h3 : L.length = 3
    · obtain ⟨a, b, c, rfl⟩ : ∃ a b c, L = [a, b, c] := by
        match L, h3 with
        | [a, b, c], _ => exact ⟨a, b, c, rfl⟩
      have HPa := Lib.hid (ref_three hp)
      obtain ⟨g, cap, rfl, hg, c0, c1, c2⟩ := own3 hown
      have HB1 := Lib.hid hb1
      have HX1 := Lib.hid hx1
      have HPr := Lib.hid (fun w => rPrintSquare_any ⟨a, b, c⟩ w)
      unfold sqv at HPr
      clear hown hb1 hx1 hp h3 HNu
      go_wp2_with fail
      go_region
      have H3 := Lib.hid (show ∀ Y, Y = (w1.alloc (.cells #[.int .i64 a, .int .i64 b, .int .i64 c] 31)).drew → Below w.heap.size w Y ∧ Y.heap[w1.heap.size]? = some (.cells #[.int .i64 a, .int .i64 b, .int .i64 c] 31) ∧ Y.heap[w.heap.size]? = some (.cells #[.int .i64 0, .int .i64 0, .int .i64 0] 31) from by
        rintro Y rfl
        have hb0 : Below w.heap.size w w1 := (below_new _).trans (HB1.out.mono (by simp))
        exact ⟨(hb0.trans ((below_new _).mono hb0.size)).drew, World.alloc_heap_new w1 _, (Below.heap_alloc _ _ _ (Array.getElem?_eq_some_iff.1 HX1.out).1).trans HX1.out⟩)
      simp only [Exit.then]
      generalize hY3 : (w1.alloc (.cells #[.int .i64 a, .int .i64 b, .int .i64 c] 31)).drew = Y3
      have H4 := Lib.hid (H3.out Y3 hY3.symm)
      clear H3 hY3 HB1 HX1 c0 c1 c2
      generalize w1.heap.size = gq at *
      have fin := Lib.hid (show ∀ Y : World, Below Y3.heap.size Y3 Y → Y.heap[gq]? = some (.cells #[.int .i64 a, .int .i64 b, .int .i64 c] 31) ∧ Y.heap[w.heap.size]? = some (.cells #[.int .i64 0, .int .i64 0, .int .i64 0] 31) ∧ Below w.heap.size w Y from fun Y hb =>
        ⟨(hb.block _ (Array.getElem?_eq_some_iff.1 H4.out.2.1).1).trans H4.out.2.1, (hb.block _ (Array.getElem?_eq_some_iff.1 H4.out.2.2).1).trans H4.out.2.2, H4.out.1.trans (hb.mono H4.out.1.size)⟩)
      obtain ⟨a0, a1, a2⟩ := date_cells H4.out.2.1
      have hbe := bytes_eq (sqT ⟨a, b, c⟩) cs
      cases hok : Sq.okB ⟨a, b, c⟩
      · have HR := Lib.hid (show parseS cs = (⟨0, 0, 0⟩, 13) by rw [HPa.out, hok]; rfl)
        rw [show printOut ⟨a, b, c⟩ = ([], 10) by unfold printOut; rw [hok]; rfl] at HPr
        clear hok hbe HPa
        go_wp2_with fail
        refine (HPr.out _).mono ?_
        rintro e Y4 ⟨rfl, hb4⟩
        have F := Lib.hid (fin.out Y4 hb4)
        obtain ⟨z0, z1, z2⟩ := date_cells F.out.2.1
        have hfz := frozen_row F.out.2.1
        have hsz : w.heap.size < Y4.heap.size := (Array.getElem?_eq_some_iff.1 F.out.2.1).1
        clear hb4 a0 a1 a2
        go_wp2_with fail
        refine bodyPost_ret (v := .tuple #[.agg #[.int .i64 0, .int .i64 0, .int .i64 0], .int .i64 13]) (by simp [results, Tryz.results30, go_sem, z0, z1, z2]) rfl ⟨by rw [HR.out]; rfl, ?_⟩
        have hb0 := F.out.2.2
        iterate 3 (refine Below.setCell (p := ⟨w.heap.size, _, none⟩) ?_ (Nat.le_refl w.heap.size) _)
        exact hb0
      · rw [show printOut ⟨a, b, c⟩ = (sqT ⟨a, b, c⟩, 0) by unfold printOut; rw [hok]; rfl] at HPr
        have HRf := Lib.hid (fun h : sqT ⟨a, b, c⟩ ≠ cs => show parseS cs = (⟨0, 0, 0⟩, 13) by rw [HPa.out, hok]; simp [h])
        have HRt := Lib.hid (fun h : sqT ⟨a, b, c⟩ = cs => show parseS cs = (⟨a, b, c⟩, 0) by rw [HPa.out, hok]; simp [h])
        clear hok HPa
        by_cases hsq : sqT ⟨a, b, c⟩ = cs
        · have HR := Lib.hid (HRt.out hsq)
          rw [show decide (sqT ⟨a, b, c⟩ = cs) = true by simpa using hsq] at hbe
          clear hsq HRt HRf
          generalize sqT ⟨a, b, c⟩ = tx at *
          generalize (⟨tx.toArray⟩ : ByteArray) = s1 at *
          go_wp2_with fail
          refine (HPr.out _).mono ?_
          rintro e Y5 ⟨rfl, hb5⟩
          have F5 := Lib.hid (fin.out Y5 hb5)
          obtain ⟨a0, a1, a2⟩ := date_cells F5.out.1
          obtain ⟨z0, z1, z2⟩ := date_cells F5.out.2.1
          have hfz := frozen_row F5.out.2.1
          have hsz : w.heap.size < Y5.heap.size := (Array.getElem?_eq_some_iff.1 F5.out.2.1).1
          clear hb5
          go_wp2_with fail
          refine bodyPost_ret (v := .tuple #[.agg #[.int .i64 a, .int .i64 b, .int .i64 c], .int .i64 0]) (by simp [results, Tryz.results30, go_sem, z0, z1, z2]) rfl ⟨by rw [HR.out]; rfl, ?_⟩
          have hb0 := F5.out.2.2
          iterate 3 (refine Below.setCell (p := ⟨w.heap.size, _, none⟩) ?_ (Nat.le_refl w.heap.size) _)
          exact hb0
        · have HR := Lib.hid (HRf.out hsq)
          rw [show decide (sqT ⟨a, b, c⟩ = cs) = false by simpa using hsq] at hbe
          clear hsq HRt HRf
          generalize sqT ⟨a, b, c⟩ = tx at *
          generalize (⟨tx.toArray⟩ : ByteArray) = s1 at *
          go_wp2_with fail
          refine (HPr.out _).mono ?_
          rintro e Y5 ⟨rfl, hb5⟩
          have F5 := Lib.hid (fin.out Y5 hb5)
          obtain ⟨z0, z1, z2⟩ := date_cells F5.out.2.1
          have hfz := frozen_row F5.out.2.1
          have hsz : w.heap.size < Y5.heap.size := (Array.getElem?_eq_some_iff.1 F5.out.2.1).1
          clear hb5 a0 a1 a2
          go_wp2_with fail
          refine bodyPost_ret (v := .tuple #[.agg #[.int .i64 0, .int .i64 0, .int .i64 0], .int .i64 13]) (by simp [results, Tryz.results30, go_sem, z0, z1, z2]) rfl ⟨by rw [HR.out]; rfl, ?_⟩
          have hb0 := F5.out.2.2
          iterate 3 (refine Below.setCell (p := ⟨w.heap.size, _, none⟩) ?_ (Nat.le_refl w.heap.size) _)
          exact hb0
    · have HR := Lib.hid (ref_len hp h3)
      obtain ⟨A, c, rfl⟩ := own_form hown
      have HB1 := Lib.hid hb1
      obtain ⟨z0, z1, z2⟩ := date_cells hx1
      have hfz := frozen_row hx1
      have hsz : w.heap.size < w1.heap.size := (Array.getElem?_eq_some_iff.1 hx1).1
      clear hown hb1 hx1 hp HNu
      generalize L.length = k at *
      have hk : ((k : Int) != 3) = true := by simp; omega
      go_wp2_with fail
      refine bodyPost_ret (v := .tuple #[.agg #[.int .i64 0, .int .i64 0, .int .i64 0], .int .i64 13]) (by simp [results, Tryz.results30, go_sem, z0, z1, z2]) rfl ⟨by rw [HR.out]; rfl, ?_⟩
      have hb0 : Below w.heap.size w w1 := (below_new _).trans (HB1.out.mono (by simp))
      iterate 3 (refine Below.setCell (p := ⟨w.heap.size, _, none⟩) ?_ (Nat.le_refl w.heap.size) _)
      exact hb0
  · have hx1 := (hb1.block w.heap.size (by simp)).trans (World.alloc_heap_new w (.cells #[.int .i64 0, .int .i64 0, .int .i64 0] 31))
    have HR := Lib.hid (ref_none hp)
    have HB1 := Lib.hid hb1
    obtain ⟨z0, z1, z2⟩ := date_cells hx1
    have hfz := frozen_row hx1
    have hsz : w.heap.size < w1.heap.size := (Array.getElem?_eq_some_iff.1 hx1).1
    clear hb1 hx1 hp HNu
    go_wp2_with fail
    refine bodyPost_ret (v := .tuple #[.agg #[.int .i64 0, .int .i64 0, .int .i64 0], .int .i64 13]) (by simp [results, Tryz.results30, go_sem, z0, z1, z2]) rfl ⟨by rw [HR.out]; rfl, ?_⟩
    have hb0 : Below w.heap.size w w1 := (below_new _).trans (HB1.out.mono (by simp))
    iterate 3 (refine Below.setCell (p := ⟨w.heap.size, _, none⟩) ?_ (Nat.le_refl w.heap.size) _)
    exact hb0
end Go.Proofs.YtabolonlkocopaaGreatDoor
