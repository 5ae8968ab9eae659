
/- ParseSquare. -/
import Derived.Test.YtabolonlkocopaaGreatDoorNum
namespace Go.Proofs.YtabolonlkocopaaGreatDoor
open Go.RowKit Go.Plc

def sqM : List UInt8 := [58, 44]
def parseS (cs : List UInt8) : Sq × Int :=
  match numsS sqM cs with
  | [a, b, c] => if (Sq.mk a b c).okB && decide (sqT ⟨a, b, c⟩ = cs) then (⟨a, b, c⟩, 0) else (⟨0, 0, 0⟩, 13)
  | _ => (⟨0, 0, 0⟩, 13)
theorem own_form {w : World} {base n : Nat} {t : TypeId} {z : Nat} {v : Value} {xs : List Value} (h : w.ownsRow base t z v n xs) : ∃ A c, v = .slice A n c := by
  rcases h.2 with ⟨rfl, rfl⟩ | ⟨g, cap, cur, rfl, _⟩
  · exact ⟨none, 0, rfl⟩
  · exact ⟨_, _, rfl⟩
theorem own3 {w : World} {base : Nat} {v : Value} {a b c : Int} (h : w.ownsRow base 3 1 v 3 (intsV [a, b, c])) : ∃ g cap, v = .slice (some ⟨g, 0, none⟩) 3 cap ∧ g < w.heap.size ∧ w.cell? ⟨g, 0, none⟩ = some (.int .i64 a) ∧ w.cell? ⟨g, 1, none⟩ = some (.int .i64 b) ∧ w.cell? ⟨g, 2, none⟩ = some (.int .i64 c) := by
  have h' := h
  obtain ⟨hl, ⟨_, h0⟩ | ⟨g, cap, cur, rfl, hb, hg, _⟩⟩ := h
  · omega
  · exact ⟨g, cap, rfl, (Array.getElem?_eq_some_iff.1 hg).1, by rw [h'.cellAt 0 (by decide)]; rfl, by rw [h'.cellAt 1 (by decide)]; rfl, by rw [h'.cellAt 2 (by decide)]; rfl⟩
theorem bytes_eq (a b : List UInt8) : ((⟨a.toArray⟩ : ByteArray).toList == b) = decide (a = b) := by
  rw [ByteArray.toList_eq, Bool.eq_iff_iff]; simp

theorem parse_bad {cs : List UInt8} (h : (numsS sqM cs).length ≠ 3) : parseS cs = (⟨0, 0, 0⟩, 13) := by
  unfold parseS
  split
  · rename_i a b c e; rw [e] at h; simp at h
  · rfl
set_option maxRecDepth 100000 in
set_option maxHeartbeats 4000000 in
theorem ParseSquare_any (cs : List UInt8) (w : World) (hT : TabW w) (hc : cs.length ≤ 1000000) :
    Calls Tryz.prog 29 #[.string ⟨cs.toArray⟩] w fun e w' => e = .returned (.tuple #[sqv (parseS cs).1, .int .i64 (parseS cs).2]) ∧ Below w.heap.size w w' := by
  have HT := Lib.hid hT
  have HNu := Lib.hid (numbers_any cs sqM (w.alloc (.cells #[.int .i64 0, .int .i64 0, .int .i64 0] 31)) hc (by decide))
  unfold sqM at HNu
  clear hT
  by_cases h3 : (numsS sqM cs).length = 3
  · obtain ⟨a, b, c, habc⟩ : ∃ a b c, numsS sqM cs = [a, b, c] := by
      match h : numsS sqM cs, h3 with
      | [a, b, c], _ => exact ⟨a, b, c, rfl⟩
    have HNs := Lib.hid habc
    have HPa := Lib.hid (show parseS cs = if (Sq.mk a b c).okB && decide (sqT ⟨a, b, c⟩ = cs) then (⟨a, b, c⟩, 0) else (⟨0, 0, 0⟩, 13) by unfold parseS; rw [habc])
    have HVs := Lib.hid (fun w => ValidSquare_any a b c w)
    unfold sqM at habc
    rw [habc] at HNu
    clear h3 habc
    go_enter Tryz.func29, Tryz.ntmps29
    go_wp2_with fail
    refine HNu.out.mono ?_
    rintro e w1 ⟨v, rfl, hown, hb1⟩
    obtain ⟨g, cap, rfl, hg, c0, c1, c2⟩ := own3 hown
    have HB1 := Lib.hid hb1
    have hx1 := (hb1.block w.heap.size (by simp)).trans (World.alloc_heap_new w (.cells #[.int .i64 0, .int .i64 0, .int .i64 0] 31))
    have HX1 := Lib.hid hx1
    clear hown hb1 hx1
    go_wp2_with fail
    go_region
    have H3 := Lib.hid (show ∀ Y, Y = (w1.alloc (.cells #[.int .i64 a, .int .i64 b, .int .i64 c] 31)).drew → Below w.heap.size w Y ∧ Y.heap[w1.heap.size]? = some (.cells #[.int .i64 a, .int .i64 b, .int .i64 c] 31) ∧ Y.heap[w.heap.size]? = some (.cells #[.int .i64 0, .int .i64 0, .int .i64 0] 31) from by
      rintro Y rfl
      have hb0 : Below w.heap.size w w1 := (below_new _).trans (HB1.out.mono (by simp))
      exact ⟨(hb0.trans ((below_new _).mono hb0.size)).drew, World.alloc_heap_new w1 _, (Below.heap_alloc _ _ _ (Array.getElem?_eq_some_iff.1 HX1.out).1).trans HX1.out⟩)
    simp only [Exit.then]
    generalize hY3 : (w1.alloc (.cells #[.int .i64 a, .int .i64 b, .int .i64 c] 31)).drew = Y3
    have H4 := Lib.hid (H3.out Y3 hY3.symm)
    clear H3 hY3 HB1 HX1 c0 c1 c2 HNu
    generalize w1.heap.size = gq at *
    have fin := Lib.hid (show ∀ Y : World, Below Y3.heap.size Y3 Y → Y.heap[gq]? = some (.cells #[.int .i64 a, .int .i64 b, .int .i64 c] 31) ∧ Y.heap[w.heap.size]? = some (.cells #[.int .i64 0, .int .i64 0, .int .i64 0] 31) ∧ Below w.heap.size w Y from fun Y hb =>
      ⟨(hb.block _ (Array.getElem?_eq_some_iff.1 H4.out.2.1).1).trans H4.out.2.1, (hb.block _ (Array.getElem?_eq_some_iff.1 H4.out.2.2).1).trans H4.out.2.2, H4.out.1.trans (hb.mono H4.out.1.size)⟩)
    obtain ⟨a0, a1, a2⟩ := date_cells H4.out.2.1
    cases hok : Sq.okB ⟨a, b, c⟩
    · have HR := Lib.hid (show parseS cs = (⟨0, 0, 0⟩, 13) by rw [HPa.out, hok]; rfl)
      rw [hok] at HVs
      clear hok
      go_wp2_with fail
      refine (HVs.out _).mono ?_
      rintro e Y4 ⟨rfl, hb4⟩
      have F := Lib.hid (fin.out Y4 hb4)
      obtain ⟨z0, z1, z2⟩ := date_cells F.out.2.1
      have hfz := frozen_row F.out.2.1
      have hsz : w.heap.size < Y4.heap.size := (Array.getElem?_eq_some_iff.1 F.out.2.1).1
      clear hb4
      go_wp2_with fail
      refine bodyPost_ret (v := .tuple #[.agg #[.int .i64 0, .int .i64 0, .int .i64 0], .int .i64 13]) (by simp [results, Tryz.results29, go_sem, z0, z1, z2]) rfl ⟨by rw [HR.out]; rfl, ?_⟩
      have hb0 := F.out.2.2
      iterate 3 (refine Below.setCell (p := ⟨w.heap.size, _, none⟩) ?_ (Nat.le_refl w.heap.size) _)
      exact hb0
    · have HSt := Lib.hid (fun w1 hT => squareText_any ⟨a, b, c⟩ w1 hT hok)
      have hbe := bytes_eq (sqT ⟨a, b, c⟩) cs
      have HRf := Lib.hid (fun h : sqT ⟨a, b, c⟩ ≠ cs => show parseS cs = (⟨0, 0, 0⟩, 13) by rw [HPa.out, hok]; simp [h])
      have HRt := Lib.hid (fun h : sqT ⟨a, b, c⟩ = cs => show parseS cs = (⟨a, b, c⟩, 0) by rw [HPa.out, hok]; simp [h])
      rw [hok] at HVs
      unfold sqv at HSt
      clear hok
      go_wp2_with fail
      refine (HVs.out _).mono ?_
      rintro e Y4 ⟨rfl, hb4⟩
      have HB4 := Lib.hid hb4
      have F := Lib.hid (fin.out Y4 hb4)
      obtain ⟨a0, a1, a2⟩ := date_cells F.out.1
      clear hb4
      by_cases hsq : sqT ⟨a, b, c⟩ = cs
      · have HR := Lib.hid (HRt.out hsq)
        rw [show decide (sqT ⟨a, b, c⟩ = cs) = true by simpa using hsq] at hbe
        clear hsq
        generalize (⟨(sqT ⟨a, b, c⟩).toArray⟩ : ByteArray) = s1 at *
        go_wp2_with fail
        refine (HSt.out _ (HT.out.below F.out.2.2)).mono ?_
        rintro e Y5 ⟨rfl, hb5⟩
        have F5 := Lib.hid (fin.out Y5 (HB4.out.trans (hb5.mono HB4.out.size)))
        obtain ⟨a0, a1, a2⟩ := date_cells F5.out.1
        obtain ⟨z0, z1, z2⟩ := date_cells F5.out.2.1
        have hfz := frozen_row F5.out.2.1
        have hsz : w.heap.size < Y5.heap.size := (Array.getElem?_eq_some_iff.1 F5.out.2.1).1
        clear hb5
        go_wp2_with fail
        refine bodyPost_ret (v := .tuple #[.agg #[.int .i64 a, .int .i64 b, .int .i64 c], .int .i64 0]) (by simp [results, Tryz.results29, go_sem, z0, z1, z2]) rfl ⟨by rw [HR.out]; rfl, ?_⟩
        have hb0 := F5.out.2.2
        iterate 3 (refine Below.setCell (p := ⟨w.heap.size, _, none⟩) ?_ (Nat.le_refl w.heap.size) _)
        exact hb0
      · have HR := Lib.hid (HRf.out hsq)
        rw [show decide (sqT ⟨a, b, c⟩ = cs) = false by simpa using hsq] at hbe
        clear hsq
        generalize (⟨(sqT ⟨a, b, c⟩).toArray⟩ : ByteArray) = s1 at *
        go_wp2_with fail
        refine (HSt.out _ (HT.out.below F.out.2.2)).mono ?_
        rintro e Y5 ⟨rfl, hb5⟩
        have F5 := Lib.hid (fin.out Y5 (HB4.out.trans (hb5.mono HB4.out.size)))
        obtain ⟨z0, z1, z2⟩ := date_cells F5.out.2.1
        have hfz := frozen_row F5.out.2.1
        have hsz : w.heap.size < Y5.heap.size := (Array.getElem?_eq_some_iff.1 F5.out.2.1).1
        clear hb5
        go_wp2_with fail
        refine bodyPost_ret (v := .tuple #[.agg #[.int .i64 0, .int .i64 0, .int .i64 0], .int .i64 13]) (by simp [results, Tryz.results29, go_sem, z0, z1, z2]) rfl ⟨by rw [HR.out]; rfl, ?_⟩
        have hb0 := F5.out.2.2
        iterate 3 (refine Below.setCell (p := ⟨w.heap.size, _, none⟩) ?_ (Nat.le_refl w.heap.size) _)
        exact hb0
  · have HPa := Lib.hid (parse_bad h3)
    go_enter Tryz.func29, Tryz.ntmps29
    go_wp2_with fail
    refine HNu.out.mono ?_
    rintro e w1 ⟨v, rfl, hown, hb1⟩
    obtain ⟨A, c, rfl⟩ := own_form hown
    have hx1 := (hb1.block w.heap.size (by simp)).trans (World.alloc_heap_new w (.cells #[.int .i64 0, .int .i64 0, .int .i64 0] 31))
    have HB1 := Lib.hid hb1
    obtain ⟨z0, z1, z2⟩ := date_cells hx1
    have hfz := frozen_row hx1
    have hsz : w.heap.size < w1.heap.size := (Array.getElem?_eq_some_iff.1 hx1).1
    unfold sqM at h3
    clear hown hb1 hx1
    generalize (numsS [58, 44] cs).length = k at *
    have hk : ((k : Int) != 3) = true := by simp; omega
    go_wp2_with fail
    refine bodyPost_ret (v := .tuple #[.agg #[.int .i64 0, .int .i64 0, .int .i64 0], .int .i64 13]) (by simp [results, Tryz.results29, go_sem, z0, z1, z2]) rfl ⟨by rw [HPa.out]; rfl, ?_⟩
    have hb0 : Below w.heap.size w w1 := (below_new _).trans (HB1.out.mono (by simp))
    iterate 3 (refine Below.setCell (p := ⟨w.heap.size, _, none⟩) ?_ (Nat.le_refl w.heap.size) _)
    exact hb0
end Go.Proofs.YtabolonlkocopaaGreatDoor
