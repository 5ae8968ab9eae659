/- Sums of the counts of a sheet: the program. -/
import Derived.Test.YtijidcigfdblaaaGreatDoorShE
namespace Go.Proofs.YtijidcigfdblaaaGreatDoor
open Go.RowKit Go.Nm Go.Sh Go.Plc

theorem s_next1 {l : List Ln} {i : Nat} {x : Ln} (h : l[i]? = some x) : sLo (l.take (i + 1)) = sLo (l.take i) + x.lo := Go.Sh.fold_take (f := fun a (x : Ln) => a + x.lo) h
theorem s_next2 {l : List Ln} {i : Nat} {x : Ln} (h : l[i]? = some x) : sHi (l.take (i + 1)) = sHi (l.take i) + x.hi := Go.Sh.fold_take (f := fun a (x : Ln) => a + x.hi) h
theorem put_cell {Y : World} {g k : Nat} {cs : Array Value} {t : TypeId} {v : Value} (h : Y.heap[g]? = some (.cells cs t)) : (Y.setCell ⟨g, k, none⟩ v).heap[g]? = some (.cells (cs.setIfInBounds k v) t) := by
  simp [World.setCell, Array.getElem?_modify, h]
theorem put_two {Y : World} {g : Nat} {t : TypeId} {u0 u1 : Value} (h : Y.heap[g]? = some (.cells #[u0, u1] t)) (a b : Value) : ((Y.setCell ⟨g, 0, none⟩ a).setCell ⟨g, 1, none⟩ b).heap[g]? = some (.cells #[a, b] t) := by
  rw [put_cell (put_cell h)]; rfl
theorem put_other {Y : World} {g k b : Nat} {v : Value} (hb : b ≠ g) : (Y.setCell ⟨g, k, none⟩ v).heap[b]? = Y.heap[b]? := by
  simp [World.setCell, Array.getElem?_modify, Ne.symm hb]
/-- the box of a sheet, and the cells of a result behind it -/
theorem pg_box2 {w : World} {v : Value} {p : Pg} (hv : PgV w v p) (Z : Array Value) (t : TypeId) : ∃ (A : Option Addr) (c : Nat) (W0 W1 : World), v = pgV p (.slice A p.ls.length c) ∧ w.alloc (.cells (pgC p (.slice A p.ls.length c)) 28) = W0 ∧ W0.alloc (.cells Z t) = W1 ∧ Below w.heap.size w W1 ∧ W0.heap.size = w.heap.size + 1 ∧ W1.heap.size = w.heap.size + 1 + 1 ∧
    W1.heap[w.heap.size + 1]? = some (.cells Z t) ∧ (∀ Y, Below W1.heap.size W1 Y → PgV Y (pgV p (.slice A p.ls.length c)) p) ∧ (∀ Y, Below W1.heap.size W1 Y → LnSl Y Y.heap.size (.slice A p.ls.length c) p.ls) ∧ ∀ Y, Below (w.heap.size + 1) W1 Y → PgC Y w.heap.size p (.slice A p.ls.length c) := by
  obtain ⟨A, c, W0, e, hW0, hb0, hz, hV, hL, hC⟩ := pg_box hv
  have hb := below_new (w := W0) (.cells Z t)
  have hn := World.alloc_heap_new W0 (.cells Z t)
  rw [hz] at hn
  exact ⟨A, c, W0, _, e, hW0, rfl, hb0.trans (hb.mono hb0.size), hz, by simp [hz], hn, fun Y h => hV Y (hb.trans (h.mono hb.size)), fun Y h => hL Y (hb.trans (h.mono hb.size)), fun Y h => hC Y (hb.trans (by rw [hz]; exact h))⟩
set_option maxRecDepth 100000 in
set_option maxHeartbeats 8000000 in
theorem plus_any (a b c d x y : Int) (w : World) (hx : IntKind.i64.wrap (a + c) = x) (hy : IntKind.i64.wrap (b + d) = y) : Calls Tryz.prog 151 #[.agg #[.int .i64 a, .int .i64 b], .agg #[.int .i64 c, .int .i64 d]] w fun e w' => e = .returned (.agg #[.int .i64 x, .int .i64 y]) ∧ Below w.heap.size w w' := by
  go_enter Tryz.func151, Tryz.ntmps151
  go_wp2_with fail
  exact bodyPost_ret (v := .agg #[.int .i64 x, .int .i64 y]) (by simp [results, Tryz.results151, go_sem]) rfl ⟨rfl, by (repeat (first | exact Below.refl _ _ | refine Below.drew ?_ | refine below_drewN ?_ _ | refine Below.alloc ?_ (by simp; try omega) _ | refine Below.setCell ?_ (by simp; try omega) _))⟩
set_option maxRecDepth 100000 in
set_option maxHeartbeats 8000000 in
theorem fold_any (A : Option Addr) (c : Nat) (l : List Ln) (w : World) (hl : LnSl w w.heap.size (.slice A l.length c) l) (hn : l.length ≤ 1000) (hok : ∀ x ∈ l, lnB x = true) : Calls Tryz.prog 150 #[.slice A l.length c, .func (.func 151) #[] #[]] w fun e w' => e = .returned (.agg #[.int .i64 (sLo l), .int .i64 (sHi l)]) ∧ Below w.heap.size w w' := by
  have hb0 := below_new (w := w) (.cells #[.int .i64 0, .int .i64 0] 141)
  have hn0 := World.alloc_heap_new w (.cells #[.int .i64 0, .int .i64 0] 141)
  obtain ⟨W0, hW0⟩ : ∃ W, w.alloc (.cells #[.int .i64 0, .int .i64 0] 141) = W := ⟨_, rfl⟩
  have hz0 : W0.heap.size = w.heap.size + 1 := by rw [← hW0]; simp
  rw [hW0] at hb0 hn0
  have hb1 := below_new (w := W0) (.cells #[.int .i64 0, .int .i64 0] 141)
  have hn1 := World.alloc_heap_new W0 (.cells #[.int .i64 0, .int .i64 0] 141)
  obtain ⟨W1, hW1⟩ : ∃ W, W0.alloc (.cells #[.int .i64 0, .int .i64 0] 141) = W := ⟨_, rfl⟩
  have hz1 : W1.heap.size = w.heap.size + 1 + 1 := by rw [← hW1]; simp [hz0]
  rw [hW1] at hb1 hn1
  rw [hz0] at hn1
  have hn0 := (hb1.block _ (by omega)).trans hn0
  have HW := Lib.hid (And.intro hW0 hW1)
  have HB1 := Lib.hid (hb0.trans (hb1.mono hb0.size))
  have HN0 := Lib.hid (And.intro hn0 hn1)
  have HL := Lib.hid hl
  have HBd := Lib.hid (fun i (h : i ≤ l.length) => sum_bd hok i h)
  have HOk := Lib.hid hok
  have hs2 : w.heap.size + 2 ≤ W1.heap.size := by omega
  have HSt := Lib.hid (fun (i : Nat) (x : Ln) (h : l[i]? = some x) => show sLo (l.take (i + 1)) = sLo (l.take i) + x.lo ∧ sHi (l.take (i + 1)) = sHi (l.take i) + x.hi from ⟨s_next1 h, s_next2 h⟩)
  obtain ⟨n, hn'⟩ : ∃ n, l.length = n := ⟨_, rfl⟩
  have HN := Lib.hid hn'
  have HEn := Lib.hid (show sLo (l.take n) = sLo l ∧ sHi (l.take n) = sHi l from by rw [List.take_of_length_le (by omega)]; exact ⟨rfl, rfl⟩)
  rw [hn'] at HL HBd hn ⊢
  clear hl hok hW0 hW1 hb0 hb1 hn0 hn1 hz0 hz1 hn'
  go_enter Tryz.func150, Tryz.ntmps150
  go_wp2_with fail
  rw [HW.out.1, HW.out.2]
  (try go_wp2_with fail)
  go_loopw [10] (fun iv wr => ∃ i : Nat, iv = .int .i64 (i : Int) ∧ i ≤ n ∧ Below w.heap.size w wr ∧ w.heap.size + 2 ≤ wr.heap.size ∧ wr.heap[w.heap.size]? = some (.cells #[.int .i64 0, .int .i64 0] 141) ∧ wr.heap[w.heap.size + 1]? = some (.cells #[.int .i64 (sLo (l.take i)), .int .i64 (sHi (l.take i))] 141)) (fun iv _ => n - (intOf iv).toNat)
  case atStart => exact ⟨0, rfl, by omega, HB1.out, hs2, HN0.out.1, HN0.out.2⟩
  case round =>
    obtain ⟨i, rfl, hin, hb, hsz, hr0, hr1⟩ := hrel
    have HB := Lib.hid hb
    have HR := Lib.hid (And.intro hr0 hr1)
    by_cases hlt : i < n
    · obtain ⟨x, ad, As, cs, hx, rfl, hY⟩ := HL.out.at_ hlt
      obtain ⟨⟨l0, l1, l2, l3⟩, hsn⟩ := hY wr HB.out
      have hbn := below_new (w := wr) (.cells #[.int .i64 x.nm, .int .i64 x.lo, .int .i64 x.hi, .slice As x.sn.length cs] 83)
      have hnn := World.alloc_heap_new wr (.cells #[.int .i64 x.nm, .int .i64 x.lo, .int .i64 x.hi, .slice As x.sn.length cs] 83)
      obtain ⟨V, hV⟩ : ∃ V, wr.alloc (.cells #[.int .i64 x.nm, .int .i64 x.lo, .int .i64 x.hi, .slice As x.sn.length cs] 83) = V := ⟨_, rfl⟩
      rw [hV] at hbn hnn
      have HX := Lib.hid hx
      have m1 : V.cell? ⟨wr.heap.size, 1, none⟩ = some (.int .i64 x.lo) := by simp [World.cell?, hnn]
      have m2 : V.cell? ⟨wr.heap.size, 2, none⟩ = some (.int .i64 x.hi) := by simp [World.cell?, hnn]
      have v1 := (hbn.block _ (by omega)).trans hr1
      have v0 := (hbn.block _ (by omega)).trans hr0
      obtain ⟨s0, s1⟩ := cells_two v1
      have hc := ln_cnt (HOk.out x (List.mem_of_getElem? hx))
      have hbd := HBd.out i (by omega)
      obtain ⟨e1, e2⟩ := HSt.out i x hx
      obtain ⟨a, ha⟩ : ∃ z, sLo (l.take i) = z := ⟨_, rfl⟩
      obtain ⟨b, hb'⟩ : ∃ z, sHi (l.take i) = z := ⟨_, rfl⟩
      rw [ha, hb'] at hbd
      rw [ha] at e1 s0
      rw [hb'] at e2 s1
      have HE := Lib.hid (And.intro e1 e2)
      have HC := Lib.hid (plus_any a b x.lo x.hi (a + x.lo) (b + x.hi) V (by rw [IntKind.wrap_i64]; omega) (by rw [IntKind.wrap_i64]; omega))
      have HBV := Lib.hid (And.intro hbn (And.intro v0 v1))
      have HVz := Lib.hid (show wr.heap.size + 1 ≤ V.heap.size from by rw [← hV]; simp)
      clear hx hY hsn hbn hnn hr0 hr1 v0 v1 e1 e2 ha hb' hc hbd hb
      go_wp2_with fail
      clear hV
      (with_reducible refine HC.out.mono ?_)
      rintro e w2 ⟨rfl, hb2⟩
      have q0 := (hb2.block _ (by have := HVz.out; omega)).trans HBV.out.2.1
      have q1 := (hb2.block _ (by have := HVz.out; omega)).trans HBV.out.2.2
      obtain ⟨t0, t1⟩ := cells_two q1
      have f0 := frozen_cells q1 0
      have f1 := frozen_cells q1 1
      have HQ := Lib.hid (And.intro q0 (And.intro q1 (show Below w.heap.size w w2 ∧ w.heap.size + 2 ≤ w2.heap.size from ⟨HB.out.trans ((HBV.out.1.trans (hb2.mono HBV.out.1.size)).mono HB.out.size), by have := hb2.size; have := HVz.out; omega⟩)))
      clear q0 q1 hb2 m1 m2 s0 s1 l0 l1 l2 l3 HC
      go_wp2_with fail
      go_roundw
      case rel =>
        refine ⟨i + 1, by go_num, by omega, (HQ.out.2.2.1.setCell (by show _ ≤ _ + 1; omega) _).setCell (by show _ ≤ _ + 1; omega) _, by simp; exact HQ.out.2.2.2, ?_, ?_⟩
        · rw [put_other (by omega), put_other (by omega)]; exact HQ.out.1
        · rw [HE.out.1, HE.out.2]; exact put_two HQ.out.2.1 _ _
      case measure => simp [intOf]; omega
    · obtain rfl : n = i := by omega
      obtain ⟨s0, s1⟩ := cells_two hr1
      obtain ⟨t0, t1⟩ := cells_two hr0
      have f0 := frozen_cells hr0 0
      have f1 := frozen_cells hr0 1
      have p0 := put_two hr0 (.int .i64 (sLo (l.take n))) (.int .i64 (sHi (l.take n)))
      obtain ⟨p0, p1⟩ := cells_two p0
      clear hb
      go_wp2_with fail
      refine bodyPost_ret (v := .agg #[.int .i64 (sLo (l.take n)), .int .i64 (sHi (l.take n))]) (by simp [results, Tryz.results150, go_sem, p0, p1]) rfl ⟨by rw [HEn.out.1, HEn.out.2], (HB.out.setCell (Nat.le_refl _) _).setCell (Nat.le_refl _) _⟩
set_option maxRecDepth 100000 in
set_option maxHeartbeats 8000000 in
theorem sumOf_any (v : Value) (p : Pg) (w : World) (hv : PgV w v p) (hp : PgSm p) (hok : PgOk p) : Calls Tryz.prog 94 #[v] w fun e w' => e = .returned (.agg #[.int .i64 (sLo p.ls), .int .i64 (sHi p.ls)]) ∧ Below w.heap.size w w' := by
  obtain ⟨A, c, W0, W1, rfl, hW0, hW1, hb1, hz0, hz1, hn1, hV, hL, hC⟩ := pg_box2 hv #[.int .i64 0, .int .i64 0] 141
  have HB1 := Lib.hid hb1
  have HN1 := Lib.hid hn1
  have HV := Lib.hid hV
  have HL := Lib.hid hL
  have HC := Lib.hid hC
  have HZ := Lib.hid (And.intro hz0 hz1)
  have HF := Lib.hid (fold_any A c p.ls W1 (hL W1 (Below.refl _ _)) hp.1 hok.ln)
  obtain ⟨g0, g1, g2, g3, g4, g5, g6, g7, g8, g9⟩ := hC W1 (Below.refl _ _)
  unfold pgV
  unfold pgC at hW0
  generalize p.ls.length = n at *
  clear hv hp hok hb1 hz1 hn1 hV hL hC HV HL
  go_enter Tryz.func94, Tryz.ntmps94
  go_wp2_with fail
  (with_reducible refine HF.out.mono ?_)
  rintro e w1 ⟨rfl, hb⟩
  have q1 := (hb.block _ (by have := HZ.out.2; omega)).trans HN1.out
  obtain ⟨t0, t1⟩ := cells_two q1
  have f0 := frozen_cells q1 0
  have f1 := frozen_cells q1 1
  have r := put_two q1 (.int .i64 (sLo p.ls)) (.int .i64 (sHi p.ls))
  obtain ⟨r0, r1⟩ := cells_two r
  have HB2 := Lib.hid (HB1.out.trans (hb.mono HB1.out.size))
  clear hb hW0 hW1 hz0 g0 g1 g2 g3 g4 g5 g6 g7 g8 g9 q1 r
  go_wp2_with fail
  exact bodyPost_ret (v := .agg #[.int .i64 (sLo p.ls), .int .i64 (sHi p.ls)]) (by simp [results, Tryz.results94, go_sem, r0, r1]) rfl ⟨rfl, (HB2.out.setCell (by show _ ≤ _ + 1; omega) _).setCell (by show _ ≤ _ + 1; omega) _⟩
end Go.Proofs.YtijidcigfdblaaaGreatDoor
