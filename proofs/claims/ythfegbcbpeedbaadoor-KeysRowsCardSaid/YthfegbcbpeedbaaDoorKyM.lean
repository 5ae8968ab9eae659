/- Same. -/
import Derived.Test.YthfegbcbpeedbaaDoorKyL
namespace Go.Ky
open Go.Nm
def leastI (z : Int) : Int := ((tzN z.toNat : Nat) : Int)
def sameE (m : Mx) (a b : Int) : Int := if comE m a b = 0 then (if ((comL m a b).all fun z => decide (z ≠ 0)) = true then 0 else 3) else comE m a b
def sameL (m : Mx) (a b : Int) : List Int := if sameE m a b = 0 then (comL m a b).map leastI else []
theorem full_le {q : Int} (h1 : 2 ≤ q) (h2 : q ≤ 16) : full q ≤ 65535 := by
  obtain ⟨k, rfl⟩ : ∃ k : Nat, q = (k : Int) := ⟨q.toNat, by omega⟩
  rw [full_nat]
  have := (pow16 (k := k) (by omega)).1
  omega
theorem st_range {m : Mx} (h : mxF m = true) {q : Int} (hq : q ∈ m.st) : 2 ≤ q ∧ q ≤ 16 := by
  have hc := mx_chr h
  unfold chrF at hc
  rw [Bool.and_eq_true] at hc
  exact of_decide_eq_true ((List.all_eq_true.1 hc.2) q hq)
theorem sets_range {m : Mx} (h : mxF m = true) {l : List Int} (hl : setsF m.st l = true) {k : Nat} {x : Int} (hx : l[k]? = some x) : 1 ≤ x ∧ x ≤ 65535 := by
  have hlen := sets_len hl
  unfold setsF at hl
  rw [Bool.and_eq_true] at hl
  have hk : k < m.st.length := by rw [← hlen]; exact (List.getElem?_eq_some_iff.1 hx).1
  have hq : m.st[k]? = some m.st[k] := List.getElem?_eq_getElem hk
  have h2 := (List.all_eq_true.1 hl.2) _ (List.mem_of_getElem? (zip_get hq hx))
  have h3 := of_decide_eq_true h2
  have h4 := st_range h (List.mem_of_getElem? hq)
  have := full_le h4.1 h4.2
  simp only at h3
  omega
theorem may_sets {m : Mx} (h : mxF m = true) {r : Rw} (hr : r ∈ m.rows) : setsF m.st r.may = true := by
  have h2 := mx_rows h
  unfold rowsF at h2
  rw [Bool.and_eq_true, Bool.and_eq_true] at h2
  exact (List.all_eq_true.1 h2.2.2) r hr
theorem meet_range {x y : Int} (hx : 0 ≤ x ∧ x ≤ 65535) (hy : 0 ≤ y ∧ y ≤ 65535) : 0 ≤ meetF x y ∧ meetF x y ≤ 65535 ∧ meetF x y = ((x.toNat &&& y.toNat : Nat) : Int) := by
  obtain ⟨a, rfl⟩ : ∃ a : Nat, x = (a : Int) := ⟨x.toNat, by omega⟩
  obtain ⟨b, rfl⟩ : ∃ b : Nat, y = (b : Int) := ⟨y.toNat, by omega⟩
  have h : meetF (a : Int) (b : Int) = ((a &&& b : Nat) : Int) := and_i64 (by omega) (by omega)
  have := Nat.and_le_left (n := a) (m := b)
  rw [h]
  simp only [Int.toNat_natCast]
  exact ⟨by omega, by omega, by first | trivial | rfl⟩
theorem com_range {m : Mx} {a b : Int} (h : comE m a b = 0) {k : Nat} {z : Int} (hz : (comL m a b)[k]? = some z) : 0 ≤ z ∧ z ≤ 65535 := by
  obtain ⟨hm, ha, hb, _⟩ := com_ok h
  unfold comL at hz
  rw [List.getElem?_zipWith] at hz
  rcases row_all m a with ⟨_, _, _, hra, _⟩ | ⟨h1, _⟩
  case inr => omega
  rcases row_all m b with ⟨_, _, _, hrb, _⟩ | ⟨h1, _⟩
  case inr => omega
  cases hx : (rowF m a).may[k]? with
  | none => rw [hx] at hz; simp at hz
  | some x =>
    cases hy : (rowF m b).may[k]? with
    | none => rw [hx, hy] at hz; simp at hz
    | some y =>
      rw [hx, hy] at hz
      simp at hz
      have h1 := sets_range hm (may_sets hm hra) hx
      have h2 := sets_range hm (may_sets hm hrb) hy
      have := meet_range (x := x) (y := y) (by omega) (by omega)
      omega
end Go.Ky
namespace Go.Proofs.YthfegbcbpeedbaaDoor
open Go.RowKit Go.Nm Go.Ky

set_option maxRecDepth 100000 in
set_option maxHeartbeats 8000000 in
theorem Same_any (v : Value) (m : Mx) (a b : Int) (w : World) (hv : MxV w v m) (hs : MSm m) (hT : TabH w) :
    Calls Tryd.prog 32 #[v, .int .i64 a, .int .i64 b] w fun e w' => (∃ u, e = .returned (.tuple #[u, .int .i64 (sameE m a b)]) ∧ InSl w' w'.heap.size u (sameL m a b) ∧ ∀ g, u.ownBlock = some g → w.heap.size ≤ g) ∧ Below w.heap.size w w' := by
  obtain ⟨A1, c1, A2, c2, W0, rfl, hW0, hb0, hM, hS, hR, hX⟩ := mx_box hv
  have HB0 := Lib.hid hb0
  have HW0 := Lib.hid hW0
  have HTl := Lib.hid (World.block_lt_of_cell? _ _ (hT 0 (by omega)))
  have HT := Lib.hid (fun Y (h : Below W0.heap.size W0 Y) => (hT.step hb0).step h)
  obtain ⟨k0, k1⟩ := hX W0 (Below.refl _ _)
  have HC := Lib.hid (commonOf_any _ m a b W0 (hM W0 (Below.refl _ _)) hs)
  have HO := Lib.hid (show sameE m a b = (if comE m a b = 0 then (if ((comL m a b).all fun z => decide (z ≠ 0)) = true then 0 else 3) else comE m a b) ∧ sameL m a b = (if sameE m a b = 0 then (comL m a b).map leastI else []) from ⟨rfl, rfl⟩)
  have HOk := Lib.hid (fun h : comE m a b = 0 => And.intro (com_ok h).2.2.2.2.2 (fun k z (hz : (comL m a b)[k]? = some z) => com_range h hz))
  have hns : m.st.length ≤ 1000 := hs.1
  have HCe := Lib.hid (show comE m a b = 0 ∨ comE m a b = 1 ∨ comE m a b = 30 from by
    unfold comE
    rcases row_all m a with ⟨h1, _⟩ | ⟨h1, _⟩
    · rw [if_pos h1]
      rcases row_all m b with ⟨h2, _⟩ | ⟨h2, _⟩ <;> omega
    · rw [if_neg (by omega)]; omega)
  obtain ⟨ce, hce⟩ : ∃ r, comE m a b = r := ⟨_, rfl⟩
  obtain ⟨CL, hCL⟩ : ∃ r, comL m a b = r := ⟨_, rfl⟩
  obtain ⟨se, hse⟩ : ∃ r, sameE m a b = r := ⟨_, rfl⟩
  obtain ⟨sl, hsl⟩ : ∃ r, sameL m a b = r := ⟨_, rfl⟩
  rw [hce, hCL] at HC HOk
  rw [hce] at HCe
  rw [hce, hCL, hse, hsl] at HO
  rw [hse, hsl]
  generalize m.rows.length = nr at *
  obtain ⟨ns, hn⟩ : ∃ n, m.st.length = n := ⟨_, rfl⟩
  rw [hn] at HW0 HC HOk k0 hns
  rw [hn]
  clear hv hs hW0 hb0 hM hS hR hX hce hCL hse hsl hn hT
  go_enter Tryd.func32, Tryd.ntmps32
  go_wp2_with fail
  rw [HW0.out]
  (try go_wp2_with fail)
  (with_reducible refine HC.out.mono ?_)
  rintro e w1 ⟨hcase, hb⟩
  have HB1 := Lib.hid hb
  clear hb k0 k1 HC
  rcases hcase with ⟨rfl, gw, rfl, f, hI, hf⟩ | ⟨hne, rfl⟩
  case inr =>
    rcases HCe.out with rfl | rfl | rfl
    · exact absurd rfl hne
    · have HF := Lib.hid (show se = 1 ∧ sl = [] from by
        have h := HO.out.1
        simp at h
        exact ⟨h, by rw [HO.out.2, h]; simp⟩)
      clear hne
      go_wp2_with fail
      go_ret2
      exact ⟨⟨_, by rw [HF.out.1]; rfl, by rw [HF.out.2]; exact InSl.nil _ _, fun g e => by cases e⟩, HB0.out.trans (HB1.out.mono HB0.out.size)⟩
    · have HF := Lib.hid (show se = 30 ∧ sl = [] from by
        have h := HO.out.1
        simp at h
        exact ⟨h, by rw [HO.out.2, h]; simp⟩)
      clear hne
      go_wp2_with fail
      go_ret2
      exact ⟨⟨_, by rw [HF.out.1]; rfl, by rw [HF.out.2]; exact InSl.nil _ _, fun g e => by cases e⟩, HB0.out.trans (HB1.out.mono HB0.out.size)⟩
  case inl =>
  have HOk1 := Lib.hid (HOk.out rfl)
  have HE := Lib.hid (show se = (if (CL.all fun z => decide (z ≠ 0)) = true then 0 else 3) ∧ sl = (if se = 0 then CL.map leastI else []) from ⟨by rw [HO.out.1]; simp, HO.out.2⟩)
  have HF0 := Lib.hid hf
  have HI0 := Lib.hid (hI.low HB0.out)
  clear hI hf HO HOk HCe
  go_wp2_with fail
  go_loopw [24] (fun iv wr => ∃ (i : Nat) (g : Nat → Int), iv = .int .i64 (i : Int) ∧ i ≤ ns ∧ IwI w gw ns g wr ∧ Below w1.heap.size w1 w1 ∧ (∀ k, i ≤ k → g k = f k) ∧ (∀ k z, k < i → CL[k]? = some z → g k = leastI z) ∧ ((CL.take i).all fun z => decide (z ≠ 0)) = true ∧ TabH wr) (fun iv _ => ns - (intOf iv).toNat)
  case atStart => exact ⟨0, f, rfl, by omega, HI0.out, Below.refl _ _, fun k _ => rfl, fun k z h => absurd h (by omega), rfl, HT.out w1 HB1.out⟩
  case round =>
    obtain ⟨i, g, rfl, hin, hI, _, hg1, hg2, hg3, hT⟩ := hrel
    have HI := Lib.hid hI
    have HG := Lib.hid (And.intro hg1 (And.intro hg2 hg3))
    have HTw := Lib.hid hT
    clear hI hg1 hg2 hg3 hT
    by_cases hlt : i < ns
    · obtain ⟨z, hz⟩ : ∃ z, CL[i]? = some z := ⟨_, List.getElem?_eq_getElem (by have := HOk1.out.1; omega)⟩
      obtain ⟨hz0, hz1⟩ := HOk1.out.2 i z hz
      have hgz : g i = z := (HG.out.1 i (Nat.le_refl _)).trans (HF0.out i z hz)
      obtain ⟨n, rfl⟩ : ∃ n : Nat, z = (n : Int) := ⟨z.toNat, by omega⟩
      have hco := HI.out.cell hlt
      have hfz := HI.out.froz i
      rw [hgz] at hco
      rw [← add_zero_k gw i] at hco
      have hco2 := hco
      rw [add_zero_k] at hco2
      have HZ := Lib.hid hz
      clear hz hgz
      by_cases hn0 : n = 0
      · subst hn0
        have HF := Lib.hid (show se = 3 ∧ sl = [] from by
          have h : se = 3 := by rw [HE.out.1, all_false HZ.out (by simp)]; simp
          exact ⟨h, by rw [HE.out.2, h]; simp⟩)
        go_wp2_with fail
        go_ret2
        exact ⟨⟨_, by rw [HF.out.1]; rfl, by rw [HF.out.2]; exact InSl.nil _ _, fun g e => by cases e⟩, HI.out.bel⟩
      · have hni : ¬ (n : Int) = 0 := by omega
        have HTz := Lib.hid (Tz_any n wr HTw.out (by omega) (by omega))
        have hwz : IntKind.u64.wrap (n : Int) = (n : Int) := wrap_u64 (by omega)
        obtain ⟨t, ht⟩ : ∃ t, tzN n = t := ⟨_, rfl⟩
        have HTt := Lib.hid (show leastI (n : Int) = (t : Int) from by unfold leastI; simp [ht])
        rw [ht] at HTz
        have HIs := Lib.hid (HI.out.set i (t : Int))
        have HT2 := Lib.hid (show TabH (wr.setCell ⟨gw, i, none⟩ (.int .i64 (t : Int))) from fun k hk => by rw [World.cell?_of_block ((setCell_grown' wr gw i _).block 1 (World.block_lt_of_cell? _ _ (HTw.out k hk)) (by intro e; injection e with e; have := HI.out.base; have := HTl.out; omega))]; exact HTw.out k hk)
        clear ht hn0
        go_wp2_with fail
        (with_reducible refine HTz.out.mono ?_)
        rintro e w2 ⟨rfl, rfl⟩
        go_wp2_with fail
        go_roundw
        case rel => exact ⟨i + 1, _, by go_num, by omega, HIs.out, Below.refl _ _, fun k hk => by rw [upd_other _ _ (by omega)]; exact HG.out.1 k (by omega), fun k z hk hz => by
          by_cases e : k = i
          · subst e
            rw [HZ.out] at hz; injection hz with hz; subst hz
            rw [upd_same, HTt.out]
          · rw [upd_other _ _ e]; exact HG.out.2.1 k z (by omega) hz, by rw [all_take HZ.out, HG.out.2.2]; simp; omega, HT2.out⟩
        case measure => simp [intOf]; omega
    · obtain rfl : ns = i := by omega
      have HF := Lib.hid (show se = 0 ∧ sl = CL.map leastI from by
        have h : se = 0 := by rw [HE.out.1, all_end HOk1.out.1 HG.out.2.2]; simp
        exact ⟨h, by rw [HE.out.2, h]; simp⟩)
      have HSl := Lib.hid (HI.out.sl (by omega) (L := CL.map leastI) (by rw [List.length_map, HOk1.out.1]) (fun k x hx => by
        rw [List.getElem?_map] at hx
        cases hr : CL[k]? with
        | none => rw [hr] at hx; cases hx
        | some r =>
          rw [hr] at hx
          simp only [Option.map_some, Option.some.injEq] at hx
          rw [HG.out.2.1 k r (by have := (List.getElem?_eq_some_iff.1 hr).1; have := HOk1.out.1; omega) hr, hx]))
      go_wp2_with fail
      go_ret2
      exact ⟨⟨_, by rw [HF.out.1]; rfl, by rw [HF.out.2]; exact HSl.out, fun g e => by
        have : gw = g := by simpa [Value.ownBlock] using e
        have := HI.out.base
        omega⟩, HI.out.bel⟩
end Go.Proofs.YthfegbcbpeedbaaDoor
