/- KeysApart: the law. -/
import Derived.Test.YthfegbcbpeedbaaDoorKyAs
import Derived.Test.YthfegbcbpeedbaaDoorKyPb
namespace Go.Ky
open Go.Nm
theorem tl_get {CL : List Int} {n j : Nat} (hj : j < (tlT CL n).length) : ∃ c : Nat, (tlT CL n)[j]? = some (c : Int) ∧ c < n ∧ CL.getD c 1 = 0 := by
  have h := List.getElem_mem hj
  unfold tlT at h
  rw [List.mem_map] at h
  obtain ⟨c, hc, e⟩ := h
  rw [List.mem_filter, List.mem_range] at hc
  exact ⟨c, (List.getElem?_eq_getElem hj).trans (congrArg some e.symm), hc.1, of_decide_eq_true hc.2⟩
theorem tl_inc {CL : List Int} {n j : Nat} {d c : Int} (hd : (tlT CL n)[j]? = some d) (hc : (tlT CL n)[j + 1]? = some c) : d < c := by
  have h : (tlT CL n).Pairwise (· < ·) := by
    unfold tlT
    rw [List.pairwise_map]
    exact (List.pairwise_lt_range.filter _).imp fun h => by omega
  obtain ⟨h1, rfl⟩ := List.getElem?_eq_some_iff.1 hd
  obtain ⟨h2, rfl⟩ := List.getElem?_eq_some_iff.1 hc
  exact List.pairwise_iff_getElem.1 h j (j + 1) h1 h2 (by omega)
theorem tl_none {CL : List Int} {n : Nat} (hl : CL.length = n) : (tlT CL n).length = 0 ↔ (CL.all fun z => decide (z ≠ 0)) = true := by
  rw [List.length_eq_zero_iff, List.all_eq_true]
  unfold tlT
  rw [List.map_eq_nil_iff, List.filter_eq_nil_iff]
  constructor
  · intro h z hz
    obtain ⟨i, hi, rfl⟩ := List.mem_iff_getElem.1 hz
    have h1 := h i (List.mem_range.2 (by omega))
    rw [List.getD_eq_getElem?_getD, List.getElem?_eq_getElem hi] at h1
    simpa using h1
  · intro h c hc
    rw [List.mem_range] at hc
    have h1 := h _ (List.getElem_mem (show c < CL.length by omega))
    rw [List.getD_eq_getElem?_getD, List.getElem?_eq_getElem (show c < CL.length by omega)]
    simpa using h1
theorem tell_le (m : Mx) (a b : Int) : (tellL m a b).length ≤ m.st.length := by
  unfold tellL
  split
  · exact tlT_len _ _
  · simp
def ApR (m : Mx) (a b : Int) : Prop := rowE m a = 0 ∧ rowE m b = 0 ∧ (rowF m a).may.length = m.st.length ∧ (rowF m b).may.length = m.st.length
def ApS (m : Mx) (a b : Int) : Prop := ∀ i, i < m.st.length → ∃ (x y : Int) (z t : Nat), (rowF m a).may[i]? = some x ∧ (rowF m b).may[i]? = some y ∧ bits BinOp.and IntKind.i64 x y = (z : Int) ∧ (sameL m a b)[i]? = some (t : Int) ∧ t < 16 ∧ 0 < z ∧ z < 65536 ∧ z / 2 ^ t % 2 = 1 ∧ z % 2 ^ t = 0
def ApT (m : Mx) (a b : Int) : Prop := ∀ j, j < (tellL m a b).length → ∃ (c : Nat) (x y : Int), (tellL m a b)[j]? = some (c : Int) ∧ c < m.st.length ∧ (rowF m a).may[c]? = some x ∧ (rowF m b).may[c]? = some y ∧ bits BinOp.and IntKind.i64 x y = 0 ∧ ∀ d, 0 < j → (tellL m a b)[j - 1]? = some d → d < (c : Int)
theorem apart_cases (m : Mx) (a b : Int) : ((comE m a b = 1 ∨ comE m a b = 30) ∧ sameE m a b = comE m a b) ∨
    (comE m a b = 0 ∧ sameE m a b = 0 ∧ (tellL m a b).length = 0 ∧ (sameL m a b).length = m.st.length ∧ ApR m a b ∧ ApS m a b) ∨
    (comE m a b = 0 ∧ sameE m a b = 3 ∧ 0 < (tellL m a b).length ∧ (sameL m a b).length = 0 ∧ ApR m a b ∧ ApT m a b) := by
  by_cases hc : comE m a b = 0
  · obtain ⟨hm, ha, hb, hla, hlb, hlc⟩ := com_ok hc
    have hR : ApR m a b := ⟨ha, hb, hla, hlb⟩
    have hT : tellL m a b = tlT (comL m a b) m.st.length := by unfold tellL; rw [if_pos hc]
    have hn := tl_none hlc
    cases hA : (comL m a b).all fun z => decide (z ≠ 0) with
    | true =>
      have hs : sameE m a b = 0 := by unfold sameE; rw [if_pos hc, if_pos hA]
      have hL : sameL m a b = (comL m a b).map leastI := by unfold sameL; rw [if_pos hs]
      refine .inr (.inl ⟨hc, hs, by rw [hT]; exact hn.2 hA, by rw [hL, List.length_map]; exact hlc, hR, fun i hi => ?_⟩)
      have hz : (comL m a b)[i]? = some (comL m a b)[i] := List.getElem?_eq_getElem (by omega)
      obtain ⟨zi, hzi⟩ : ∃ zi, (comL m a b)[i] = zi := ⟨_, rfl⟩
      rw [hzi] at hz
      have h1 := com_range hc hz
      have h2 : zi ≠ 0 := by simpa using (List.all_eq_true.1 hA) zi (List.mem_of_getElem? hz)
      obtain ⟨z, rfl⟩ : ∃ z : Nat, zi = (z : Int) := ⟨zi.toNat, by omega⟩
      have h3 := tz_ok (x := z) (by omega) (by omega)
      have h4 := h3.2.1
      rw [Nat.testBit_eq_decide_div_mod_eq] at h4
      have hx : (rowF m a).may[i]? = some (rowF m a).may[i] := List.getElem?_eq_getElem (by omega)
      have hy : (rowF m b).may[i]? = some (rowF m b).may[i] := List.getElem?_eq_getElem (by omega)
      refine ⟨_, _, z, tzN z, hx, hy, ?_, ?_, h3.1, by omega, by omega, of_decide_eq_true h4, h3.2.2⟩
      · unfold comL at hz
        rw [List.getElem?_zipWith, hx, hy] at hz
        exact Option.some.inj hz
      · rw [hL, List.getElem?_map, hz]
        rfl
    | false =>
      have hs : sameE m a b = 3 := by unfold sameE; rw [if_pos hc, if_neg (by rw [hA]; simp)]
      have hL : sameL m a b = [] := by unfold sameL; rw [if_neg (by omega)]
      have h0 : ¬ (tlT (comL m a b) m.st.length).length = 0 := fun h => by rw [hn.1 h] at hA; cases hA
      refine .inr (.inr ⟨hc, hs, by rw [hT]; omega, by rw [hL]; rfl, hR, fun j hj => ?_⟩)
      rw [hT] at hj ⊢
      obtain ⟨c, h1, h2, h3⟩ := tl_get hj
      have hx : (rowF m a).may[c]? = some (rowF m a).may[c] := List.getElem?_eq_getElem (by omega)
      have hy : (rowF m b).may[c]? = some (rowF m b).may[c] := List.getElem?_eq_getElem (by omega)
      refine ⟨c, _, _, h1, h2, hx, hy, ?_, fun d hj0 hd => ?_⟩
      · rw [List.getD_eq_getElem?_getD] at h3
        unfold comL at h3
        rw [List.getElem?_zipWith, hx, hy] at h3
        exact h3
      · exact tl_inc hd (by rw [show j - 1 + 1 = j from by omega]; exact h1)
  · refine .inl ⟨by rcases Go.Proofs.YthfegbcbpeedbaaDoor.com_cases m a b with h | h | h <;> omega, by unfold sameE; rw [if_neg hc]⟩
end Go.Ky
namespace Go.Proofs.YthfegbcbpeedbaaDoor
theorem InSl.load {w : World} {B n c i : Nat} {A : Option Addr} {L : List Int} {x : Int} (h : InSl w B (.slice A n c) L) (hx : L[i]? = some x) : ∃ ad, A = some ad ∧ w.cell? (ad.add i) = some (.int .i64 x) := by
  obtain ⟨_, _, e, _, _, h⟩ := h
  cases e
  obtain ⟨ad, e, _, h2⟩ := h i x hx
  exact ⟨ad, e, h2⟩
end Go.Proofs.YthfegbcbpeedbaaDoor
namespace Go.Proofs.YthfegbcbpeedbaaDoor
open Go.RowKit Go.Nm Go.Ky

set_option maxRecDepth 100000 in
set_option maxHeartbeats 16000000 in
theorem KeysApart_any (v u : Value) (m : Mx) (l1 l2 l3 : List Int) (a b c : Int) (w : World) (hv : MxV w v m) (hu : AskV w u l1 l2 l3 a b c) (hT : TabH w) :
    Calls Tryd.prog 8 #[v, u] w fun e w' => e = .returned (.bool true) ∧ Below w.heap.size w w' := by
  obtain ⟨A1, c1, A2, c2, W0, rfl, hW0, hb0, hM, hS, hR, hX⟩ := mx_box hv
  have hz : W0.heap.size = w.heap.size + 1 := by rw [← hW0]; simp
  have hn0 : W0.heap[w.heap.size]? = some (.cells #[.slice A1 m.st.length c1, .slice A2 m.rows.length c2] 25) := by rw [← hW0]; exact World.alloc_heap_new w _
  obtain ⟨B1, d1, B2, d2, B3, d3, W1, rfl, hW1, hb1, hI1, hI2, hI3, hn1⟩ := ask_box (hu.step hb0)
  rw [hz] at hn1
  have HW := Lib.hid (And.intro hW0 hW1)
  have HB := Lib.hid (hb0.trans (hb1.mono hb0.size))
  have HT := Lib.hid ((hT.step hb0).step hb1)
  have HM := Lib.hid (hM W1 hb1)
  have HBx := Lib.hid ((hb1.block _ (by omega)).trans hn0)
  have HAx := Lib.hid hn1
  obtain ⟨ns, hns⟩ : ∃ n, m.st.length = n := ⟨_, rfl⟩
  obtain ⟨nr, hnr⟩ : ∃ n, m.rows.length = n := ⟨_, rfl⟩
  obtain ⟨n1, hn1'⟩ : ∃ n, l1.length = n := ⟨_, rfl⟩
  obtain ⟨n2, hn2'⟩ : ∃ n, l2.length = n := ⟨_, rfl⟩
  obtain ⟨n3, hn3'⟩ : ∃ n, l3.length = n := ⟨_, rfl⟩
  rw [hns, hnr] at HW HM HBx
  rw [hn1', hn2', hn3'] at HW HAx
  rw [hns, hnr, hn1', hn2', hn3']
  have HNs := Lib.hid (And.intro hns hnr)
  have HN1 := Lib.hid hn1'
  have HN2 := Lib.hid hn2'
  have HN3 := Lib.hid hn3'
  obtain ⟨k0, k1⟩ := cells_two HBx.out
  obtain ⟨a0, a1, a2, a3, a4, a5⟩ := cells_six HAx.out
  clear hv hu hT hW0 hb0 hM hS hR hX hz hn0 hW1 hb1 hI1 hI2 hI3 hn1 hns hnr hn1' hn2' hn3'
  go_enter Tryd.func8, Tryd.ntmps8
  go_wp2_with fail
  rw [HW.out.1, HW.out.2]
  (try go_wp2_with fail)
  (with_reducible refine (awake_any _ HT.out).mono ?_)
  rintro e w1 ⟨rfl, hb⟩
  replace HB := Lib.hid (HB.out.trans (hb.mono HB.out.size))
  replace HT := Lib.hid (HT.out.step hb)
  replace HM := Lib.hid (HM.out.step hb)
  replace HBx := Lib.hid ((hb.block _ (Array.getElem?_eq_some_iff.1 HBx.out).1).trans HBx.out)
  replace HAx := Lib.hid ((hb.block _ (Array.getElem?_eq_some_iff.1 HAx.out).1).trans HAx.out)
  clear hb
  clear k0 k1 a0 a1 a2 a3 a4 a5
  obtain ⟨k0, k1⟩ := cells_two HBx.out
  obtain ⟨a0, a1, a2, a3, a4, a5⟩ := cells_six HAx.out
  have HFw := Lib.hid (few_any _ m w1 HM.out)
  cases hfw : fewF m with
  | false =>
    rw [hfw] at HFw
    clear hfw
    go_wp2_with fail
    (with_reducible refine HFw.out.mono ?_)
    rintro e w2 ⟨rfl, hb⟩
    replace HB := Lib.hid (HB.out.trans (hb.mono HB.out.size))
    clear hb
    go_wp2_with fail
    go_ret
    exact ⟨rfl, HB.out⟩
  | true =>
  rw [hfw] at HFw
  have HSm := Lib.hid (few_sm hfw)
  have HFe := Lib.hid hfw
  clear hfw
  go_wp2_with fail
  (with_reducible refine HFw.out.mono ?_)
  rintro e w3 ⟨rfl, hb⟩
  replace HB := Lib.hid (HB.out.trans (hb.mono HB.out.size))
  replace HT := Lib.hid (HT.out.step hb)
  replace HM := Lib.hid (HM.out.step hb)
  replace HBx := Lib.hid ((hb.block _ (Array.getElem?_eq_some_iff.1 HBx.out).1).trans HBx.out)
  replace HAx := Lib.hid ((hb.block _ (Array.getElem?_eq_some_iff.1 HAx.out).1).trans HAx.out)
  clear HFw
  clear hb
  clear k0 k1 a0 a1 a2 a3 a4 a5
  obtain ⟨k0, k1⟩ := cells_two HBx.out
  obtain ⟨a0, a1, a2, a3, a4, a5⟩ := cells_six HAx.out
  have HCs := Lib.hid (apart_cases m a b)
  obtain ⟨se, hse⟩ : ∃ x, sameE m a b = x := ⟨_, rfl⟩
  obtain ⟨sl, hsl⟩ : ∃ x, sameL m a b = x := ⟨_, rfl⟩
  obtain ⟨te, hte⟩ : ∃ x, comE m a b = x := ⟨_, rfl⟩
  obtain ⟨tl, htl⟩ : ∃ x, tellL m a b = x := ⟨_, rfl⟩
  have HRs := Lib.hid (And.intro hse (And.intro hsl (And.intro hte htl)))
  rw [hse, hte, hsl, htl] at HCs
  clear hse hsl hte htl
  have HC := Lib.hid (Same_any _ m a b w3 HM.out HSm.out HT.out)
  rw [HRs.out.1, HRs.out.2.1] at HC
  go_wp2_with fail
  (with_reducible refine HC.out.mono ?_)
  rintro e w4 ⟨⟨u1, rfl, hf, _⟩, hb⟩
  replace HB := Lib.hid (HB.out.trans (hb.mono HB.out.size))
  replace HT := Lib.hid (HT.out.step hb)
  replace HM := Lib.hid (HM.out.step hb)
  replace HBx := Lib.hid ((hb.block _ (Array.getElem?_eq_some_iff.1 HBx.out).1).trans HBx.out)
  replace HAx := Lib.hid ((hb.block _ (Array.getElem?_eq_some_iff.1 HAx.out).1).trans HAx.out)
  have H1 := Lib.hid hf
  clear hf HC
  clear hb
  clear k0 k1 a0 a1 a2 a3 a4 a5
  obtain ⟨k0, k1⟩ := cells_two HBx.out
  obtain ⟨a0, a1, a2, a3, a4, a5⟩ := cells_six HAx.out
  have HC := Lib.hid (Tell_any _ m a b w4 HM.out HSm.out)
  rw [HRs.out.2.2.1, HRs.out.2.2.2] at HC
  go_wp2_with fail
  (with_reducible refine HC.out.mono ?_)
  rintro e w5 ⟨⟨u2, rfl, hf⟩, hb⟩
  replace HB := Lib.hid (HB.out.trans (hb.mono HB.out.size))
  replace HT := Lib.hid (HT.out.step hb)
  replace HM := Lib.hid (HM.out.step hb)
  replace HBx := Lib.hid ((hb.block _ (Array.getElem?_eq_some_iff.1 HBx.out).1).trans HBx.out)
  replace HAx := Lib.hid ((hb.block _ (Array.getElem?_eq_some_iff.1 HAx.out).1).trans HAx.out)
  replace H1 := Lib.hid (H1.out.step hb)
  have H2 := Lib.hid hf.1
  clear hf HC
  clear hb
  clear k0 k1 a0 a1 a2 a3 a4 a5
  obtain ⟨k0, k1⟩ := cells_two HBx.out
  obtain ⟨a0, a1, a2, a3, a4, a5⟩ := cells_six HAx.out
  obtain ⟨S1, sc1, rfl, _⟩ := H1.out.form
  obtain ⟨S2, sc2, rfl, _⟩ := H2.out.form
  have HRw := Lib.hid (show ApR m a b → True from fun _ => trivial)
  rcases HCs.out with ⟨ht, rfl⟩ | ⟨rfl, rfl, hnt, hnl, hR, hS⟩ | ⟨rfl, rfl, hnt, hnl, hR, hT⟩
  case' inl =>
    clear HCs
    rcases ht with rfl | rfl
    all_goals
      go_wp2_with fail
      refine bodyPost_ret (v := .bool true) (by simp [results, Tryd.results8, go_sem]) rfl ?_
      exact And.intro rfl HB.out
  case' inr.inl =>
    clear HCs
    obtain ⟨ra, hra⟩ : ∃ r, (rowF m a).may = r := ⟨_, rfl⟩
    obtain ⟨rb, hrb⟩ : ∃ r, (rowF m b).may = r := ⟨_, rfl⟩
    obtain ⟨na, hna⟩ : ∃ r, (rowF m a).nm = r := ⟨_, rfl⟩
    obtain ⟨nb, hnb⟩ : ∃ r, (rowF m b).nm = r := ⟨_, rfl⟩
    have HRr := Lib.hid (And.intro hra (And.intro hrb (And.intro hna hnb)))
    unfold ApR at hR
    unfold ApS at hS
    rw [hra, hrb] at hR hS
    rw [HNs.out.1] at hR hS hnl
    have HS := Lib.hid hS
    have HRl := Lib.hid hR
    rw [HRs.out.2.1] at HS
    have HLl := Lib.hid (And.intro hnt hnl)
    clear hra hrb hna hnb hR hS
    rw [hnt] at H2 ⊢
    rw [hnl] at H1 ⊢
    clear hnt hnl
    have HC := Lib.hid (Row_any _ m a w5 HM.out HSm.out)
    rw [HRr.out.1, HRr.out.2.2.1, HRl.out.1] at HC
    go_wp2_with fail
    (with_reducible refine HC.out.mono ?_)
    rintro e w6 ⟨⟨rv, rfl, hf⟩, hb⟩
    replace HB := Lib.hid (HB.out.trans (hb.mono HB.out.size))
    replace HT := Lib.hid (HT.out.step hb)
    replace HM := Lib.hid (HM.out.step hb)
    replace HBx := Lib.hid ((hb.block _ (Array.getElem?_eq_some_iff.1 HBx.out).1).trans HBx.out)
    replace HAx := Lib.hid ((hb.block _ (Array.getElem?_eq_some_iff.1 HAx.out).1).trans HAx.out)
    replace H1 := Lib.hid (H1.out.step hb)
    replace H2 := Lib.hid (H2.out.step hb)
    have hf := hf.1
    obtain ⟨R1, e1, rfl, _⟩ := hf.form
    rw [HRl.out.2.2.1] at hf ⊢
    have HR1 := Lib.hid hf
    clear hf hb HC
    have hb := below_new (w := w6) (.cells #[.int .i64 na, .slice R1 ns e1] 35)
    have hn := World.alloc_heap_new w6 (.cells #[.int .i64 na, .slice R1 ns e1] 35)
    obtain ⟨w7, hX⟩ : ∃ Z, w6.alloc (.cells #[.int .i64 na, .slice R1 ns e1] 35) = Z := ⟨_, rfl⟩
    rw [hX] at hb hn
    have HX := Lib.hid hX
    have HQ1 := Lib.hid hn
    replace HB := Lib.hid (HB.out.trans (hb.mono HB.out.size))
    replace HT := Lib.hid (HT.out.step hb)
    replace HM := Lib.hid (HM.out.step hb)
    replace HBx := Lib.hid ((hb.block _ (Array.getElem?_eq_some_iff.1 HBx.out).1).trans HBx.out)
    replace HAx := Lib.hid ((hb.block _ (Array.getElem?_eq_some_iff.1 HAx.out).1).trans HAx.out)
    replace H1 := Lib.hid (H1.out.step hb)
    replace H2 := Lib.hid (H2.out.step hb)
    replace HR1 := Lib.hid (HR1.out.step hb)
    clear hb hn hX
    clear k0 k1 a0 a1 a2 a3 a4 a5
    obtain ⟨k0, k1⟩ := cells_two HBx.out
    obtain ⟨a0, a1, a2, a3, a4, a5⟩ := cells_six HAx.out
    rw [← HX.out] at k0 k1 a0 a1 a2 a3 a4 a5
    go_wp2_with fail
    rw [HX.out]
    clear HX
    clear k0 k1 a0 a1 a2 a3 a4 a5
    obtain ⟨k0, k1⟩ := cells_two HBx.out
    obtain ⟨a0, a1, a2, a3, a4, a5⟩ := cells_six HAx.out
    have HC := Lib.hid (Row_any _ m b w7 HM.out HSm.out)
    rw [HRr.out.2.1, HRr.out.2.2.2, HRl.out.2.1] at HC
    go_wp2_with fail
    (with_reducible refine HC.out.mono ?_)
    rintro e w8 ⟨⟨rv, rfl, hf⟩, hb⟩
    replace HB := Lib.hid (HB.out.trans (hb.mono HB.out.size))
    replace HT := Lib.hid (HT.out.step hb)
    replace HM := Lib.hid (HM.out.step hb)
    replace HBx := Lib.hid ((hb.block _ (Array.getElem?_eq_some_iff.1 HBx.out).1).trans HBx.out)
    replace HAx := Lib.hid ((hb.block _ (Array.getElem?_eq_some_iff.1 HAx.out).1).trans HAx.out)
    replace H1 := Lib.hid (H1.out.step hb)
    replace H2 := Lib.hid (H2.out.step hb)
    replace HR1 := Lib.hid (HR1.out.step hb)
    replace HQ1 := Lib.hid ((hb.block _ (Array.getElem?_eq_some_iff.1 HQ1.out).1).trans HQ1.out)
    have hf := hf.1
    obtain ⟨R2, e2, rfl, _⟩ := hf.form
    rw [HRl.out.2.2.2] at hf ⊢
    have HR2 := Lib.hid hf
    clear hf hb HC
    have hb := below_new (w := w8) (.cells #[.int .i64 nb, .slice R2 ns e2] 35)
    have hn := World.alloc_heap_new w8 (.cells #[.int .i64 nb, .slice R2 ns e2] 35)
    obtain ⟨w9, hX⟩ : ∃ Z, w8.alloc (.cells #[.int .i64 nb, .slice R2 ns e2] 35) = Z := ⟨_, rfl⟩
    rw [hX] at hb hn
    have HX := Lib.hid hX
    have HQ2 := Lib.hid hn
    replace HB := Lib.hid (HB.out.trans (hb.mono HB.out.size))
    replace HT := Lib.hid (HT.out.step hb)
    replace HM := Lib.hid (HM.out.step hb)
    replace HBx := Lib.hid ((hb.block _ (Array.getElem?_eq_some_iff.1 HBx.out).1).trans HBx.out)
    replace HAx := Lib.hid ((hb.block _ (Array.getElem?_eq_some_iff.1 HAx.out).1).trans HAx.out)
    replace H1 := Lib.hid (H1.out.step hb)
    replace H2 := Lib.hid (H2.out.step hb)
    replace HR1 := Lib.hid (HR1.out.step hb)
    replace HQ1 := Lib.hid ((hb.block _ (Array.getElem?_eq_some_iff.1 HQ1.out).1).trans HQ1.out)
    replace HR2 := Lib.hid (HR2.out.step hb)
    clear hb hn hX
    clear k0 k1 a0 a1 a2 a3 a4 a5
    obtain ⟨k0, k1⟩ := cells_two HBx.out
    obtain ⟨a0, a1, a2, a3, a4, a5⟩ := cells_six HAx.out
    rw [← HX.out] at k0 k1 a0 a1 a2 a3 a4 a5
    obtain ⟨r0, r1⟩ := cells_two HQ1.out
    obtain ⟨s0, s1⟩ := cells_two HQ2.out
    rw [← HX.out] at r0 r1 s0 s1
    go_wp2_with fail
    rw [HX.out]
    clear r0 r1 s0 s1
    clear k0 k1 a0 a1 a2 a3 a4 a5
    obtain ⟨k0, k1⟩ := cells_two HBx.out
    obtain ⟨a0, a1, a2, a3, a4, a5⟩ := cells_six HAx.out
    have HO := Lib.hid (show ∀ Y, Below w9.heap.size w9 Y → ((Y.cell? ⟨w.heap.size, 0, none⟩ = some (.slice A1 ns c1) ∧ Y.cell? ⟨w6.heap.size, 1, none⟩ = some (.slice R1 ns e1)) ∧ Y.cell? ⟨w8.heap.size, 1, none⟩ = some (.slice R2 ns e2)) ∧ (InSl Y Y.heap.size (.slice R1 ns e1) ra ∧ InSl Y Y.heap.size (.slice R2 ns e2) rb) ∧ InSl Y Y.heap.size (.slice S1 ns sc1) sl ∧ InSl Y Y.heap.size (.slice S2 0 sc2) tl from fun Y h => ⟨⟨⟨(cells_two ((h.block _ (Array.getElem?_eq_some_iff.1 HBx.out).1).trans HBx.out)).1, (cells_two ((h.block _ (Array.getElem?_eq_some_iff.1 HQ1.out).1).trans HQ1.out)).2⟩, (cells_two ((h.block _ (Array.getElem?_eq_some_iff.1 HQ2.out).1).trans HQ2.out)).2⟩, ⟨HR1.out.step h, HR2.out.step h⟩, H1.out.step h, H2.out.step h⟩)
    clear k0 k1 a0 a1 a2 a3 a4 a5 HT HM HAx HQ1 HQ2 HR1 HR2 H1 H2
    have hn1000 : ns ≤ 1000 := by rw [← HNs.out.1]; exact HSm.out.1
    go_loopw [14, 15] (fun iv bv wr => ∃ i : Nat, iv = .int .i64 (i : Int) ∧ i ≤ ns ∧ Below w9.heap.size w9 wr) (fun iv _ _ => ns - (intOf iv).toNat)
    case atStart => exact ⟨0, rfl, by omega, Below.refl _ _⟩
    case round =>
      obtain ⟨i, rfl, hin, hb⟩ := hrel
      have HBi := Lib.hid hb
      clear hb
      obtain ⟨⟨⟨k0, q1⟩, q2⟩, ⟨hr1, hr2⟩, hs1, hs2⟩ := HO.out wr HBi.out
      by_cases hlt : i < ns
      · obtain ⟨x, y, z, t, hx, hy, hz, hs, ht, hz0, hz1, hzt, hzm⟩ := HS.out i hlt
        obtain ⟨ad, rfl, c1⟩ := hr1.load hx
        obtain ⟨bd, rfl, c2⟩ := hr2.load hy
        have HSl := Lib.hid hs
        have ss := fun p : Wb wr => And.intro (And.intro (Wb.cell q1 p) (Wb.cell c1 p)) (And.intro (Wb.cell q2 p) (Wb.cell c2 p))
        have hlts : (i : Int) < (ns : Int) := by omega
        have hi0 : ¬ (i : Int) < 0 := by omega
        clear k0 q1 q2 hr1 hr2 hs1 hs2 hx hy hs c1 c2
        go_wp2_with fail
        refine wp_region_wb (by kernel_rfl) (by kernel_rfl) ?_; (repeat ((with_reducible refine wpQuiet_step ?_); intro K hK; go_simp; (try (refine ite_neg_of (by simp [undef]) ?_)); first | (with_reducible refine hK _ ?_; clear hK K) | (apply Exists.intro; (with_reducible refine ⟨fun _ => ?_, hK _ ?_⟩); (fail); clear hK K))); (with_reducible refine wpQuiet_nil ?_); rintro w1 ⟨⟨_, hb1⟩, rfl⟩; (try dsimp only)
        have HBj := Lib.hid (HBi.out.trans (hb1.mono HBi.out.size))
        clear ss hb1
        obtain ⟨_, _, hs1, _⟩ := HO.out w1 HBj.out
        obtain ⟨sd, rfl, c3⟩ := hs1.load HSl.out
        clear hs1
        obtain ⟨q, hq⟩ : ∃ q, z / 2 ^ t = q := ⟨_, rfl⟩
        have hqi : (z : Int) / 2 ^ t = (q : Int) := by rw [← hq]; simp
        rw [hq] at hzt
        have hrm : (q : Int) % 2 = 1 := by omega
        have hrt : Int.tmod (q : Int) 2 = 1 := by rw [Int.tmod_eq_emod_of_nonneg (by omega)]; exact hrm
        have ht0 : ¬ (t : Int) < 0 := by omega
        have ht64 : t < 64 := by omega
        have ht16 : ¬ (16 : Int) ≤ (t : Int) := by omega
        obtain ⟨p1, p2⟩ := pow16 (k := t) (by omega)
        have hpw : IntKind.i64.wrap ((2 : Int) ^ t) = 2 ^ t := by
          rw [show ((2 : Int) ^ t) = ((2 ^ t : Nat) : Int) from by simp, IntKind.wrap_i64]
          omega
        have hpn : ¬ (2 : Int) ^ t = 0 := by rw [show ((2 : Int) ^ t) = ((2 ^ t : Nat) : Int) from by simp]; omega
        have hzt2 : Int.tmod (z : Int) (2 ^ t) = 0 := by rw [show ((2 : Int) ^ t) = ((2 ^ t : Nat) : Int) from by simp, Int.tmod_eq_emod_of_nonneg (by omega)]; omega
        clear hq hzm p1 p2
        go_wp2_with fail
        go_roundw
        case rel => exact ⟨i + 1, by go_num, by omega, HBj.out⟩
        case measure => simp [intOf]; omega
      · obtain rfl : ns = i := by omega
        clear k0 q1 q2 hr1 hr2 hs1 hs2
        go_wp2_with fail
        go_loopw [16] (fun iv wr => iv = .int .i64 0 ∧ Below w9.heap.size w9 wr) (fun _ _ => 0)
        case atStart => exact ⟨rfl, HBi.out⟩
        case round =>
          obtain ⟨rfl, hb⟩ := hrel
          have HBk := Lib.hid (HB.out.trans (hb.mono HB.out.size))
          clear hb
          go_wp2_with fail
          refine bodyPost_ret (v := .bool true) (by simp [results, Tryd.results8, go_sem]) rfl ?_
          exact And.intro rfl HBk.out
  case' inr.inr =>
    clear HCs
    obtain ⟨ra, hra⟩ : ∃ r, (rowF m a).may = r := ⟨_, rfl⟩
    obtain ⟨rb, hrb⟩ : ∃ r, (rowF m b).may = r := ⟨_, rfl⟩
    obtain ⟨na, hna⟩ : ∃ r, (rowF m a).nm = r := ⟨_, rfl⟩
    obtain ⟨nb, hnb⟩ : ∃ r, (rowF m b).nm = r := ⟨_, rfl⟩
    have HRr := Lib.hid (And.intro hra (And.intro hrb (And.intro hna hnb)))
    unfold ApR at hR
    unfold ApT at hT
    rw [hra, hrb] at hR hT
    rw [HNs.out.1] at hR hT
    have HS := Lib.hid hT
    have HRl := Lib.hid hR
    rw [HRs.out.2.2.2] at HS
    have HLl := Lib.hid (And.intro hnt hnl)
    clear hra hrb hna hnb hR hT
    obtain ⟨nt, hnn⟩ : ∃ n, tl.length = n := ⟨_, rfl⟩
    rw [hnn] at H2 hnt HS HLl ⊢
    rw [hnl] at H1 ⊢
    have HNt := Lib.hid hnn
    clear hnn hnl
    have HC := Lib.hid (Row_any _ m a w5 HM.out HSm.out)
    rw [HRr.out.1, HRr.out.2.2.1, HRl.out.1] at HC
    go_wp2_with fail
    (with_reducible refine HC.out.mono ?_)
    rintro e w6 ⟨⟨rv, rfl, hf⟩, hb⟩
    replace HB := Lib.hid (HB.out.trans (hb.mono HB.out.size))
    replace HT := Lib.hid (HT.out.step hb)
    replace HM := Lib.hid (HM.out.step hb)
    replace HBx := Lib.hid ((hb.block _ (Array.getElem?_eq_some_iff.1 HBx.out).1).trans HBx.out)
    replace HAx := Lib.hid ((hb.block _ (Array.getElem?_eq_some_iff.1 HAx.out).1).trans HAx.out)
    replace H1 := Lib.hid (H1.out.step hb)
    replace H2 := Lib.hid (H2.out.step hb)
    have hf := hf.1
    obtain ⟨R1, e1, rfl, _⟩ := hf.form
    rw [HRl.out.2.2.1] at hf ⊢
    have HR1 := Lib.hid hf
    clear hf hb HC
    have hb := below_new (w := w6) (.cells #[.int .i64 na, .slice R1 ns e1] 35)
    have hn := World.alloc_heap_new w6 (.cells #[.int .i64 na, .slice R1 ns e1] 35)
    obtain ⟨w7, hX⟩ : ∃ Z, w6.alloc (.cells #[.int .i64 na, .slice R1 ns e1] 35) = Z := ⟨_, rfl⟩
    rw [hX] at hb hn
    have HX := Lib.hid hX
    have HQ1 := Lib.hid hn
    replace HB := Lib.hid (HB.out.trans (hb.mono HB.out.size))
    replace HT := Lib.hid (HT.out.step hb)
    replace HM := Lib.hid (HM.out.step hb)
    replace HBx := Lib.hid ((hb.block _ (Array.getElem?_eq_some_iff.1 HBx.out).1).trans HBx.out)
    replace HAx := Lib.hid ((hb.block _ (Array.getElem?_eq_some_iff.1 HAx.out).1).trans HAx.out)
    replace H1 := Lib.hid (H1.out.step hb)
    replace H2 := Lib.hid (H2.out.step hb)
    replace HR1 := Lib.hid (HR1.out.step hb)
    clear hb hn hX
    clear k0 k1 a0 a1 a2 a3 a4 a5
    obtain ⟨k0, k1⟩ := cells_two HBx.out
    obtain ⟨a0, a1, a2, a3, a4, a5⟩ := cells_six HAx.out
    rw [← HX.out] at k0 k1 a0 a1 a2 a3 a4 a5
    go_wp2_with fail
    rw [HX.out]
    clear HX
    clear k0 k1 a0 a1 a2 a3 a4 a5
    obtain ⟨k0, k1⟩ := cells_two HBx.out
    obtain ⟨a0, a1, a2, a3, a4, a5⟩ := cells_six HAx.out
    have HC := Lib.hid (Row_any _ m b w7 HM.out HSm.out)
    rw [HRr.out.2.1, HRr.out.2.2.2, HRl.out.2.1] at HC
    go_wp2_with fail
    (with_reducible refine HC.out.mono ?_)
    rintro e w8 ⟨⟨rv, rfl, hf⟩, hb⟩
    replace HB := Lib.hid (HB.out.trans (hb.mono HB.out.size))
    replace HT := Lib.hid (HT.out.step hb)
    replace HM := Lib.hid (HM.out.step hb)
    replace HBx := Lib.hid ((hb.block _ (Array.getElem?_eq_some_iff.1 HBx.out).1).trans HBx.out)
    replace HAx := Lib.hid ((hb.block _ (Array.getElem?_eq_some_iff.1 HAx.out).1).trans HAx.out)
    replace H1 := Lib.hid (H1.out.step hb)
    replace H2 := Lib.hid (H2.out.step hb)
    replace HR1 := Lib.hid (HR1.out.step hb)
    replace HQ1 := Lib.hid ((hb.block _ (Array.getElem?_eq_some_iff.1 HQ1.out).1).trans HQ1.out)
    have hf := hf.1
    obtain ⟨R2, e2, rfl, _⟩ := hf.form
    rw [HRl.out.2.2.2] at hf ⊢
    have HR2 := Lib.hid hf
    clear hf hb HC
    have hb := below_new (w := w8) (.cells #[.int .i64 nb, .slice R2 ns e2] 35)
    have hn := World.alloc_heap_new w8 (.cells #[.int .i64 nb, .slice R2 ns e2] 35)
    obtain ⟨w9, hX⟩ : ∃ Z, w8.alloc (.cells #[.int .i64 nb, .slice R2 ns e2] 35) = Z := ⟨_, rfl⟩
    rw [hX] at hb hn
    have HX := Lib.hid hX
    have HQ2 := Lib.hid hn
    replace HB := Lib.hid (HB.out.trans (hb.mono HB.out.size))
    replace HT := Lib.hid (HT.out.step hb)
    replace HM := Lib.hid (HM.out.step hb)
    replace HBx := Lib.hid ((hb.block _ (Array.getElem?_eq_some_iff.1 HBx.out).1).trans HBx.out)
    replace HAx := Lib.hid ((hb.block _ (Array.getElem?_eq_some_iff.1 HAx.out).1).trans HAx.out)
    replace H1 := Lib.hid (H1.out.step hb)
    replace H2 := Lib.hid (H2.out.step hb)
    replace HR1 := Lib.hid (HR1.out.step hb)
    replace HQ1 := Lib.hid ((hb.block _ (Array.getElem?_eq_some_iff.1 HQ1.out).1).trans HQ1.out)
    replace HR2 := Lib.hid (HR2.out.step hb)
    clear hb hn hX
    clear k0 k1 a0 a1 a2 a3 a4 a5
    obtain ⟨k0, k1⟩ := cells_two HBx.out
    obtain ⟨a0, a1, a2, a3, a4, a5⟩ := cells_six HAx.out
    rw [← HX.out] at k0 k1 a0 a1 a2 a3 a4 a5
    obtain ⟨r0, r1⟩ := cells_two HQ1.out
    obtain ⟨s0, s1⟩ := cells_two HQ2.out
    rw [← HX.out] at r0 r1 s0 s1
    have hnt0 : ¬ nt = 0 := by omega
    have hntz : ¬ (nt : Int) = 0 := by omega
    go_wp2_with fail
    rw [HX.out]
    clear r0 r1 s0 s1
    clear k0 k1 a0 a1 a2 a3 a4 a5
    obtain ⟨k0, k1⟩ := cells_two HBx.out
    obtain ⟨a0, a1, a2, a3, a4, a5⟩ := cells_six HAx.out
    have HO := Lib.hid (show ∀ Y, Below w9.heap.size w9 Y → ((Y.cell? ⟨w.heap.size, 0, none⟩ = some (.slice A1 ns c1) ∧ Y.cell? ⟨w6.heap.size, 1, none⟩ = some (.slice R1 ns e1)) ∧ Y.cell? ⟨w8.heap.size, 1, none⟩ = some (.slice R2 ns e2)) ∧ (InSl Y Y.heap.size (.slice R1 ns e1) ra ∧ InSl Y Y.heap.size (.slice R2 ns e2) rb) ∧ InSl Y Y.heap.size (.slice S1 0 sc1) sl ∧ InSl Y Y.heap.size (.slice S2 nt sc2) tl from fun Y h => ⟨⟨⟨(cells_two ((h.block _ (Array.getElem?_eq_some_iff.1 HBx.out).1).trans HBx.out)).1, (cells_two ((h.block _ (Array.getElem?_eq_some_iff.1 HQ1.out).1).trans HQ1.out)).2⟩, (cells_two ((h.block _ (Array.getElem?_eq_some_iff.1 HQ2.out).1).trans HQ2.out)).2⟩, ⟨HR1.out.step h, HR2.out.step h⟩, H1.out.step h, H2.out.step h⟩)
    clear k0 k1 a0 a1 a2 a3 a4 a5 HT HM HAx HQ1 HQ2 HR1 HR2 H1 H2
    have hn1000 : ns ≤ 1000 := by rw [← HNs.out.1]; exact HSm.out.1
    have hnt1000 : nt ≤ 1000 := by
      have h := tell_le m a b
      rw [HRs.out.2.2.2, HNt.out, HNs.out.1] at h
      omega
    go_loopw [14] (fun iv wr => iv = .int .i64 0 ∧ Below w9.heap.size w9 wr) (fun _ _ => 0)
    case atStart => exact ⟨rfl, Below.refl _ _⟩
    case round =>
      obtain ⟨rfl, hb⟩ := hrel
      have HBk := Lib.hid hb
      clear hb
      go_wp2_with fail
      go_loopw [16] (fun iv wr => ∃ i : Nat, iv = .int .i64 (i : Int) ∧ i ≤ nt ∧ Below w9.heap.size w9 wr) (fun iv _ => nt - (intOf iv).toNat)
      case atStart => exact ⟨0, rfl, by omega, HBk.out⟩
      case round =>
        obtain ⟨i, rfl, hin, hb⟩ := hrel
        have HBi := Lib.hid hb
        clear hb
        obtain ⟨⟨⟨k0, q1⟩, q2⟩, ⟨hr1, hr2⟩, hs1, hs2⟩ := HO.out wr HBi.out
        by_cases hlt : i < nt
        · obtain ⟨cc, x, y, hcc, hcn, hx, hy, hz, hd⟩ := HS.out i hlt
          obtain ⟨ad, rfl, c1⟩ := hr1.load hx
          obtain ⟨bd, rfl, c2⟩ := hr2.load hy
          obtain ⟨sd, rfl, c3⟩ := hs2.load hcc
          have hcc0 : ¬ (cc : Int) < 0 := by omega
          have hccn : (cc : Int) < (ns : Int) := by omega
          have hccm : ¬ (ns : Int) ≤ (cc : Int) := by omega
          have hlts : (i : Int) < (nt : Int) := by omega
          have hi0 : ¬ (i : Int) < 0 := by omega
          rcases Nat.eq_zero_or_pos i with rfl | hip
          · have c4 : wr.cell? sd = some (.int .i64 (cc : Int)) := c3
            have ss := fun p : Wb wr => And.intro (And.intro (And.intro (Wb.cell k0 p) (Wb.cell c3 p)) (And.intro (Wb.cell q1 p) (Wb.cell c1 p))) (And.intro (And.intro (Wb.cell q2 p) (Wb.cell c2 p)) (Wb.cell c4 p))
            clear hd k0 q1 q2 hr1 hr2 hs1 hs2 hx hy hcc c1 c2 c3 c4
            go_wp2_with fail
            refine wp_region_wb (by kernel_rfl) (by kernel_rfl) ?_; (repeat ((with_reducible refine wpQuiet_step ?_); intro K hK; go_simp; (try (refine ite_neg_of (by simp [undef]) ?_)); first | (with_reducible refine hK _ ?_; clear hK K) | (apply Exists.intro; (with_reducible refine ⟨fun _ => ?_, hK _ ?_⟩); (fail); clear hK K))); (with_reducible refine wpQuiet_nil ?_); rintro w1 ⟨⟨_, hb1⟩, rfl⟩; (try dsimp only)
            have HBj := Lib.hid (HBi.out.trans (hb1.mono HBi.out.size))
            clear ss hb1
            go_wp2_with fail
            go_roundw
            case rel => exact ⟨1, by go_num, by omega, HBj.out⟩
            case measure => simp [intOf]; omega
          · obtain ⟨j, hji⟩ : ∃ j, i - 1 = j := ⟨_, rfl⟩
            obtain ⟨d, hdd⟩ : ∃ d, tl[j]? = some d := ⟨_, List.getElem?_eq_getElem (by have := HNt.out; omega)⟩
            have hdl := hd d hip (by rw [hji]; exact hdd)
            obtain ⟨sd2, e2, c4⟩ := hs2.load hdd
            cases e2
            have hjs : IntKind.i64.wrap ((i : Int) - 1) = (j : Int) := by rw [IntKind.wrap_i64]; omega
            have hj0 : (0 : Int) < (i : Int) := by omega
            have hjn : (j : Int) < (nt : Int) := by omega
            have hj1 : ¬ (j : Int) < 0 := by omega
            have hdl2 : ¬ (cc : Int) ≤ d := by omega
            have ss := fun p : Wb wr => And.intro (And.intro (And.intro (Wb.cell k0 p) (Wb.cell c3 p)) (And.intro (Wb.cell q1 p) (Wb.cell c1 p))) (And.intro (And.intro (Wb.cell q2 p) (Wb.cell c2 p)) (Wb.cell c4 p))
            clear hd k0 q1 q2 hr1 hr2 hs1 hs2 hx hy hcc c1 c2 c3 c4 hdd hji
            go_wp2_with fail
            refine wp_region_wb (by kernel_rfl) (by kernel_rfl) ?_; (repeat ((with_reducible refine wpQuiet_step ?_); intro K hK; go_simp; (try (refine ite_neg_of (by simp [undef]) ?_)); first | (with_reducible refine hK _ ?_; clear hK K) | (apply Exists.intro; (with_reducible refine ⟨fun _ => ?_, hK _ ?_⟩); (fail); clear hK K))); (with_reducible refine wpQuiet_nil ?_); rintro w1 ⟨⟨_, hb1⟩, rfl⟩; (try dsimp only)
            have HBj := Lib.hid (HBi.out.trans (hb1.mono HBi.out.size))
            clear ss hb1
            go_wp2_with fail
            go_roundw
            case rel => exact ⟨i + 1, by go_num, by omega, HBj.out⟩
            case measure => simp [intOf]; omega
        · obtain rfl : nt = i := by omega
          have HBf := Lib.hid (HB.out.trans (HBi.out.mono HB.out.size))
          clear k0 q1 q2 hr1 hr2 hs1 hs2
          go_wp2_with fail
          refine bodyPost_ret (v := .bool true) (by simp [results, Tryd.results8, go_sem]) rfl ?_
          exact And.intro rfl HBf.out
end Go.Proofs.YthfegbcbpeedbaaDoor
