/- KeysNames. -/
import Derived.Test.YthfegbcbpeedbaaDoorKyPo
import Derived.Test.YthfegbcbpeedbaaDoorKyAs
namespace Go.Proofs.YthfegbcbpeedbaaDoor
open Go.RowKit Go.Nm Go.Ky

theorem both_len {m : Mx} {a b : List Int} : (bothL m a b).length ≤ a.length := by
  unfold bothL
  split
  · rw [List.length_zipWith]; omega
  · simp
theorem com_len {m : Mx} {a b : Int} (hs : MSm m) : (comL m a b).length ≤ 1000 := by
  unfold comL
  rw [List.length_zipWith]
  rcases row_all m a with ⟨_, _, h, _⟩ | ⟨_, h⟩
  · rw [h]; have := hs.1; omega
  · rw [h]; simp
theorem same_len {m : Mx} {a b : Int} (hs : MSm m) : (sameL m a b).length ≤ 1000 := by
  unfold sameL
  split
  · rw [List.length_map]; exact com_len hs
  · simp
theorem tell_len {m : Mx} {a b : Int} (hs : MSm m) : (tellL m a b).length ≤ 1000 := by
  unfold tellL
  split
  · unfold tlT
    rw [List.length_map]
    have h := List.length_filter_le (fun c => decide ((comL m a b).getD c 1 = 0)) (List.range m.st.length)
    rw [List.length_range] at h
    have := hs.1
    omega
  · simp
set_option maxRecDepth 100000 in
set_option maxHeartbeats 16000000 in
theorem KeysNames_any (v u : Value) (m : Mx) (l1 l2 l3 : List Int) (a b c : Int) (w : World) (hv : MxV w v m) (hu : AskV w u l1 l2 l3 a b c) (hT : TabH w) :
    Calls Tryd.prog 4 #[v, u] w fun e w' => e = .returned (.bool true) ∧ Below w.heap.size w w' := by
  obtain ⟨A1, c1, A2, c2, W0, rfl, hW0, hb0, hM, hS, hR, hX⟩ := mx_box hv
  have hz : W0.heap.size = w.heap.size + 1 := by rw [← hW0]; simp
  have hn0 : W0.heap[w.heap.size]? = some (.cells #[.slice A1 m.st.length c1, .slice A2 m.rows.length c2] 25) := by rw [← hW0]; exact World.alloc_heap_new w _
  obtain ⟨B1, d1, B2, d2, B3, d3, W1, rfl, hW1, hb1, hI1, hI2, hI3, hn1⟩ := ask_box (hu.step hb0)
  rw [hz] at hn1
  have HW := Lib.hid (And.intro hW0 hW1)
  have HB := Lib.hid (hb0.trans (hb1.mono hb0.size))
  have HT := Lib.hid ((hT.step hb0).step hb1)
  have HM := Lib.hid (hM W1 hb1)
  have HBx := Lib.hid ((hb1.block _ (by omega)).trans hn0)
  have HAx := Lib.hid hn1
  have HI := Lib.hid hI1
  have HJ := Lib.hid hI2
  have HNl := Lib.hid (show l1.length = l1.length from rfl)
  obtain ⟨ns, hns⟩ : ∃ n, m.st.length = n := ⟨_, rfl⟩
  obtain ⟨nr, hnr⟩ : ∃ n, m.rows.length = n := ⟨_, rfl⟩
  obtain ⟨n1, hn1'⟩ : ∃ n, l1.length = n := ⟨_, rfl⟩
  obtain ⟨n2, hn2'⟩ : ∃ n, l2.length = n := ⟨_, rfl⟩
  generalize l3.length = n3 at *
  rw [hns, hnr] at HW HM HBx
  rw [hn1', hn2'] at HW HAx
  rw [hn1'] at HI
  rw [hn2'] at HJ
  rw [hns, hnr, hn1', hn2']
  have HN1 := Lib.hid hn1'
  have HN2 := Lib.hid hn2'
  obtain ⟨k0, k1⟩ := cells_two HBx.out
  obtain ⟨a0, a1, a2, a3, a4, a5⟩ := cells_six HAx.out
  clear hv hu hT hW0 hb0 hM hS hR hX hz hn0 hW1 hb1 hI1 hI2 hI3 hn1 hns hnr hn1' hn2' HNl
  go_enter Tryd.func4, Tryd.ntmps4
  go_wp2_with fail
  rw [HW.out.1, HW.out.2]
  (try go_wp2_with fail)
  (with_reducible refine (awake_any _ HT.out).mono ?_)
  rintro e w1 ⟨rfl, hb⟩
  replace HB := Lib.hid (HB.out.trans (hb.mono HB.out.size))
  replace HT := Lib.hid (HT.out.step hb)
  replace HM := Lib.hid (HM.out.step hb)
  replace HBx := Lib.hid ((hb.block _ (Array.getElem?_eq_some_iff.1 HBx.out).1).trans HBx.out)
  replace HAx := Lib.hid ((hb.block _ (Array.getElem?_eq_some_iff.1 HAx.out).1).trans HAx.out)
  replace HI := Lib.hid (HI.out.step hb)
  replace HJ := Lib.hid (HJ.out.step hb)
  clear hb
  clear k0 k1 a0 a1 a2 a3 a4 a5
  obtain ⟨k0, k1⟩ := cells_two HBx.out
  obtain ⟨a0, a1, a2, a3, a4, a5⟩ := cells_six HAx.out
  have HFw := Lib.hid (few_any _ m w1 HM.out)
  cases hfw : fewF m with
  | false =>
    rw [hfw] at HFw
    clear hfw
    go_wp2_with fail
    (with_reducible refine HFw.out.mono ?_)
    rintro e w2 ⟨rfl, hb⟩
    replace HB := Lib.hid (HB.out.trans (hb.mono HB.out.size))
    clear hb
    go_wp2_with fail
    go_ret
    exact ⟨rfl, HB.out⟩
  | true =>
  rw [hfw] at HFw
  have HSm := Lib.hid (few_sm hfw)
  clear hfw
  go_wp2_with fail
  (with_reducible refine HFw.out.mono ?_)
  rintro e w2 ⟨rfl, hb⟩
  replace HB := Lib.hid (HB.out.trans (hb.mono HB.out.size))
  replace HT := Lib.hid (HT.out.step hb)
  replace HM := Lib.hid (HM.out.step hb)
  replace HBx := Lib.hid ((hb.block _ (Array.getElem?_eq_some_iff.1 HBx.out).1).trans HBx.out)
  replace HAx := Lib.hid ((hb.block _ (Array.getElem?_eq_some_iff.1 HAx.out).1).trans HAx.out)
  replace HI := Lib.hid (HI.out.step hb)
  replace HJ := Lib.hid (HJ.out.step hb)
  clear hb
  clear k0 k1 a0 a1 a2 a3 a4 a5
  obtain ⟨k0, k1⟩ := cells_two HBx.out
  obtain ⟨a0, a1, a2, a3, a4, a5⟩ := cells_six HAx.out
  have HLi := Lib.hid (light_any B1 B2 B3 n1 n2 n3 d1 d2 d3 a b c w2)
  cases hli : decide (n1 ≤ 100 ∧ n2 ≤ 100 ∧ n3 ≤ 100) with
  | false =>
    rw [hli] at HLi
    clear hli
    go_wp2_with fail
    (with_reducible refine HLi.out.mono ?_)
    rintro e w3 ⟨rfl, hb⟩
    replace HB := Lib.hid (HB.out.trans (hb.mono HB.out.size))
    clear hb
    go_wp2_with fail
    go_ret
    exact ⟨rfl, HB.out⟩
  | true =>
  rw [hli] at HLi
  have hl1 : n1 ≤ 100 := (of_decide_eq_true hli).1
  have hl2 : n2 ≤ 100 := (of_decide_eq_true hli).2.1
  have HLem := Lib.hid (show l2.length ≤ 100 from by rw [HN2.out]; exact hl2)
  have HLen := Lib.hid (show l1.length ≤ 100 from by rw [HN1.out]; exact hl1)
  clear hli hl1 hl2 HFw
  go_wp2_with fail
  (with_reducible refine HLi.out.mono ?_)
  rintro e w3 ⟨rfl, hb⟩
  replace HB := Lib.hid (HB.out.trans (hb.mono HB.out.size))
  replace HT := Lib.hid (HT.out.step hb)
  replace HM := Lib.hid (HM.out.step hb)
  replace HBx := Lib.hid ((hb.block _ (Array.getElem?_eq_some_iff.1 HBx.out).1).trans HBx.out)
  replace HAx := Lib.hid ((hb.block _ (Array.getElem?_eq_some_iff.1 HAx.out).1).trans HAx.out)
  replace HI := Lib.hid (HI.out.step hb)
  replace HJ := Lib.hid (HJ.out.step hb)
  clear hb
  clear k0 k1 a0 a1 a2 a3 a4 a5
  obtain ⟨k0, k1⟩ := cells_two HBx.out
  obtain ⟨a0, a1, a2, a3, a4, a5⟩ := cells_six HAx.out
  clear HLi
  obtain ⟨be, hbe⟩ : ∃ x, bothE m l1 l2 = x := ⟨_, rfl⟩
  obtain ⟨bl, hbl⟩ : ∃ x, bothL m l1 l2 = x := ⟨_, rfl⟩
  obtain ⟨se, hse⟩ : ∃ x, sameE m a b = x := ⟨_, rfl⟩
  obtain ⟨sl, hsl⟩ : ∃ x, sameL m a b = x := ⟨_, rfl⟩
  obtain ⟨te, hte⟩ : ∃ x, comE m a b = x := ⟨_, rfl⟩
  obtain ⟨tl, htl⟩ : ∃ x, tellL m a b = x := ⟨_, rfl⟩
  have HRs := Lib.hid (And.intro hbe (And.intro hbl (And.intro hse (And.intro hsl (And.intro hte htl)))))
  have HLs := Lib.hid (show bl.length ≤ 1000000 ∧ sl.length ≤ 1000000 ∧ tl.length ≤ 1000000 from by
    have h1 := both_len (m := m) (a := l1) (b := l2)
    have h2 := same_len (a := a) (b := b) HSm.out
    have h3 := tell_len (a := a) (b := b) HSm.out
    have h4 := HLen.out
    rw [hbl] at h1; rw [hsl] at h2; rw [htl] at h3
    exact ⟨by omega, by omega, by omega⟩)
  have HL5 := Lib.hid (show l1.length ≤ 100000 ∧ l2.length ≤ 100000 from ⟨by have := HLen.out; omega, by have := HLem.out; omega⟩)
  clear hbe hbl hse hsl hte htl
  have HC := Lib.hid (Both_any _ _ _ m l1 l2 w3 HM.out HSm.out HI.out HJ.out HL5.out.1 HL5.out.2)
  rw [HRs.out.1, HRs.out.2.1] at HC
  go_wp2_with fail
  (with_reducible refine HC.out.mono ?_)
  rintro e w4 ⟨⟨u1, rfl, hf⟩, hb⟩
  replace HB := Lib.hid (HB.out.trans (hb.mono HB.out.size))
  replace HT := Lib.hid (HT.out.step hb)
  replace HM := Lib.hid (HM.out.step hb)
  replace HBx := Lib.hid ((hb.block _ (Array.getElem?_eq_some_iff.1 HBx.out).1).trans HBx.out)
  replace HAx := Lib.hid ((hb.block _ (Array.getElem?_eq_some_iff.1 HAx.out).1).trans HAx.out)
  replace HI := Lib.hid (HI.out.step hb)
  replace HJ := Lib.hid (HJ.out.step hb)
  have H1 := Lib.hid hf.1
  clear hf HC
  clear hb
  clear k0 k1 a0 a1 a2 a3 a4 a5
  obtain ⟨k0, k1⟩ := cells_two HBx.out
  obtain ⟨a0, a1, a2, a3, a4, a5⟩ := cells_six HAx.out
  have HC := Lib.hid (rBoth_any _ _ _ m l1 l2 w4 HM.out HSm.out HI.out HJ.out HL5.out.1 HL5.out.2)
  rw [HRs.out.1, HRs.out.2.1] at HC
  go_wp2_with fail
  (with_reducible refine HC.out.mono ?_)
  rintro e w5 ⟨⟨u2, rfl, hf⟩, hb⟩
  replace HB := Lib.hid (HB.out.trans (hb.mono HB.out.size))
  replace HT := Lib.hid (HT.out.step hb)
  replace HM := Lib.hid (HM.out.step hb)
  replace HBx := Lib.hid ((hb.block _ (Array.getElem?_eq_some_iff.1 HBx.out).1).trans HBx.out)
  replace HAx := Lib.hid ((hb.block _ (Array.getElem?_eq_some_iff.1 HAx.out).1).trans HAx.out)
  replace HI := Lib.hid (HI.out.step hb)
  replace HJ := Lib.hid (HJ.out.step hb)
  replace H1 := Lib.hid (H1.out.step hb)
  have H2 := Lib.hid hf.1
  clear hf HC
  clear hb
  clear k0 k1 a0 a1 a2 a3 a4 a5
  obtain ⟨k0, k1⟩ := cells_two HBx.out
  obtain ⟨a0, a1, a2, a3, a4, a5⟩ := cells_six HAx.out
  have HC := Lib.hid (Same_any _ m a b w5 HM.out HSm.out HT.out)
  rw [HRs.out.2.2.1, HRs.out.2.2.2.1] at HC
  go_wp2_with fail
  (with_reducible refine HC.out.mono ?_)
  rintro e w6 ⟨⟨u3, rfl, hf, _⟩, hb⟩
  replace HB := Lib.hid (HB.out.trans (hb.mono HB.out.size))
  replace HT := Lib.hid (HT.out.step hb)
  replace HM := Lib.hid (HM.out.step hb)
  replace HBx := Lib.hid ((hb.block _ (Array.getElem?_eq_some_iff.1 HBx.out).1).trans HBx.out)
  replace HAx := Lib.hid ((hb.block _ (Array.getElem?_eq_some_iff.1 HAx.out).1).trans HAx.out)
  replace HI := Lib.hid (HI.out.step hb)
  replace HJ := Lib.hid (HJ.out.step hb)
  replace H1 := Lib.hid (H1.out.step hb)
  replace H2 := Lib.hid (H2.out.step hb)
  have H3 := Lib.hid hf
  clear hf HC
  clear hb
  clear k0 k1 a0 a1 a2 a3 a4 a5
  obtain ⟨k0, k1⟩ := cells_two HBx.out
  obtain ⟨a0, a1, a2, a3, a4, a5⟩ := cells_six HAx.out
  have HC := Lib.hid (rSame_any _ m a b w6 HM.out HSm.out)
  rw [HRs.out.2.2.1, HRs.out.2.2.2.1] at HC
  go_wp2_with fail
  (with_reducible refine HC.out.mono ?_)
  rintro e w7 ⟨⟨u4, rfl, hf⟩, hb⟩
  replace HB := Lib.hid (HB.out.trans (hb.mono HB.out.size))
  replace HT := Lib.hid (HT.out.step hb)
  replace HM := Lib.hid (HM.out.step hb)
  replace HBx := Lib.hid ((hb.block _ (Array.getElem?_eq_some_iff.1 HBx.out).1).trans HBx.out)
  replace HAx := Lib.hid ((hb.block _ (Array.getElem?_eq_some_iff.1 HAx.out).1).trans HAx.out)
  replace HI := Lib.hid (HI.out.step hb)
  replace HJ := Lib.hid (HJ.out.step hb)
  replace H1 := Lib.hid (H1.out.step hb)
  replace H2 := Lib.hid (H2.out.step hb)
  replace H3 := Lib.hid (H3.out.step hb)
  have H4 := Lib.hid hf.1
  clear hf HC
  clear hb
  clear k0 k1 a0 a1 a2 a3 a4 a5
  obtain ⟨k0, k1⟩ := cells_two HBx.out
  obtain ⟨a0, a1, a2, a3, a4, a5⟩ := cells_six HAx.out
  have HC := Lib.hid (Tell_any _ m a b w7 HM.out HSm.out)
  rw [HRs.out.2.2.2.2.1, HRs.out.2.2.2.2.2] at HC
  go_wp2_with fail
  (with_reducible refine HC.out.mono ?_)
  rintro e w8 ⟨⟨u5, rfl, hf⟩, hb⟩
  replace HB := Lib.hid (HB.out.trans (hb.mono HB.out.size))
  replace HT := Lib.hid (HT.out.step hb)
  replace HM := Lib.hid (HM.out.step hb)
  replace HBx := Lib.hid ((hb.block _ (Array.getElem?_eq_some_iff.1 HBx.out).1).trans HBx.out)
  replace HAx := Lib.hid ((hb.block _ (Array.getElem?_eq_some_iff.1 HAx.out).1).trans HAx.out)
  replace HI := Lib.hid (HI.out.step hb)
  replace HJ := Lib.hid (HJ.out.step hb)
  replace H1 := Lib.hid (H1.out.step hb)
  replace H2 := Lib.hid (H2.out.step hb)
  replace H3 := Lib.hid (H3.out.step hb)
  replace H4 := Lib.hid (H4.out.step hb)
  have H5 := Lib.hid hf.1
  clear hf HC
  clear hb
  clear k0 k1 a0 a1 a2 a3 a4 a5
  obtain ⟨k0, k1⟩ := cells_two HBx.out
  obtain ⟨a0, a1, a2, a3, a4, a5⟩ := cells_six HAx.out
  have HC := Lib.hid (rTell_any _ m a b w8 HM.out HSm.out)
  rw [HRs.out.2.2.2.2.1, HRs.out.2.2.2.2.2] at HC
  go_wp2_with fail
  (with_reducible refine HC.out.mono ?_)
  rintro e w9 ⟨⟨u6, rfl, hf⟩, hb⟩
  replace HB := Lib.hid (HB.out.trans (hb.mono HB.out.size))
  replace HT := Lib.hid (HT.out.step hb)
  replace HM := Lib.hid (HM.out.step hb)
  replace HBx := Lib.hid ((hb.block _ (Array.getElem?_eq_some_iff.1 HBx.out).1).trans HBx.out)
  replace HAx := Lib.hid ((hb.block _ (Array.getElem?_eq_some_iff.1 HAx.out).1).trans HAx.out)
  replace HI := Lib.hid (HI.out.step hb)
  replace HJ := Lib.hid (HJ.out.step hb)
  replace H1 := Lib.hid (H1.out.step hb)
  replace H2 := Lib.hid (H2.out.step hb)
  replace H3 := Lib.hid (H3.out.step hb)
  replace H4 := Lib.hid (H4.out.step hb)
  replace H5 := Lib.hid (H5.out.step hb)
  have H6 := Lib.hid hf.1
  clear hf HC
  clear hb
  clear k0 k1 a0 a1 a2 a3 a4 a5
  obtain ⟨k0, k1⟩ := cells_two HBx.out
  obtain ⟨a0, a1, a2, a3, a4, a5⟩ := cells_six HAx.out
  have q1 : (be != be) = false := by simp
  have q2 : (se != se) = false := by simp
  have q3 : (te != te) = false := by simp
  have HC := Lib.hid (SameInts_any u1 u2 bl bl w9 H1.out H2.out HLs.out.1 HLs.out.1)
  rw [show decide (bl = bl) = true from by simp] at HC
  go_wp2_with fail
  (with_reducible refine HC.out.mono ?_)
  rintro e w10 ⟨rfl, hb⟩
  replace HB := Lib.hid (HB.out.trans (hb.mono HB.out.size))
  replace HT := Lib.hid (HT.out.step hb)
  replace HM := Lib.hid (HM.out.step hb)
  replace HBx := Lib.hid ((hb.block _ (Array.getElem?_eq_some_iff.1 HBx.out).1).trans HBx.out)
  replace HAx := Lib.hid ((hb.block _ (Array.getElem?_eq_some_iff.1 HAx.out).1).trans HAx.out)
  replace HI := Lib.hid (HI.out.step hb)
  replace HJ := Lib.hid (HJ.out.step hb)
  replace H3 := Lib.hid (H3.out.step hb)
  replace H4 := Lib.hid (H4.out.step hb)
  replace H5 := Lib.hid (H5.out.step hb)
  replace H6 := Lib.hid (H6.out.step hb)
  clear HC H1 H2
  clear hb
  clear k0 k1 a0 a1 a2 a3 a4 a5
  obtain ⟨k0, k1⟩ := cells_two HBx.out
  obtain ⟨a0, a1, a2, a3, a4, a5⟩ := cells_six HAx.out
  have HC := Lib.hid (SameInts_any u3 u4 sl sl w10 H3.out H4.out HLs.out.2.1 HLs.out.2.1)
  rw [show decide (sl = sl) = true from by simp] at HC
  go_wp2_with fail
  (with_reducible refine HC.out.mono ?_)
  rintro e w11 ⟨rfl, hb⟩
  replace HB := Lib.hid (HB.out.trans (hb.mono HB.out.size))
  replace HT := Lib.hid (HT.out.step hb)
  replace HM := Lib.hid (HM.out.step hb)
  replace HBx := Lib.hid ((hb.block _ (Array.getElem?_eq_some_iff.1 HBx.out).1).trans HBx.out)
  replace HAx := Lib.hid ((hb.block _ (Array.getElem?_eq_some_iff.1 HAx.out).1).trans HAx.out)
  replace HI := Lib.hid (HI.out.step hb)
  replace HJ := Lib.hid (HJ.out.step hb)
  replace H5 := Lib.hid (H5.out.step hb)
  replace H6 := Lib.hid (H6.out.step hb)
  clear HC H3 H4
  clear hb
  clear k0 k1 a0 a1 a2 a3 a4 a5
  obtain ⟨k0, k1⟩ := cells_two HBx.out
  obtain ⟨a0, a1, a2, a3, a4, a5⟩ := cells_six HAx.out
  have HC := Lib.hid (SameInts_any u5 u6 tl tl w11 H5.out H6.out HLs.out.2.2 HLs.out.2.2)
  rw [show decide (tl = tl) = true from by simp] at HC
  go_wp2_with fail
  (with_reducible refine HC.out.mono ?_)
  rintro e w12 ⟨rfl, hb⟩
  replace HB := Lib.hid (HB.out.trans (hb.mono HB.out.size))
  replace HT := Lib.hid (HT.out.step hb)
  replace HM := Lib.hid (HM.out.step hb)
  replace HBx := Lib.hid ((hb.block _ (Array.getElem?_eq_some_iff.1 HBx.out).1).trans HBx.out)
  replace HAx := Lib.hid ((hb.block _ (Array.getElem?_eq_some_iff.1 HAx.out).1).trans HAx.out)
  replace HI := Lib.hid (HI.out.step hb)
  replace HJ := Lib.hid (HJ.out.step hb)
  clear HC H5 H6
  clear hb
  clear k0 k1 a0 a1 a2 a3 a4 a5
  obtain ⟨k0, k1⟩ := cells_two HBx.out
  obtain ⟨a0, a1, a2, a3, a4, a5⟩ := cells_six HAx.out
  obtain ⟨we, hwe⟩ : ∃ x, worstE m l1 c = x := ⟨_, rfl⟩
  obtain ⟨wc, hwc⟩ : ∃ x, worstC m l1 c = x := ⟨_, rfl⟩
  obtain ⟨xe, hxe⟩ : ∃ x, bestE m l1 = x := ⟨_, rfl⟩
  obtain ⟨xc, hxc⟩ : ∃ x, bestC m l1 = x := ⟨_, rfl⟩
  have HRs := Lib.hid (And.intro hwe (And.intro hwc (And.intro hxe hxc)))
  have HL6 := Lib.hid (show l1.length ≤ 1000000 ∧ l1.length ≤ 1000 from ⟨by have := HLen.out; omega, by have := HLen.out; omega⟩)
  clear hwe hwc hxe hxc
  have HC := Lib.hid (Worst_any _ _ m l1 c w12 HM.out HSm.out HI.out HL6.out.1)
  rw [HRs.out.1, HRs.out.2.1] at HC
  go_wp2_with fail
  (with_reducible refine HC.out.mono ?_)
  rintro e w13 ⟨rfl, hb⟩
  replace HB := Lib.hid (HB.out.trans (hb.mono HB.out.size))
  replace HT := Lib.hid (HT.out.step hb)
  replace HM := Lib.hid (HM.out.step hb)
  replace HBx := Lib.hid ((hb.block _ (Array.getElem?_eq_some_iff.1 HBx.out).1).trans HBx.out)
  replace HAx := Lib.hid ((hb.block _ (Array.getElem?_eq_some_iff.1 HAx.out).1).trans HAx.out)
  replace HI := Lib.hid (HI.out.step hb)
  replace HJ := Lib.hid (HJ.out.step hb)
  clear HC
  clear hb
  clear k0 k1 a0 a1 a2 a3 a4 a5
  obtain ⟨k0, k1⟩ := cells_two HBx.out
  obtain ⟨a0, a1, a2, a3, a4, a5⟩ := cells_six HAx.out
  have HC := Lib.hid (rWorst_any _ _ m l1 c w13 HM.out HSm.out HI.out HL6.out.1)
  rw [HRs.out.1, HRs.out.2.1] at HC
  go_wp2_with fail
  (with_reducible refine HC.out.mono ?_)
  rintro e w14 ⟨rfl, hb⟩
  replace HB := Lib.hid (HB.out.trans (hb.mono HB.out.size))
  replace HT := Lib.hid (HT.out.step hb)
  replace HM := Lib.hid (HM.out.step hb)
  replace HBx := Lib.hid ((hb.block _ (Array.getElem?_eq_some_iff.1 HBx.out).1).trans HBx.out)
  replace HAx := Lib.hid ((hb.block _ (Array.getElem?_eq_some_iff.1 HAx.out).1).trans HAx.out)
  replace HI := Lib.hid (HI.out.step hb)
  replace HJ := Lib.hid (HJ.out.step hb)
  clear HC
  clear hb
  clear k0 k1 a0 a1 a2 a3 a4 a5
  obtain ⟨k0, k1⟩ := cells_two HBx.out
  obtain ⟨a0, a1, a2, a3, a4, a5⟩ := cells_six HAx.out
  have HC := Lib.hid (Best_any _ _ m l1 w14 HM.out HSm.out HI.out HL6.out.2)
  rw [HRs.out.2.2.1, HRs.out.2.2.2] at HC
  go_wp2_with fail
  (with_reducible refine HC.out.mono ?_)
  rintro e w15 ⟨rfl, hb⟩
  replace HB := Lib.hid (HB.out.trans (hb.mono HB.out.size))
  replace HT := Lib.hid (HT.out.step hb)
  replace HM := Lib.hid (HM.out.step hb)
  replace HBx := Lib.hid ((hb.block _ (Array.getElem?_eq_some_iff.1 HBx.out).1).trans HBx.out)
  replace HAx := Lib.hid ((hb.block _ (Array.getElem?_eq_some_iff.1 HAx.out).1).trans HAx.out)
  replace HI := Lib.hid (HI.out.step hb)
  replace HJ := Lib.hid (HJ.out.step hb)
  clear HC
  clear hb
  clear k0 k1 a0 a1 a2 a3 a4 a5
  obtain ⟨k0, k1⟩ := cells_two HBx.out
  obtain ⟨a0, a1, a2, a3, a4, a5⟩ := cells_six HAx.out
  have HC := Lib.hid (rBest_any _ _ m l1 w15 HM.out HSm.out HI.out HL6.out.2)
  rw [HRs.out.2.2.1, HRs.out.2.2.2] at HC
  go_wp2_with fail
  (with_reducible refine HC.out.mono ?_)
  rintro e w16 ⟨rfl, hb⟩
  replace HB := Lib.hid (HB.out.trans (hb.mono HB.out.size))
  replace HT := Lib.hid (HT.out.step hb)
  replace HM := Lib.hid (HM.out.step hb)
  replace HBx := Lib.hid ((hb.block _ (Array.getElem?_eq_some_iff.1 HBx.out).1).trans HBx.out)
  replace HAx := Lib.hid ((hb.block _ (Array.getElem?_eq_some_iff.1 HAx.out).1).trans HAx.out)
  replace HI := Lib.hid (HI.out.step hb)
  replace HJ := Lib.hid (HJ.out.step hb)
  clear HC
  clear hb
  clear k0 k1 a0 a1 a2 a3 a4 a5
  obtain ⟨k0, k1⟩ := cells_two HBx.out
  obtain ⟨a0, a1, a2, a3, a4, a5⟩ := cells_six HAx.out
  have q4 : (we == we) = true := by simp
  have q5 : (wc == wc) = true := by simp
  have q6 : (xe == xe) = true := by simp
  have q7 : (xc == xc) = true := by simp
  go_wp2_with fail
  refine bodyPost_ret (v := .bool true) (by simp [results, Tryd.results4, go_sem]) rfl ?_
  exact And.intro rfl HB.out
end Go.Proofs.YthfegbcbpeedbaaDoor
