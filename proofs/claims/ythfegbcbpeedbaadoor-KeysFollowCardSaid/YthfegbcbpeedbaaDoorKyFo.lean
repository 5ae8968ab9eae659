/- KeysFollow: the law. -/
import Derived.Test.YthfegbcbpeedbaaDoorKyUo
import Derived.Test.YthfegbcbpeedbaaDoorKyRt
import Derived.Test.YthfegbcbpeedbaaDoorKyRf
import Derived.Test.YthfegbcbpeedbaaDoorKyAs
import Derived.Test.YthfegbcbpeedbaaDoorKySh
namespace Go.Proofs.YthfegbcbpeedbaaDoor
open Go.RowKit Go.Nm Go.Ky

set_option maxRecDepth 100000 in
set_option maxHeartbeats 16000000 in
theorem KeysFollow_any (v kv u : Value) (m : Mx) (k : Kx) (l1 l2 l3 : List Int) (a b c : Int) (w : World) (hv : MxV w v m) (hk : KyV w kv k) (hu : AskV w u l1 l2 l3 a b c) (hT : TabH w) :
    Calls Tryd.prog 5 #[v, kv, u] w fun e w' => e = .returned (.bool true) ∧ Below w.heap.size w w' := by
  obtain ⟨A1, c1, A2, c2, W0, rfl, hW0, hb0, hM, hS, hR, hX⟩ := mx_box hv
  have hz : W0.heap.size = w.heap.size + 1 := by rw [← hW0]; simp
  have hn0 : W0.heap[w.heap.size]? = some (.cells #[.slice A1 m.st.length c1, .slice A2 m.rows.length c2] 25) := by rw [← hW0]; exact World.alloc_heap_new w _
  obtain ⟨D1, e1, D2, e2, W1, rfl, hW1, hb1, hKy, hNd, hLv, hX1⟩ := ky_box (hk.step hb0)
  have hz1 : W1.heap.size = W0.heap.size + 1 := by rw [← hW1]; simp
  have hn1 : W1.heap[W0.heap.size]? = some (.cells #[.slice D1 k.nd.length e1, .slice D2 k.lv.length e2] 53) := by rw [← hW1]; exact World.alloc_heap_new W0 _
  have hb01 := hb0.trans (hb1.mono hb0.size)
  obtain ⟨B1, d1, B2, d2, B3, d3, W2, rfl, hW2, hb2, hI1, hI2, hI3, hn2⟩ := ask_box (hu.step hb01)
  rw [hz1, hz] at hn2
  rw [hz] at hn1
  have HW := Lib.hid (And.intro hW0 (And.intro hW1 hW2))
  have HB := Lib.hid (hb01.trans (hb2.mono hb01.size))
  have HT := Lib.hid (((hT.step hb0).step hb1).step hb2)
  have HM := Lib.hid (hM W2 (hb1.trans (hb2.mono hb1.size)))
  have HKy := Lib.hid (hKy W2 hb2)
  have HBx := Lib.hid ((hb2.block _ (by omega)).trans ((hb1.block _ (by omega)).trans hn0))
  have HKx := Lib.hid ((hb2.block _ (by omega)).trans hn1)
  have HAx := Lib.hid hn2
  have HI := Lib.hid hI1
  have HK := Lib.hid hI3
  obtain ⟨ns, hns⟩ : ∃ n, m.st.length = n := ⟨_, rfl⟩
  obtain ⟨nr, hnr⟩ : ∃ n, m.rows.length = n := ⟨_, rfl⟩
  obtain ⟨nn, hnn⟩ : ∃ n, k.nd.length = n := ⟨_, rfl⟩
  obtain ⟨nl, hnl⟩ : ∃ n, k.lv.length = n := ⟨_, rfl⟩
  rw [hns, hnr] at HW HM HBx
  rw [hnn, hnl] at HW HKy HKx
  obtain ⟨n1, hn1'⟩ : ∃ n, l1.length = n := ⟨_, rfl⟩
  obtain ⟨n2, hn2'⟩ : ∃ n, l2.length = n := ⟨_, rfl⟩
  obtain ⟨n3, hn3'⟩ : ∃ n, l3.length = n := ⟨_, rfl⟩
  rw [hn1', hn2', hn3'] at HW HAx
  rw [hn1'] at HI
  rw [hn3'] at HK
  rw [hns, hnr, hnn, hnl, hn1', hn2', hn3']
  have HNs := Lib.hid (And.intro hns hnr)
  have HNk := Lib.hid (And.intro hnn hnl)
  have HN1 := Lib.hid hn1'
  have HN2 := Lib.hid hn2'
  have HN3 := Lib.hid hn3'
  obtain ⟨k0, k1⟩ := cells_two HBx.out
  obtain ⟨j0, j1⟩ := cells_two HKx.out
  obtain ⟨a0, a1, a2, a3, a4, a5⟩ := cells_six HAx.out
  clear hv hk hT hW0 hb0 hM hS hR hX hz hn0 hW1 hb1 hKy hNd hLv hX1 hz1 hn1 hb01 hns hnr hnn hnl hu hW2 hb2 hI1 hI2 hI3 hn2 hn1' hn2' hn3'
  go_enter Tryd.func5, Tryd.ntmps5
  go_wp2_with fail
  rw [HW.out.1, HW.out.2.1, HW.out.2.2]
  (try go_wp2_with fail)
  (with_reducible refine (awake_any _ HT.out).mono ?_)
  rintro e w1 ⟨rfl, hb⟩
  replace HB := Lib.hid (HB.out.trans (hb.mono HB.out.size))
  replace HT := Lib.hid (HT.out.step hb)
  replace HM := Lib.hid (HM.out.step hb)
  replace HKy := Lib.hid (HKy.out.step hb)
  replace HBx := Lib.hid ((hb.block _ (Array.getElem?_eq_some_iff.1 HBx.out).1).trans HBx.out)
  replace HKx := Lib.hid ((hb.block _ (Array.getElem?_eq_some_iff.1 HKx.out).1).trans HKx.out)
  replace HAx := Lib.hid ((hb.block _ (Array.getElem?_eq_some_iff.1 HAx.out).1).trans HAx.out)
  replace HI := Lib.hid (HI.out.step hb)
  replace HK := Lib.hid (HK.out.step hb)
  clear hb
  clear k0 k1 j0 j1 a0 a1 a2 a3 a4 a5
  obtain ⟨k0, k1⟩ := cells_two HBx.out
  obtain ⟨j0, j1⟩ := cells_two HKx.out
  obtain ⟨a0, a1, a2, a3, a4, a5⟩ := cells_six HAx.out
  have HFw := Lib.hid (few_any _ m w1 HM.out)
  cases hfw : fewF m with
  | false =>
    rw [hfw] at HFw
    clear hfw
    go_wp2_with fail
    (with_reducible refine HFw.out.mono ?_)
    rintro e w2 ⟨rfl, hb⟩
    replace HB := Lib.hid (HB.out.trans (hb.mono HB.out.size))
    clear hb
    go_wp2_with fail
    go_ret
    exact ⟨rfl, HB.out⟩
  | true =>
  rw [hfw] at HFw
  have HSm := Lib.hid (few_sm hfw)
  have HFe := Lib.hid hfw
  clear hfw
  go_wp2_with fail
  (with_reducible refine HFw.out.mono ?_)
  rintro e w3 ⟨rfl, hb⟩
  replace HB := Lib.hid (HB.out.trans (hb.mono HB.out.size))
  replace HT := Lib.hid (HT.out.step hb)
  replace HM := Lib.hid (HM.out.step hb)
  replace HKy := Lib.hid (HKy.out.step hb)
  replace HBx := Lib.hid ((hb.block _ (Array.getElem?_eq_some_iff.1 HBx.out).1).trans HBx.out)
  replace HKx := Lib.hid ((hb.block _ (Array.getElem?_eq_some_iff.1 HKx.out).1).trans HKx.out)
  replace HAx := Lib.hid ((hb.block _ (Array.getElem?_eq_some_iff.1 HAx.out).1).trans HAx.out)
  replace HI := Lib.hid (HI.out.step hb)
  replace HK := Lib.hid (HK.out.step hb)
  clear HFw
  clear hb
  clear k0 k1 j0 j1 a0 a1 a2 a3 a4 a5
  obtain ⟨k0, k1⟩ := cells_two HBx.out
  obtain ⟨j0, j1⟩ := cells_two HKx.out
  obtain ⟨a0, a1, a2, a3, a4, a5⟩ := cells_six HAx.out
  have HSh := Lib.hid (short_any _ k w3 HKy.out)
  cases hsh : shortF k with
  | false =>
    rw [hsh] at HSh
    clear hsh
    go_wp2_with fail
    (with_reducible refine HSh.out.mono ?_)
    rintro e w4 ⟨rfl, hb⟩
    replace HB := Lib.hid (HB.out.trans (hb.mono HB.out.size))
    clear hb
    go_wp2_with fail
    go_ret
    exact ⟨rfl, HB.out⟩
  | true =>
  rw [hsh] at HSh
  have HKm := Lib.hid (short_sm hsh)
  have HShe := Lib.hid hsh
  clear hsh
  go_wp2_with fail
  (with_reducible refine HSh.out.mono ?_)
  rintro e w5 ⟨rfl, hb⟩
  replace HB := Lib.hid (HB.out.trans (hb.mono HB.out.size))
  replace HT := Lib.hid (HT.out.step hb)
  replace HM := Lib.hid (HM.out.step hb)
  replace HKy := Lib.hid (HKy.out.step hb)
  replace HBx := Lib.hid ((hb.block _ (Array.getElem?_eq_some_iff.1 HBx.out).1).trans HBx.out)
  replace HKx := Lib.hid ((hb.block _ (Array.getElem?_eq_some_iff.1 HKx.out).1).trans HKx.out)
  replace HAx := Lib.hid ((hb.block _ (Array.getElem?_eq_some_iff.1 HAx.out).1).trans HAx.out)
  replace HI := Lib.hid (HI.out.step hb)
  replace HK := Lib.hid (HK.out.step hb)
  clear HSh
  clear hb
  clear k0 k1 j0 j1 a0 a1 a2 a3 a4 a5
  obtain ⟨k0, k1⟩ := cells_two HBx.out
  obtain ⟨j0, j1⟩ := cells_two HKx.out
  obtain ⟨a0, a1, a2, a3, a4, a5⟩ := cells_six HAx.out
  have HLi := Lib.hid (light_any B1 B2 B3 n1 n2 n3 d1 d2 d3 a b c w5)
  cases hli : decide (n1 ≤ 100 ∧ n2 ≤ 100 ∧ n3 ≤ 100) with
  | false =>
    rw [hli] at HLi
    clear hli
    go_wp2_with fail
    (with_reducible refine HLi.out.mono ?_)
    rintro e w6 ⟨rfl, hb⟩
    replace HB := Lib.hid (HB.out.trans (hb.mono HB.out.size))
    clear hb
    go_wp2_with fail
    go_ret
    exact ⟨rfl, HB.out⟩
  | true =>
  rw [hli] at HLi
  have hl1 := of_decide_eq_true hli
  have HLen := Lib.hid (show l1.length ≤ 100 ∧ l2.length ≤ 100 ∧ l3.length ≤ 100 from by rw [HN1.out, HN2.out, HN3.out]; exact hl1)
  clear hli hl1
  go_wp2_with fail
  (with_reducible refine HLi.out.mono ?_)
  rintro e w7 ⟨rfl, hb⟩
  replace HB := Lib.hid (HB.out.trans (hb.mono HB.out.size))
  replace HT := Lib.hid (HT.out.step hb)
  replace HM := Lib.hid (HM.out.step hb)
  replace HKy := Lib.hid (HKy.out.step hb)
  replace HBx := Lib.hid ((hb.block _ (Array.getElem?_eq_some_iff.1 HBx.out).1).trans HBx.out)
  replace HKx := Lib.hid ((hb.block _ (Array.getElem?_eq_some_iff.1 HKx.out).1).trans HKx.out)
  replace HAx := Lib.hid ((hb.block _ (Array.getElem?_eq_some_iff.1 HAx.out).1).trans HAx.out)
  replace HI := Lib.hid (HI.out.step hb)
  replace HK := Lib.hid (HK.out.step hb)
  clear HLi
  clear hb
  clear k0 k1 j0 j1 a0 a1 a2 a3 a4 a5
  obtain ⟨k0, k1⟩ := cells_two HBx.out
  obtain ⟨j0, j1⟩ := cells_two HKx.out
  obtain ⟨a0, a1, a2, a3, a4, a5⟩ := cells_six HAx.out
  obtain ⟨fe, hfe⟩ : ∃ x, followE m k l1 = x := ⟨_, rfl⟩
  obtain ⟨fl, hfl⟩ : ∃ x, followL m k l1 = x := ⟨_, rfl⟩
  obtain ⟨te, hte⟩ : ∃ x, traceE m k l3 = x := ⟨_, rfl⟩
  obtain ⟨tl, htl⟩ : ∃ x, traceL m k l3 = x := ⟨_, rfl⟩
  obtain ⟨ce, hce⟩ : ∃ x, ckE m k = x := ⟨_, rfl⟩
  have HRs := Lib.hid (And.intro hfe (And.intro hfl (And.intro hte (And.intro htl hce))))
  have HLs := Lib.hid (show fl.length ≤ 1000000 ∧ tl.length ≤ 1000000 from by
    have h1 := follow_len (m := m) (l := l1) HKm.out
    have h2 := trace_len (m := m) (l := l3) HKm.out
    rw [hfl] at h1; rw [htl] at h2
    exact ⟨by omega, by omega⟩)
  have HL5 := Lib.hid (show l1.length ≤ 1000 ∧ l3.length ≤ 1000 from ⟨by have := HLen.out; omega, by have := HLen.out; omega⟩)
  clear hfe hfl hte htl hce
  have HC := Lib.hid (Follow_any _ _ _ m k l1 w7 HM.out HSm.out HKy.out HKm.out HI.out HL5.out.1 HT.out)
  rw [HRs.out.1, HRs.out.2.1] at HC
  go_wp2_with fail
  (with_reducible refine HC.out.mono ?_)
  rintro e w8 ⟨⟨u1, rfl, hf⟩, hb⟩
  replace HB := Lib.hid (HB.out.trans (hb.mono HB.out.size))
  replace HT := Lib.hid (HT.out.step hb)
  replace HM := Lib.hid (HM.out.step hb)
  replace HKy := Lib.hid (HKy.out.step hb)
  replace HBx := Lib.hid ((hb.block _ (Array.getElem?_eq_some_iff.1 HBx.out).1).trans HBx.out)
  replace HKx := Lib.hid ((hb.block _ (Array.getElem?_eq_some_iff.1 HKx.out).1).trans HKx.out)
  replace HAx := Lib.hid ((hb.block _ (Array.getElem?_eq_some_iff.1 HAx.out).1).trans HAx.out)
  replace HI := Lib.hid (HI.out.step hb)
  replace HK := Lib.hid (HK.out.step hb)
  have H1 := Lib.hid hf.1
  clear hf HC
  clear hb
  clear k0 k1 j0 j1 a0 a1 a2 a3 a4 a5
  obtain ⟨k0, k1⟩ := cells_two HBx.out
  obtain ⟨j0, j1⟩ := cells_two HKx.out
  obtain ⟨a0, a1, a2, a3, a4, a5⟩ := cells_six HAx.out
  have HC := Lib.hid (rFollow_any _ _ _ m k l1 w8 HM.out HSm.out HKy.out HKm.out HI.out HL5.out.1)
  rw [HRs.out.1, HRs.out.2.1] at HC
  go_wp2_with fail
  (with_reducible refine HC.out.mono ?_)
  rintro e w9 ⟨⟨u2, rfl, hf⟩, hb⟩
  replace HB := Lib.hid (HB.out.trans (hb.mono HB.out.size))
  replace HT := Lib.hid (HT.out.step hb)
  replace HM := Lib.hid (HM.out.step hb)
  replace HKy := Lib.hid (HKy.out.step hb)
  replace HBx := Lib.hid ((hb.block _ (Array.getElem?_eq_some_iff.1 HBx.out).1).trans HBx.out)
  replace HKx := Lib.hid ((hb.block _ (Array.getElem?_eq_some_iff.1 HKx.out).1).trans HKx.out)
  replace HAx := Lib.hid ((hb.block _ (Array.getElem?_eq_some_iff.1 HAx.out).1).trans HAx.out)
  replace HI := Lib.hid (HI.out.step hb)
  replace HK := Lib.hid (HK.out.step hb)
  replace H1 := Lib.hid (H1.out.step hb)
  have H2 := Lib.hid hf.1
  clear hf HC
  clear hb
  clear k0 k1 j0 j1 a0 a1 a2 a3 a4 a5
  obtain ⟨k0, k1⟩ := cells_two HBx.out
  obtain ⟨j0, j1⟩ := cells_two HKx.out
  obtain ⟨a0, a1, a2, a3, a4, a5⟩ := cells_six HAx.out
  have HC := Lib.hid (Trace_any _ _ _ m k l3 w9 HM.out HSm.out HKy.out HKm.out HK.out HL5.out.2)
  rw [HRs.out.2.2.1, HRs.out.2.2.2.1] at HC
  go_wp2_with fail
  (with_reducible refine HC.out.mono ?_)
  rintro e w10 ⟨⟨u3, rfl, hf⟩, hb⟩
  replace HB := Lib.hid (HB.out.trans (hb.mono HB.out.size))
  replace HT := Lib.hid (HT.out.step hb)
  replace HM := Lib.hid (HM.out.step hb)
  replace HKy := Lib.hid (HKy.out.step hb)
  replace HBx := Lib.hid ((hb.block _ (Array.getElem?_eq_some_iff.1 HBx.out).1).trans HBx.out)
  replace HKx := Lib.hid ((hb.block _ (Array.getElem?_eq_some_iff.1 HKx.out).1).trans HKx.out)
  replace HAx := Lib.hid ((hb.block _ (Array.getElem?_eq_some_iff.1 HAx.out).1).trans HAx.out)
  replace HI := Lib.hid (HI.out.step hb)
  replace HK := Lib.hid (HK.out.step hb)
  replace H1 := Lib.hid (H1.out.step hb)
  replace H2 := Lib.hid (H2.out.step hb)
  have H3 := Lib.hid hf.1
  clear hf HC
  clear hb
  clear k0 k1 j0 j1 a0 a1 a2 a3 a4 a5
  obtain ⟨k0, k1⟩ := cells_two HBx.out
  obtain ⟨j0, j1⟩ := cells_two HKx.out
  obtain ⟨a0, a1, a2, a3, a4, a5⟩ := cells_six HAx.out
  have HC := Lib.hid (rTrace_any _ _ _ m k l3 w10 HM.out HSm.out HKy.out HKm.out HK.out)
  rw [HRs.out.2.2.1, HRs.out.2.2.2.1] at HC
  go_wp2_with fail
  (with_reducible refine HC.out.mono ?_)
  rintro e w11 ⟨⟨u4, rfl, hf⟩, hb⟩
  replace HB := Lib.hid (HB.out.trans (hb.mono HB.out.size))
  replace HT := Lib.hid (HT.out.step hb)
  replace HM := Lib.hid (HM.out.step hb)
  replace HKy := Lib.hid (HKy.out.step hb)
  replace HBx := Lib.hid ((hb.block _ (Array.getElem?_eq_some_iff.1 HBx.out).1).trans HBx.out)
  replace HKx := Lib.hid ((hb.block _ (Array.getElem?_eq_some_iff.1 HKx.out).1).trans HKx.out)
  replace HAx := Lib.hid ((hb.block _ (Array.getElem?_eq_some_iff.1 HAx.out).1).trans HAx.out)
  replace HI := Lib.hid (HI.out.step hb)
  replace HK := Lib.hid (HK.out.step hb)
  replace H1 := Lib.hid (H1.out.step hb)
  replace H2 := Lib.hid (H2.out.step hb)
  replace H3 := Lib.hid (H3.out.step hb)
  have H4 := Lib.hid hf.1
  clear hf HC
  clear hb
  clear k0 k1 j0 j1 a0 a1 a2 a3 a4 a5
  obtain ⟨k0, k1⟩ := cells_two HBx.out
  obtain ⟨j0, j1⟩ := cells_two HKx.out
  obtain ⟨a0, a1, a2, a3, a4, a5⟩ := cells_six HAx.out
  go_wp2_with fail
  clear k0 k1 j0 j1 a0 a1 a2 a3 a4 a5
  have HZ := Lib.hid (fun z : Wb w11 => z.h)
  have ss := fun z : Wb w11 => And.intro (cells_two ((z.h.block _ (Array.getElem?_eq_some_iff.1 HBx.out).1).trans HBx.out)) (cells_two ((z.h.block _ (Array.getElem?_eq_some_iff.1 HKx.out).1).trans HKx.out))
  have hc1 := fun z : Wb w11 => CheckKey_any _ _ m k z.v (HM.out.step z.h) HSm.out (HKy.out.step z.h) HKm.out
  have hc2 := fun z : Wb w11 => rCheckKey_any _ _ m k z.v (HM.out.step z.h) HSm.out (HKy.out.step z.h) HKm.out
  rw [HRs.out.2.2.2.2] at hc1 hc2
  have HC1 := Lib.hid hc1
  have HC2 := Lib.hid hc2
  have hs1 := fun z : Wb w11 => SameInts_any u1 u2 fl fl z.v (H1.out.step z.h) (H2.out.step z.h) HLs.out.1 HLs.out.1
  have hs2 := fun z : Wb w11 => SameInts_any u3 u4 tl tl z.v (H3.out.step z.h) (H4.out.step z.h) HLs.out.2 HLs.out.2
  rw [show decide (fl = fl) = true from by simp] at hs1
  rw [show decide (tl = tl) = true from by simp] at hs2
  have HS1 := Lib.hid hs1
  have HS2 := Lib.hid hs2
  have q1 : (ce == ce) = true := by simp
  have q2 : (fe == fe) = true := by simp
  have q3 : (te == te) = true := by simp
  clear hc1 hc2 hs1 hs2
  refine wp_region_wb (by kernel_rfl) (by kernel_rfl) ?_; (repeat ((with_reducible refine wpQuiet_step ?_); intro K hK; go_simp; (try (refine ite_neg_of (by simp [undef]) ?_)); first | (with_reducible refine hK _ ?_; clear hK K) | (apply Exists.intro; (with_reducible refine ⟨fun _ => ?_, hK _ ?_⟩); ((first | (go_at_call 45; exact Calls.wb (HC1.out _)) | (go_at_call 46; exact Calls.wb (HC2.out _)) | (go_at_call 25; first | (with_reducible exact Calls.wb (HS1.out _)) | (with_reducible exact Calls.wb (HS2.out _))))); clear hK K))); (with_reducible refine wpQuiet_nil ?_); rintro w1 ⟨⟨_, hb1⟩, rfl⟩; (try dsimp only)
  clear HC1 HC2 HS1 HS2 ss HZ
  replace HB := Lib.hid (HB.out.trans (hb1.mono HB.out.size))
  clear hb1
  go_wp2_with fail
  refine bodyPost_ret (v := .bool true) (by simp [results, Tryd.results5, go_sem]) rfl ?_
  exact And.intro rfl HB.out
end Go.Proofs.YthfegbcbpeedbaaDoor
