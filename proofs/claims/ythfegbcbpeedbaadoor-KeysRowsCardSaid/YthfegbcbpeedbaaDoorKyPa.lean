/- KeysRows. -/
import Derived.Test.YthfegbcbpeedbaaDoorKyOz
namespace Go.Proofs.YthfegbcbpeedbaaDoor
open Go.RowKit Go.Nm Go.Ky

def AskV (w : World) (u : Value) (l1 l2 l3 : List Int) (a b c : Int) : Prop := ∃ v1 v2 v3, u = .agg #[v1, v2, v3, .int .i64 a, .int .i64 b, .int .i64 c] ∧ InSl w w.heap.size v1 l1 ∧ InSl w w.heap.size v2 l2 ∧ InSl w w.heap.size v3 l3
theorem AskV.step {w w' : World} {u : Value} {l1 l2 l3 : List Int} {a b c : Int} (h : AskV w u l1 l2 l3 a b c) (hb : Below w.heap.size w w') : AskV w' u l1 l2 l3 a b c := by
  obtain ⟨v1, v2, v3, e, h1, h2, h3⟩ := h
  exact ⟨v1, v2, v3, e, h1.step hb, h2.step hb, h3.step hb⟩
theorem ask_box {w : World} {u : Value} {l1 l2 l3 : List Int} {a b c : Int} (hu : AskV w u l1 l2 l3 a b c) : ∃ (B1 : Option Addr) (d1 : Nat) (B2 : Option Addr) (d2 : Nat) (B3 : Option Addr) (d3 : Nat) (W0 : World), u = .agg #[.slice B1 l1.length d1, .slice B2 l2.length d2, .slice B3 l3.length d3, .int .i64 a, .int .i64 b, .int .i64 c] ∧
    w.alloc (.cells #[.slice B1 l1.length d1, .slice B2 l2.length d2, .slice B3 l3.length d3, .int .i64 a, .int .i64 b, .int .i64 c] 27) = W0 ∧ Below w.heap.size w W0 ∧
    InSl W0 W0.heap.size (.slice B1 l1.length d1) l1 ∧ InSl W0 W0.heap.size (.slice B2 l2.length d2) l2 ∧ InSl W0 W0.heap.size (.slice B3 l3.length d3) l3 ∧ W0.heap[w.heap.size]? = some (.cells #[.slice B1 l1.length d1, .slice B2 l2.length d2, .slice B3 l3.length d3, .int .i64 a, .int .i64 b, .int .i64 c] 27) := by
  obtain ⟨v1, v2, v3, rfl, h1, h2, h3⟩ := hu
  obtain ⟨B1, d1, rfl, _⟩ := h1.form
  obtain ⟨B2, d2, rfl, _⟩ := h2.form
  obtain ⟨B3, d3, rfl, _⟩ := h3.form
  have hb := below_new (w := w) (.cells #[.slice B1 l1.length d1, .slice B2 l2.length d2, .slice B3 l3.length d3, .int .i64 a, .int .i64 b, .int .i64 c] 27)
  exact ⟨B1, d1, B2, d2, B3, d3, _, rfl, rfl, hb, h1.step hb, h2.step hb, h3.step hb, World.alloc_heap_new w _⟩
theorem cells_six {w : World} {g : Nat} {v0 v1 v2 v3 v4 v5 : Value} {t : TypeId} (h : w.heap[g]? = some (.cells #[v0, v1, v2, v3, v4, v5] t)) : w.cell? ⟨g, 0, none⟩ = some v0 ∧ w.cell? ⟨g, 1, none⟩ = some v1 ∧ w.cell? ⟨g, 2, none⟩ = some v2 ∧ w.cell? ⟨g, 3, none⟩ = some v3 ∧ w.cell? ⟨g, 4, none⟩ = some v4 ∧ w.cell? ⟨g, 5, none⟩ = some v5 := by
  simp [World.cell?, h]
theorem few_sm {m : Mx} (h : fewF m = true) : MSm m := by
  unfold fewF at h
  rw [Bool.and_eq_true, Bool.not_eq_true', decide_eq_false_iff_not] at h
  exact ⟨by omega, by omega, fun r hr => by have := of_decide_eq_true ((List.all_eq_true.1 h.2) r hr); omega⟩
set_option maxRecDepth 100000 in
set_option maxHeartbeats 16000000 in
theorem KeysRows_any (v u : Value) (m : Mx) (l1 l2 l3 : List Int) (a b c : Int) (w : World) (hv : MxV w v m) (hu : AskV w u l1 l2 l3 a b c) (hT : TabH w) :
    Calls Tryd.prog 3 #[v, u] w fun e w' => e = .returned (.bool true) ∧ Below w.heap.size w w' := by
  obtain ⟨A1, c1, A2, c2, W0, rfl, hW0, hb0, hM, hS, hR, hX⟩ := mx_box hv
  have hz : W0.heap.size = w.heap.size + 1 := by rw [← hW0]; simp
  have hn0 : W0.heap[w.heap.size]? = some (.cells #[.slice A1 m.st.length c1, .slice A2 m.rows.length c2] 25) := by rw [← hW0]; exact World.alloc_heap_new w _
  obtain ⟨B1, d1, B2, d2, B3, d3, W1, rfl, hW1, hb1, hI1, hI2, hI3, hn1⟩ := ask_box (hu.step hb0)
  rw [hz] at hn1
  have HW := Lib.hid (And.intro hW0 hW1)
  have HB := Lib.hid (hb0.trans (hb1.mono hb0.size))
  have HT := Lib.hid ((hT.step hb0).step hb1)
  have HM := Lib.hid (hM W1 hb1)
  have HBx := Lib.hid ((hb1.block _ (by omega)).trans hn0)
  have HAx := Lib.hid hn1
  have HI := Lib.hid hI1
  have HNl := Lib.hid (show l1.length = l1.length from rfl)
  obtain ⟨ns, hns⟩ : ∃ n, m.st.length = n := ⟨_, rfl⟩
  obtain ⟨nr, hnr⟩ : ∃ n, m.rows.length = n := ⟨_, rfl⟩
  obtain ⟨n1, hn1'⟩ : ∃ n, l1.length = n := ⟨_, rfl⟩
  generalize l2.length = n2 at *
  generalize l3.length = n3 at *
  rw [hns, hnr] at HW HM HBx
  rw [hn1'] at HW HAx HI
  rw [hns, hnr, hn1']
  have HN1 := Lib.hid hn1'
  obtain ⟨k0, k1⟩ := cells_two HBx.out
  obtain ⟨a0, a1, a2, a3, a4, a5⟩ := cells_six HAx.out
  clear hv hu hT hW0 hb0 hM hS hR hX hz hn0 hW1 hb1 hI1 hI2 hI3 hn1 hns hnr hn1' HNl
  go_enter Tryd.func3, Tryd.ntmps3
  go_wp2_with fail
  rw [HW.out.1, HW.out.2]
  (try go_wp2_with fail)
  (with_reducible refine (awake_any _ HT.out).mono ?_)
  rintro e w1 ⟨rfl, hb⟩
  replace HB := Lib.hid (HB.out.trans (hb.mono HB.out.size))
  replace HT := Lib.hid (HT.out.step hb)
  replace HM := Lib.hid (HM.out.step hb)
  replace HBx := Lib.hid ((hb.block _ (Array.getElem?_eq_some_iff.1 HBx.out).1).trans HBx.out)
  replace HAx := Lib.hid ((hb.block _ (Array.getElem?_eq_some_iff.1 HAx.out).1).trans HAx.out)
  replace HI := Lib.hid (HI.out.step hb)
  clear hb
  clear k0 k1 a0 a1 a2 a3 a4 a5
  obtain ⟨k0, k1⟩ := cells_two HBx.out
  obtain ⟨a0, a1, a2, a3, a4, a5⟩ := cells_six HAx.out
  have HFw := Lib.hid (few_any _ m w1 HM.out)
  cases hfw : fewF m with
  | false =>
    rw [hfw] at HFw
    clear hfw
    go_wp2_with fail
    (with_reducible refine HFw.out.mono ?_)
    rintro e w2 ⟨rfl, hb⟩
    replace HB := Lib.hid (HB.out.trans (hb.mono HB.out.size))
    clear hb
    go_wp2_with fail
    go_ret
    exact ⟨rfl, HB.out⟩
  | true =>
  rw [hfw] at HFw
  have HSm := Lib.hid (few_sm hfw)
  clear hfw
  go_wp2_with fail
  (with_reducible refine HFw.out.mono ?_)
  rintro e w2 ⟨rfl, hb⟩
  replace HB := Lib.hid (HB.out.trans (hb.mono HB.out.size))
  replace HT := Lib.hid (HT.out.step hb)
  replace HM := Lib.hid (HM.out.step hb)
  replace HBx := Lib.hid ((hb.block _ (Array.getElem?_eq_some_iff.1 HBx.out).1).trans HBx.out)
  replace HAx := Lib.hid ((hb.block _ (Array.getElem?_eq_some_iff.1 HAx.out).1).trans HAx.out)
  replace HI := Lib.hid (HI.out.step hb)
  clear hb
  clear k0 k1 a0 a1 a2 a3 a4 a5
  obtain ⟨k0, k1⟩ := cells_two HBx.out
  obtain ⟨a0, a1, a2, a3, a4, a5⟩ := cells_six HAx.out
  have HLi := Lib.hid (light_any B1 B2 B3 n1 n2 n3 d1 d2 d3 a b c w2)
  cases hli : decide (n1 ≤ 100 ∧ n2 ≤ 100 ∧ n3 ≤ 100) with
  | false =>
    rw [hli] at HLi
    clear hli
    go_wp2_with fail
    (with_reducible refine HLi.out.mono ?_)
    rintro e w3 ⟨rfl, hb⟩
    replace HB := Lib.hid (HB.out.trans (hb.mono HB.out.size))
    clear hb
    go_wp2_with fail
    go_ret
    exact ⟨rfl, HB.out⟩
  | true =>
  rw [hli] at HLi
  have hl1 : n1 ≤ 100 := (of_decide_eq_true hli).1
  have HLen := Lib.hid (show l1.length ≤ 100 from by rw [HN1.out]; exact hl1)
  clear hli hl1 HFw
  go_wp2_with fail
  (with_reducible refine HLi.out.mono ?_)
  rintro e w3 ⟨rfl, hb⟩
  replace HB := Lib.hid (HB.out.trans (hb.mono HB.out.size))
  replace HT := Lib.hid (HT.out.step hb)
  replace HM := Lib.hid (HM.out.step hb)
  replace HBx := Lib.hid ((hb.block _ (Array.getElem?_eq_some_iff.1 HBx.out).1).trans HBx.out)
  replace HAx := Lib.hid ((hb.block _ (Array.getElem?_eq_some_iff.1 HAx.out).1).trans HAx.out)
  replace HI := Lib.hid (HI.out.step hb)
  clear hb
  clear k0 k1 a0 a1 a2 a3 a4 a5
  obtain ⟨k0, k1⟩ := cells_two HBx.out
  obtain ⟨a0, a1, a2, a3, a4, a5⟩ := cells_six HAx.out
  clear HLi
  obtain ⟨ce, hce⟩ : ∃ x, cmE m = x := ⟨_, rfl⟩
  have HCe := Lib.hid hce
  have HC := Lib.hid (Open_any _ m w3 HM.out HSm.out)
  rw [hce] at HC
  clear hce
  go_wp2_with fail
  (with_reducible refine HC.out.mono ?_)
  rintro e w4 ⟨⟨u1, rfl, h1, _⟩, hb⟩
  replace HB := Lib.hid (HB.out.trans (hb.mono HB.out.size))
  replace HT := Lib.hid (HT.out.step hb)
  replace HM := Lib.hid (HM.out.step hb)
  replace HBx := Lib.hid ((hb.block _ (Array.getElem?_eq_some_iff.1 HBx.out).1).trans HBx.out)
  replace HAx := Lib.hid ((hb.block _ (Array.getElem?_eq_some_iff.1 HAx.out).1).trans HAx.out)
  replace HI := Lib.hid (HI.out.step hb)
  have H1 := Lib.hid h1
  clear h1 HC
  clear hb
  clear k0 k1 a0 a1 a2 a3 a4 a5
  obtain ⟨k0, k1⟩ := cells_two HBx.out
  obtain ⟨a0, a1, a2, a3, a4, a5⟩ := cells_six HAx.out
  have HC := Lib.hid (rOpen_any _ m w4 HM.out HSm.out)
  rw [HCe.out] at HC
  go_wp2_with fail
  (with_reducible refine HC.out.mono ?_)
  rintro e w5 ⟨⟨u2, rfl, h2, _⟩, hb⟩
  replace HB := Lib.hid (HB.out.trans (hb.mono HB.out.size))
  replace HT := Lib.hid (HT.out.step hb)
  replace HM := Lib.hid (HM.out.step hb)
  replace HBx := Lib.hid ((hb.block _ (Array.getElem?_eq_some_iff.1 HBx.out).1).trans HBx.out)
  replace HAx := Lib.hid ((hb.block _ (Array.getElem?_eq_some_iff.1 HAx.out).1).trans HAx.out)
  replace HI := Lib.hid (HI.out.step hb)
  replace H1 := Lib.hid (H1.out.step hb)
  have H2 := Lib.hid h2
  clear h2 HC
  clear hb
  clear k0 k1 a0 a1 a2 a3 a4 a5
  obtain ⟨k0, k1⟩ := cells_two HBx.out
  obtain ⟨a0, a1, a2, a3, a4, a5⟩ := cells_six HAx.out
  obtain ⟨rn, hrn⟩ : ∃ x, (rowF m a).nm = x := ⟨_, rfl⟩
  obtain ⟨re, hre⟩ : ∃ x, rowE m a = x := ⟨_, rfl⟩
  obtain ⟨rl, hrl⟩ : ∃ x, (rowF m a).may = x := ⟨_, rfl⟩
  have HRs := Lib.hid (And.intro hrn (And.intro hre hrl))
  have HC := Lib.hid (Row_any _ m a w5 HM.out HSm.out)
  rw [hrn, hre, hrl] at HC
  clear hrn hre hrl
  go_wp2_with fail
  (with_reducible refine HC.out.mono ?_)
  rintro e w6 ⟨⟨rv, rfl, hf⟩, hb⟩
  replace HB := Lib.hid (HB.out.trans (hb.mono HB.out.size))
  replace HT := Lib.hid (HT.out.step hb)
  replace HM := Lib.hid (HM.out.step hb)
  replace HBx := Lib.hid ((hb.block _ (Array.getElem?_eq_some_iff.1 HBx.out).1).trans HBx.out)
  replace HAx := Lib.hid ((hb.block _ (Array.getElem?_eq_some_iff.1 HAx.out).1).trans HAx.out)
  replace HI := Lib.hid (HI.out.step hb)
  replace H1 := Lib.hid (H1.out.step hb)
  replace H2 := Lib.hid (H2.out.step hb)
  have hf := hf.1
  obtain ⟨R1, e1, rfl, _⟩ := hf.form
  have HR1 := Lib.hid hf
  clear hf hb HC
  have hb := below_new (w := w6) (.cells #[.int .i64 rn, .slice R1 rl.length e1] 35)
  have hn := World.alloc_heap_new w6 (.cells #[.int .i64 rn, .slice R1 rl.length e1] 35)
  obtain ⟨w7, hX⟩ : ∃ Z, w6.alloc (.cells #[.int .i64 rn, .slice R1 rl.length e1] 35) = Z := ⟨_, rfl⟩
  rw [hX] at hb hn
  have HX := Lib.hid hX
  have HQ1 := Lib.hid hn
  replace HB := Lib.hid (HB.out.trans (hb.mono HB.out.size))
  replace HT := Lib.hid (HT.out.step hb)
  replace HM := Lib.hid (HM.out.step hb)
  replace HBx := Lib.hid ((hb.block _ (Array.getElem?_eq_some_iff.1 HBx.out).1).trans HBx.out)
  replace HAx := Lib.hid ((hb.block _ (Array.getElem?_eq_some_iff.1 HAx.out).1).trans HAx.out)
  replace HI := Lib.hid (HI.out.step hb)
  replace H1 := Lib.hid (H1.out.step hb)
  replace H2 := Lib.hid (H2.out.step hb)
  replace HR1 := Lib.hid (HR1.out.step hb)
  clear hb hn hX
  clear k0 k1 a0 a1 a2 a3 a4 a5
  obtain ⟨k0, k1⟩ := cells_two HBx.out
  obtain ⟨a0, a1, a2, a3, a4, a5⟩ := cells_six HAx.out
  rw [← HX.out] at k0 k1 a0 a1 a2 a3 a4 a5
  go_wp2_with fail
  rw [HX.out]
  clear HX
  clear k0 k1 a0 a1 a2 a3 a4 a5
  obtain ⟨k0, k1⟩ := cells_two HBx.out
  obtain ⟨a0, a1, a2, a3, a4, a5⟩ := cells_six HAx.out
  have HC := Lib.hid (rRow_any _ m a w7 HM.out HSm.out)
  rw [HRs.out.1, HRs.out.2.1, HRs.out.2.2] at HC
  (with_reducible refine HC.out.mono ?_)
  rintro e w8 ⟨⟨rv, rfl, hf⟩, hb⟩
  replace HB := Lib.hid (HB.out.trans (hb.mono HB.out.size))
  replace HT := Lib.hid (HT.out.step hb)
  replace HM := Lib.hid (HM.out.step hb)
  replace HBx := Lib.hid ((hb.block _ (Array.getElem?_eq_some_iff.1 HBx.out).1).trans HBx.out)
  replace HAx := Lib.hid ((hb.block _ (Array.getElem?_eq_some_iff.1 HAx.out).1).trans HAx.out)
  replace HI := Lib.hid (HI.out.step hb)
  replace H1 := Lib.hid (H1.out.step hb)
  replace H2 := Lib.hid (H2.out.step hb)
  replace HR1 := Lib.hid (HR1.out.step hb)
  replace HQ1 := Lib.hid ((hb.block _ (Array.getElem?_eq_some_iff.1 HQ1.out).1).trans HQ1.out)
  have hf := hf.1
  obtain ⟨R2, e2, rfl, _⟩ := hf.form
  have HR2 := Lib.hid hf
  clear hf hb HC
  have hb := below_new (w := w8) (.cells #[.int .i64 rn, .slice R2 rl.length e2] 35)
  have hn := World.alloc_heap_new w8 (.cells #[.int .i64 rn, .slice R2 rl.length e2] 35)
  obtain ⟨w9, hX⟩ : ∃ Z, w8.alloc (.cells #[.int .i64 rn, .slice R2 rl.length e2] 35) = Z := ⟨_, rfl⟩
  rw [hX] at hb hn
  have HX := Lib.hid hX
  have HQ2 := Lib.hid hn
  replace HB := Lib.hid (HB.out.trans (hb.mono HB.out.size))
  replace HT := Lib.hid (HT.out.step hb)
  replace HM := Lib.hid (HM.out.step hb)
  replace HBx := Lib.hid ((hb.block _ (Array.getElem?_eq_some_iff.1 HBx.out).1).trans HBx.out)
  replace HAx := Lib.hid ((hb.block _ (Array.getElem?_eq_some_iff.1 HAx.out).1).trans HAx.out)
  replace HI := Lib.hid (HI.out.step hb)
  replace H1 := Lib.hid (H1.out.step hb)
  replace H2 := Lib.hid (H2.out.step hb)
  replace HR1 := Lib.hid (HR1.out.step hb)
  replace HQ1 := Lib.hid ((hb.block _ (Array.getElem?_eq_some_iff.1 HQ1.out).1).trans HQ1.out)
  replace HR2 := Lib.hid (HR2.out.step hb)
  clear hb hn hX
  clear k0 k1 a0 a1 a2 a3 a4 a5
  obtain ⟨k0, k1⟩ := cells_two HBx.out
  obtain ⟨a0, a1, a2, a3, a4, a5⟩ := cells_six HAx.out
  rw [← HX.out] at k0 k1 a0 a1 a2 a3 a4 a5
  go_wp2_with fail
  rw [HX.out]
  clear HX
  clear k0 k1 a0 a1 a2 a3 a4 a5
  have HZ := Lib.hid (fun z : Wb w9 => z.h)
  have ss := fun z : Wb w9 => And.intro (cells_two ((z.h.block _ (Array.getElem?_eq_some_iff.1 HBx.out).1).trans HBx.out)) (And.intro (cells_six ((z.h.block _ (Array.getElem?_eq_some_iff.1 HAx.out).1).trans HAx.out)) (And.intro (cells_two ((z.h.block _ (Array.getElem?_eq_some_iff.1 HQ1.out).1).trans HQ1.out)) (cells_two ((z.h.block _ (Array.getElem?_eq_some_iff.1 HQ2.out).1).trans HQ2.out))))
  have hc1 := fun z : Wb w9 => CheckMatrix_any _ m z.v (HM.out.step z.h) HSm.out
  have hc2 := fun z : Wb w9 => rCheckMatrix_any _ m z.v (HM.out.step z.h) HSm.out
  rw [HCe.out] at hc1 hc2
  have HC1 := Lib.hid hc1
  have HC2 := Lib.hid hc2
  have HC3 := Lib.hid (fun z : Wb w9 => ValidSeen_any _ _ m l1 z.v (HM.out.step z.h) HSm.out (HI.out.step z.h) (by have := HLen.out; omega))
  have HC4 := Lib.hid (fun z : Wb w9 => rValidSeen_any _ _ m l1 z.v (HM.out.step z.h) HSm.out (HI.out.step z.h) (by have := HLen.out; omega))
  obtain ⟨vs, hvs⟩ : ∃ x, decide (seenE m [l1] = 0) = x := ⟨_, rfl⟩
  rw [hvs] at HC3 HC4
  have hol : (openF m).length ≤ 1000000 := by
    unfold openF
    split
    · have := HSm.out.1; simp; omega
    · simp
  have hrl : rl.length ≤ 1000000 := by
    rw [← HRs.out.2.2]
    unfold rowF
    split
    · cases hro : rowO m a with
      | none => simp
      | some r => have := HSm.out.2.2 r (List.mem_of_find?_eq_some hro); simp; omega
    · simp
  have hs1 := fun z : Wb w9 => SameInts_any u1 u2 (openF m) (openF m) z.v (H1.out.step z.h) (H2.out.step z.h) hol hol
  have hs2 := fun z : Wb w9 => SameInts_any (.slice R1 rl.length e1) (.slice R2 rl.length e2) rl rl z.v (HR1.out.step z.h) (HR2.out.step z.h) hrl hrl
  rw [show decide (openF m = openF m) = true from by simp] at hs1
  rw [show decide (rl = rl) = true from by simp] at hs2
  have HS1 := Lib.hid hs1
  have HS2 := Lib.hid hs2
  have q1 : (ce != ce) = false := by simp
  have q2 : (vs != vs) = false := by simp
  have q3 : (rn != rn) = false := by simp
  have q4 : (re != re) = false := by simp
  have q5 : (vs == vs) = true := by simp
  clear hc1 hc2 hs1 hs2 hol hrl hvs
  generalize rl.length = nrl at *
  refine wp_region_wb (by kernel_rfl) (by kernel_rfl) ?_; (repeat ((with_reducible refine wpQuiet_step ?_); intro K hK; go_simp; (try (refine ite_neg_of (by simp [undef]) ?_)); first | (with_reducible refine hK _ ?_; clear hK K) | (apply Exists.intro; (with_reducible refine ⟨fun _ => ?_, hK _ ?_⟩); ((first | (go_at_call 21; exact Calls.wb (HC1.out _)) | (go_at_call 22; exact Calls.wb (HC2.out _)) | (go_at_call 23; exact Calls.wb (HC3.out _)) | (go_at_call 24; exact Calls.wb (HC4.out _)) | (go_at_call 25; first | (with_reducible exact Calls.wb (HS1.out _)) | (with_reducible exact Calls.wb (HS2.out _))))); clear hK K))); (with_reducible refine wpQuiet_nil ?_); rintro w1 ⟨⟨_, hb1⟩, rfl⟩; (try dsimp only)
  clear HC1 HC2 HC3 HC4 HS1 HS2 ss HZ
  replace HB := Lib.hid (HB.out.trans (hb1.mono HB.out.size))
  replace HT := Lib.hid (HT.out.step hb1)
  replace HM := Lib.hid (HM.out.step hb1)
  replace HBx := Lib.hid ((hb1.block _ (Array.getElem?_eq_some_iff.1 HBx.out).1).trans HBx.out)
  replace HAx := Lib.hid ((hb1.block _ (Array.getElem?_eq_some_iff.1 HAx.out).1).trans HAx.out)
  replace HI := Lib.hid (HI.out.step hb1)
  replace H1 := Lib.hid (H1.out.step hb1)
  replace H2 := Lib.hid (H2.out.step hb1)
  replace HR1 := Lib.hid (HR1.out.step hb1)
  replace HQ1 := Lib.hid ((hb1.block _ (Array.getElem?_eq_some_iff.1 HQ1.out).1).trans HQ1.out)
  replace HR2 := Lib.hid (HR2.out.step hb1)
  replace HQ2 := Lib.hid ((hb1.block _ (Array.getElem?_eq_some_iff.1 HQ2.out).1).trans HQ2.out)
  clear hb1 H1 H2 HR1 HR2 HQ1 HQ2
  obtain ⟨k0, k1⟩ := cells_two HBx.out
  obtain ⟨a0, a1, a2, a3, a4, a5⟩ := cells_six HAx.out
  obtain ⟨fb, hfb⟩ : ∃ x, fitB m a l1 = x := ⟨_, rfl⟩
  obtain ⟨fe, hfe⟩ : ∃ x, fitE m a l1 = x := ⟨_, rfl⟩
  obtain ⟨se, hse⟩ : ∃ x, seenE m [l1] = x := ⟨_, rfl⟩
  have HRs := Lib.hid (And.intro hfb (And.intro hfe hse))
  have hl6 : l1.length ≤ 1000000 := by have := HLen.out; omega
  have HL6 := Lib.hid hl6
  have HC := Lib.hid (Fits_any _ _ m a l1 w1 HM.out HSm.out HI.out HL6.out)
  rw [hfb, hfe] at HC
  clear hfb hfe hse hl6
  go_wp2_with fail
  (with_reducible refine HC.out.mono ?_)
  rintro e wa ⟨rfl, hb⟩
  replace HB := Lib.hid (HB.out.trans (hb.mono HB.out.size))
  replace HT := Lib.hid (HT.out.step hb)
  replace HM := Lib.hid (HM.out.step hb)
  replace HBx := Lib.hid ((hb.block _ (Array.getElem?_eq_some_iff.1 HBx.out).1).trans HBx.out)
  replace HAx := Lib.hid ((hb.block _ (Array.getElem?_eq_some_iff.1 HAx.out).1).trans HAx.out)
  replace HI := Lib.hid (HI.out.step hb)
  clear HC
  clear hb
  clear k0 k1 a0 a1 a2 a3 a4 a5
  obtain ⟨k0, k1⟩ := cells_two HBx.out
  obtain ⟨a0, a1, a2, a3, a4, a5⟩ := cells_six HAx.out
  have HC := Lib.hid (rFits_any _ _ m a l1 wa HM.out HSm.out HI.out HL6.out)
  rw [HRs.out.1, HRs.out.2.1] at HC
  go_wp2_with fail
  (with_reducible refine HC.out.mono ?_)
  rintro e wb ⟨rfl, hb⟩
  replace HB := Lib.hid (HB.out.trans (hb.mono HB.out.size))
  replace HT := Lib.hid (HT.out.step hb)
  replace HM := Lib.hid (HM.out.step hb)
  replace HBx := Lib.hid ((hb.block _ (Array.getElem?_eq_some_iff.1 HBx.out).1).trans HBx.out)
  replace HAx := Lib.hid ((hb.block _ (Array.getElem?_eq_some_iff.1 HAx.out).1).trans HAx.out)
  replace HI := Lib.hid (HI.out.step hb)
  clear HC
  clear hb
  clear k0 k1 a0 a1 a2 a3 a4 a5
  obtain ⟨k0, k1⟩ := cells_two HBx.out
  obtain ⟨a0, a1, a2, a3, a4, a5⟩ := cells_six HAx.out
  have HC := Lib.hid (Remain_any _ _ m l1 wb HM.out HSm.out HI.out HL6.out)
  rw [HRs.out.2.2] at HC
  go_wp2_with fail
  (with_reducible refine HC.out.mono ?_)
  rintro e wc ⟨⟨r1, rfl, h1, _⟩, hb⟩
  replace HB := Lib.hid (HB.out.trans (hb.mono HB.out.size))
  replace HT := Lib.hid (HT.out.step hb)
  replace HM := Lib.hid (HM.out.step hb)
  replace HBx := Lib.hid ((hb.block _ (Array.getElem?_eq_some_iff.1 HBx.out).1).trans HBx.out)
  replace HAx := Lib.hid ((hb.block _ (Array.getElem?_eq_some_iff.1 HAx.out).1).trans HAx.out)
  replace HI := Lib.hid (HI.out.step hb)
  have H1 := Lib.hid h1
  clear h1 HC
  clear hb
  clear k0 k1 a0 a1 a2 a3 a4 a5
  obtain ⟨k0, k1⟩ := cells_two HBx.out
  obtain ⟨a0, a1, a2, a3, a4, a5⟩ := cells_six HAx.out
  have HC := Lib.hid (rRemain_any _ _ m l1 wc HM.out HSm.out HI.out HL6.out)
  rw [HRs.out.2.2] at HC
  go_wp2_with fail
  (with_reducible refine HC.out.mono ?_)
  rintro e wd ⟨⟨r2, rfl, h2, _⟩, hb⟩
  replace HB := Lib.hid (HB.out.trans (hb.mono HB.out.size))
  replace HT := Lib.hid (HT.out.step hb)
  replace HM := Lib.hid (HM.out.step hb)
  replace HBx := Lib.hid ((hb.block _ (Array.getElem?_eq_some_iff.1 HBx.out).1).trans HBx.out)
  replace HAx := Lib.hid ((hb.block _ (Array.getElem?_eq_some_iff.1 HAx.out).1).trans HAx.out)
  replace HI := Lib.hid (HI.out.step hb)
  replace H1 := Lib.hid (H1.out.step hb)
  have H2 := Lib.hid h2
  clear h2 HC
  clear hb
  clear k0 k1 a0 a1 a2 a3 a4 a5
  obtain ⟨k0, k1⟩ := cells_two HBx.out
  obtain ⟨a0, a1, a2, a3, a4, a5⟩ := cells_six HAx.out
  have hol : (remO m l1).length ≤ 1000000 := by
    unfold remO
    split
    · have h1 := HSm.out.2.1
      have h2 : (remL m.rows l1).length ≤ m.rows.length := List.length_filter_le _ _
      simp; omega
    · simp
  have HS := Lib.hid (SameInts_any r1 r2 (remO m l1) (remO m l1) wd H1.out H2.out hol hol)
  rw [show decide (remO m l1 = remO m l1) = true from by simp] at HS
  have q6 : (fb == fb) = true := by simp
  have q7 : (fe == fe) = true := by simp
  have q8 : (se == se) = true := by simp
  clear hol
  go_wp2_with fail
  (with_reducible refine HS.out.mono ?_)
  rintro e we ⟨rfl, hb⟩
  replace HB := Lib.hid (HB.out.trans (hb.mono HB.out.size))
  clear hb
  go_wp2_with fail
  refine bodyPost_ret (v := .bool true) (by simp [results, Tryd.results3, go_sem]) rfl ?_
  exact And.intro rfl HB.out
end Go.Proofs.YthfegbcbpeedbaaDoor
