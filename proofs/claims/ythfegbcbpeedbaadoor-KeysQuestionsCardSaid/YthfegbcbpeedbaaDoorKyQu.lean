/- KeysQuestions: the law. -/
import Derived.Test.YthfegbcbpeedbaaDoorKyAs
import Derived.Test.YthfegbcbpeedbaaDoorKyQm
import Derived.Test.YthfegbcbpeedbaaDoorKyRg
import Derived.Test.YthfegbcbpeedbaaDoorKyFi
namespace Go.Ky
open Go.Nm
theorem wv_ex (n x : Nat) (A : Nat → Int) (W : Int) (hx : ∃ t, t < n ∧ x / 2 ^ t % 2 = 1 ∧ A t = W) : ∃ Wv : Nat → Bool, Wv 0 = false ∧ Wv n = true ∧ (∀ t, x / 2 ^ t % 2 = 0 → Wv (t + 1) = Wv t) ∧ (∀ t, Wv t = true → Wv (t + 1) = true) ∧ (∀ t, x / 2 ^ t % 2 = 1 → A t = W → Wv (t + 1) = true) ∧ ∀ t, ¬ A t = W → Wv (t + 1) = Wv t := by
  refine ⟨fun i => (List.range i).any fun t => decide (x / 2 ^ t % 2 = 1) && decide (A t = W), rfl, ?_, fun t h => ?_, fun t h => ?_, fun t h1 h2 => ?_, fun t h => ?_⟩
  · obtain ⟨t, h1, h2, h3⟩ := hx
    exact List.any_eq_true.2 ⟨t, List.mem_range.2 h1, by simp [h2, h3]⟩
  all_goals (show (List.range (t + 1)).any _ = _; rw [List.range_succ, List.any_append])
  · simp [h]
  · have h' : ((List.range t).any fun t => decide (x / 2 ^ t % 2 = 1) && decide (A t = W)) = true := h
    rw [h']; rfl
  · simp [h1, h2]
  · simp [h]
/-- what the best character is, of what was seen -/
theorem best_facts {m : Mx} {l : List Int} (h : seenE m [l] = 0) : (bestE m l = 3 ∧ ∀ i, i < l.length → ∃ x : Nat, l[i]? = some (x : Int) ∧ 0 < x ∧ x < 65536 ∧ x &&& (x - 1) = 0) ∨
    (bestE m l = 0 ∧ ∃ c x : Nat, bestC m l = (c : Int) ∧ c < l.length ∧ l[c]? = some (x : Int) ∧ 0 < x ∧ x < 65536 ∧ x &&& (x - 1) ≠ 0 ∧ worstE m l (c : Int) = 0 ∧
      ∀ (i y : Nat), l[i]? = some (y : Int) → 0 < y → y < 65536 → y &&& (y - 1) ≠ 0 → worstC m l (c : Int) ≤ worstF (remL m.rows l) i (l.getD i 0) ∧ (worstF (remL m.rows l) i (l.getD i 0) = worstC m l (c : Int) → c ≤ i)) := by
  obtain ⟨hm, hl⟩ := seen_ok h
  have hlen := sets_len' hl
  have hB := best_all (remL m.rows l) l (fun c => !decZ (l.getD c 0)) l.length
  have at_ : ∀ i, i < l.length → ∃ x : Nat, l[i]? = some (x : Int) ∧ 0 < x ∧ x < 65536 ∧ l.getD i 0 = (x : Int) := fun i hi => by
    have hx : l[i]? = some l[i] := List.getElem?_eq_getElem hi
    have h1 := sets_range hm hl hx
    refine ⟨(l[i]).toNat, by rw [hx]; congr 1; omega, by omega, by omega, ?_⟩
    rw [List.getD_eq_getElem?_getD, hx]
    show l[i] = _
    omega
  cases hs : (bestS (remL m.rows l) l (fun c => !decZ (l.getD c 0)) l.length).2.1 with
  | false =>
    refine .inl ⟨by unfold bestE; rw [if_pos h, if_neg (by rw [hs]; simp)], fun i hi => ?_⟩
    obtain ⟨x, hx, h0, h1, hg⟩ := at_ i hi
    have h2 := hB.1 hs i hi
    rw [hg, dec_and h0 h1] at h2
    exact ⟨x, hx, h0, h1, by simpa using h2⟩
  | true =>
    obtain ⟨c, hc, e1, e2, e3, e4⟩ := hB.2 hs
    obtain ⟨x, hx, h0, h1, hg⟩ := at_ c hc
    have hE : bestE m l = 0 := by unfold bestE; rw [if_pos h, if_pos hs]
    have hW : worstE m l (c : Int) = 0 := by unfold worstE; rw [if_pos h, if_pos (by omega)]
    have hC : worstC m l (c : Int) = (bestS (remL m.rows l) l (fun c => !decZ (l.getD c 0)) l.length).2.2 := by
      unfold worstC
      rw [if_pos hW, e3]
      rfl
    refine .inr ⟨hE, c, x, by unfold bestC; rw [if_pos hE, e1], hc, hx, h0, h1, ?_, hW, fun i y hy hy0 hy1 hyn => ?_⟩
    · rw [hg, dec_and h0 h1] at e2
      simpa using e2
    · rw [hC]
      have hi : i < l.length := (List.getElem?_eq_some_iff.1 hy).1
      have hgy : l.getD i 0 = (y : Int) := by rw [List.getD_eq_getElem?_getD, hy]; rfl
      exact e4 i hi (by rw [hgy, dec_and hy0 hy1]; simpa using hyn)
end Go.Ky
namespace Go.Proofs.YthfegbcbpeedbaaDoor
open Go.Ky Go.Nm
theorem MxV.st {w : World} {A1 : Option Addr} {n c : Nat} {v2 : Value} {m : Mx} (h : MxV w (.agg #[.slice A1 n c, v2]) m) : InSl w w.heap.size (.slice A1 n c) m.st := by
  obtain ⟨v1, v3, e, h1, _⟩ := h
  injection e with e
  simp only [Array.mk.injEq, List.cons.injEq, and_true] at e
  rw [e.1]
  exact h1
theorem and_pred {x : Nat} (h0 : 0 < x) (h : x < 65536) : IntKind.i64.wrap ((x : Int) - 1) = ((x - 1 : Nat) : Int) ∧ bits BinOp.and IntKind.i64 (x : Int) ((x - 1 : Nat) : Int) = ((x &&& (x - 1) : Nat) : Int) :=
  ⟨by rw [IntKind.wrap_i64]; omega, and_i64 (by omega) (by omega)⟩
end Go.Proofs.YthfegbcbpeedbaaDoor
namespace Go.Proofs.YthfegbcbpeedbaaDoor
open Go.RowKit Go.Nm Go.Ky

set_option maxRecDepth 100000 in
set_option maxHeartbeats 16000000 in
theorem KeysQuestions_any (v u : Value) (m : Mx) (l1 l2 l3 : List Int) (a b c : Int) (w : World) (hv : MxV w v m) (hu : AskV w u l1 l2 l3 a b c) (hT : TabH w) :
    Calls Tryd.prog 9 #[v, u] w fun e w' => e = .returned (.bool true) ∧ Below w.heap.size w w' := by
  obtain ⟨A1, c1, A2, c2, W0, rfl, hW0, hb0, hM, hS, hR, hX⟩ := mx_box hv
  have hz : W0.heap.size = w.heap.size + 1 := by rw [← hW0]; simp
  have hn0 : W0.heap[w.heap.size]? = some (.cells #[.slice A1 m.st.length c1, .slice A2 m.rows.length c2] 25) := by rw [← hW0]; exact World.alloc_heap_new w _
  obtain ⟨B1, d1, B2, d2, B3, d3, W1, rfl, hW1, hb1, hI1, hI2, hI3, hn1⟩ := ask_box (hu.step hb0)
  rw [hz] at hn1
  have HW := Lib.hid (And.intro hW0 hW1)
  have HB := Lib.hid (hb0.trans (hb1.mono hb0.size))
  have HT := Lib.hid ((hT.step hb0).step hb1)
  have HM := Lib.hid (hM W1 hb1)
  have HBx := Lib.hid ((hb1.block _ (by omega)).trans hn0)
  have HAx := Lib.hid hn1
  have HI := Lib.hid hI1
  obtain ⟨ns, hns⟩ : ∃ n, m.st.length = n := ⟨_, rfl⟩
  obtain ⟨nr, hnr⟩ : ∃ n, m.rows.length = n := ⟨_, rfl⟩
  obtain ⟨n1, hn1'⟩ : ∃ n, l1.length = n := ⟨_, rfl⟩
  obtain ⟨n2, hn2'⟩ : ∃ n, l2.length = n := ⟨_, rfl⟩
  obtain ⟨n3, hn3'⟩ : ∃ n, l3.length = n := ⟨_, rfl⟩
  rw [hns, hnr] at HW HM HBx
  rw [hn1', hn2', hn3'] at HW HAx
  rw [hn1'] at HI
  rw [hns, hnr, hn1', hn2', hn3']
  have HNs := Lib.hid (And.intro hns hnr)
  have HN1 := Lib.hid hn1'
  have HN2 := Lib.hid hn2'
  have HN3 := Lib.hid hn3'
  obtain ⟨k0, k1⟩ := cells_two HBx.out
  obtain ⟨a0, a1, a2, a3, a4, a5⟩ := cells_six HAx.out
  clear hv hu hT hW0 hb0 hM hS hR hX hz hn0 hW1 hb1 hI1 hI2 hI3 hn1 hns hnr hn1' hn2' hn3'
  go_enter Tryd.func9, Tryd.ntmps9
  go_wp2_with fail
  rw [HW.out.1, HW.out.2]
  (try go_wp2_with fail)
  (with_reducible refine (awake_any _ HT.out).mono ?_)
  rintro e w1 ⟨rfl, hb⟩
  replace HB := Lib.hid (HB.out.trans (hb.mono HB.out.size))
  replace HT := Lib.hid (HT.out.step hb)
  replace HM := Lib.hid (HM.out.step hb)
  replace HBx := Lib.hid ((hb.block _ (Array.getElem?_eq_some_iff.1 HBx.out).1).trans HBx.out)
  replace HAx := Lib.hid ((hb.block _ (Array.getElem?_eq_some_iff.1 HAx.out).1).trans HAx.out)
  replace HI := Lib.hid (HI.out.step hb)
  clear hb
  clear k0 k1 a0 a1 a2 a3 a4 a5
  obtain ⟨k0, k1⟩ := cells_two HBx.out
  obtain ⟨a0, a1, a2, a3, a4, a5⟩ := cells_six HAx.out
  have HFw := Lib.hid (few_any _ m w1 HM.out)
  cases hfw : fewF m with
  | false =>
    rw [hfw] at HFw
    clear hfw
    go_wp2_with fail
    (with_reducible refine HFw.out.mono ?_)
    rintro e w2 ⟨rfl, hb⟩
    replace HB := Lib.hid (HB.out.trans (hb.mono HB.out.size))
    clear hb
    go_wp2_with fail
    go_ret
    exact ⟨rfl, HB.out⟩
  | true =>
  rw [hfw] at HFw
  have HSm := Lib.hid (few_sm hfw)
  have HFe := Lib.hid hfw
  clear hfw
  go_wp2_with fail
  (with_reducible refine HFw.out.mono ?_)
  rintro e w3 ⟨rfl, hb⟩
  replace HB := Lib.hid (HB.out.trans (hb.mono HB.out.size))
  replace HT := Lib.hid (HT.out.step hb)
  replace HM := Lib.hid (HM.out.step hb)
  replace HBx := Lib.hid ((hb.block _ (Array.getElem?_eq_some_iff.1 HBx.out).1).trans HBx.out)
  replace HAx := Lib.hid ((hb.block _ (Array.getElem?_eq_some_iff.1 HAx.out).1).trans HAx.out)
  replace HI := Lib.hid (HI.out.step hb)
  clear HFw
  clear hb
  clear k0 k1 a0 a1 a2 a3 a4 a5
  obtain ⟨k0, k1⟩ := cells_two HBx.out
  obtain ⟨a0, a1, a2, a3, a4, a5⟩ := cells_six HAx.out
  have HLi := Lib.hid (light_any B1 B2 B3 n1 n2 n3 d1 d2 d3 a b c w3)
  cases hli : decide (n1 ≤ 100 ∧ n2 ≤ 100 ∧ n3 ≤ 100) with
  | false =>
    rw [hli] at HLi
    clear hli
    go_wp2_with fail
    (with_reducible refine HLi.out.mono ?_)
    rintro e w4 ⟨rfl, hb⟩
    replace HB := Lib.hid (HB.out.trans (hb.mono HB.out.size))
    clear hb
    go_wp2_with fail
    go_ret
    exact ⟨rfl, HB.out⟩
  | true =>
  rw [hli] at HLi
  have hl1 := of_decide_eq_true hli
  have HLen := Lib.hid (show l1.length ≤ 100 ∧ l2.length ≤ 100 ∧ l3.length ≤ 100 from by rw [HN1.out, HN2.out, HN3.out]; exact hl1)
  clear hli hl1
  go_wp2_with fail
  (with_reducible refine HLi.out.mono ?_)
  rintro e w5 ⟨rfl, hb⟩
  replace HB := Lib.hid (HB.out.trans (hb.mono HB.out.size))
  replace HT := Lib.hid (HT.out.step hb)
  replace HM := Lib.hid (HM.out.step hb)
  replace HBx := Lib.hid ((hb.block _ (Array.getElem?_eq_some_iff.1 HBx.out).1).trans HBx.out)
  replace HAx := Lib.hid ((hb.block _ (Array.getElem?_eq_some_iff.1 HAx.out).1).trans HAx.out)
  replace HI := Lib.hid (HI.out.step hb)
  clear HLi
  clear hb
  clear k0 k1 a0 a1 a2 a3 a4 a5
  obtain ⟨k0, k1⟩ := cells_two HBx.out
  obtain ⟨a0, a1, a2, a3, a4, a5⟩ := cells_six HAx.out
  have HCs := Lib.hid (seen_cases m [l1])
  have HL5 := Lib.hid (show l1.length ≤ 1000000 ∧ l1.length ≤ 1000 from ⟨by have := HLen.out; omega, by have := HLen.out; omega⟩)
  obtain ⟨se, hse⟩ : ∃ x, seenE m [l1] = x := ⟨_, rfl⟩
  obtain ⟨rl, hrl⟩ : ∃ x, remO m l1 = x := ⟨_, rfl⟩
  obtain ⟨we, hwe⟩ : ∃ x, worstE m l1 c = x := ⟨_, rfl⟩
  obtain ⟨wc, hwc⟩ : ∃ x, worstC m l1 c = x := ⟨_, rfl⟩
  obtain ⟨be, hbe⟩ : ∃ x, bestE m l1 = x := ⟨_, rfl⟩
  obtain ⟨bc, hbc⟩ : ∃ x, bestC m l1 = x := ⟨_, rfl⟩
  have HRs := Lib.hid (And.intro hse (And.intro hrl (And.intro hwe (And.intro hwc (And.intro hbe hbc)))))
  rw [hse] at HCs
  clear hse hrl hwe hwc hbe hbc
  have HC := Lib.hid (Remain_any _ _ m l1 w5 HM.out HSm.out HI.out HL5.out.1)
  rw [HRs.out.1, HRs.out.2.1] at HC
  go_wp2_with fail
  (with_reducible refine HC.out.mono ?_)
  rintro e w6 ⟨⟨u1, rfl, hf, _⟩, hb⟩
  replace HB := Lib.hid (HB.out.trans (hb.mono HB.out.size))
  replace HT := Lib.hid (HT.out.step hb)
  replace HM := Lib.hid (HM.out.step hb)
  replace HBx := Lib.hid ((hb.block _ (Array.getElem?_eq_some_iff.1 HBx.out).1).trans HBx.out)
  replace HAx := Lib.hid ((hb.block _ (Array.getElem?_eq_some_iff.1 HAx.out).1).trans HAx.out)
  replace HI := Lib.hid (HI.out.step hb)
  have H1 := Lib.hid hf
  clear hf HC
  clear hb
  clear k0 k1 a0 a1 a2 a3 a4 a5
  obtain ⟨k0, k1⟩ := cells_two HBx.out
  obtain ⟨a0, a1, a2, a3, a4, a5⟩ := cells_six HAx.out
  obtain ⟨S1, sc1, rfl, _⟩ := H1.out.form
  obtain ⟨rn, hrn⟩ : ∃ n, rl.length = n := ⟨_, rfl⟩
  have HRn := Lib.hid hrn
  rw [hrn] at H1 ⊢
  clear hrn
  have HC := Lib.hid (Worst_any _ _ m l1 c w6 HM.out HSm.out HI.out HL5.out.1)
  rw [HRs.out.2.2.1, HRs.out.2.2.2.1] at HC
  go_wp2_with fail
  (with_reducible refine HC.out.mono ?_)
  rintro e w7 ⟨rfl, hb⟩
  replace HB := Lib.hid (HB.out.trans (hb.mono HB.out.size))
  replace HT := Lib.hid (HT.out.step hb)
  replace HM := Lib.hid (HM.out.step hb)
  replace HBx := Lib.hid ((hb.block _ (Array.getElem?_eq_some_iff.1 HBx.out).1).trans HBx.out)
  replace HAx := Lib.hid ((hb.block _ (Array.getElem?_eq_some_iff.1 HAx.out).1).trans HAx.out)
  replace HI := Lib.hid (HI.out.step hb)
  replace H1 := Lib.hid (H1.out.step hb)
  clear HC
  clear hb
  clear k0 k1 a0 a1 a2 a3 a4 a5
  obtain ⟨k0, k1⟩ := cells_two HBx.out
  obtain ⟨a0, a1, a2, a3, a4, a5⟩ := cells_six HAx.out
  have HC := Lib.hid (Best_any _ _ m l1 w7 HM.out HSm.out HI.out HL5.out.2)
  rw [HRs.out.2.2.2.2.1, HRs.out.2.2.2.2.2] at HC
  go_wp2_with fail
  (with_reducible refine HC.out.mono ?_)
  rintro e w8 ⟨rfl, hb⟩
  replace HB := Lib.hid (HB.out.trans (hb.mono HB.out.size))
  replace HT := Lib.hid (HT.out.step hb)
  replace HM := Lib.hid (HM.out.step hb)
  replace HBx := Lib.hid ((hb.block _ (Array.getElem?_eq_some_iff.1 HBx.out).1).trans HBx.out)
  replace HAx := Lib.hid ((hb.block _ (Array.getElem?_eq_some_iff.1 HAx.out).1).trans HAx.out)
  replace HI := Lib.hid (HI.out.step hb)
  replace H1 := Lib.hid (H1.out.step hb)
  clear HC
  clear hb
  clear k0 k1 a0 a1 a2 a3 a4 a5
  obtain ⟨k0, k1⟩ := cells_two HBx.out
  obtain ⟨a0, a1, a2, a3, a4, a5⟩ := cells_six HAx.out
  rcases HCs.out with h0 | h0 | h0
  rotate_left
  · subst h0
    have hq1 : we = 30 := by rw [← HRs.out.2.2.1]; unfold worstE; rw [if_neg (by rw [HRs.out.1]; decide)]; exact HRs.out.1
    have hq2 : be = 30 := by rw [← HRs.out.2.2.2.2.1]; unfold bestE; rw [if_neg (by rw [HRs.out.1]; decide)]; exact HRs.out.1
    rw [hq1, hq2]
    clear HCs hq1 hq2
    go_wp2_with fail
    refine bodyPost_ret (v := .bool true) (by simp [results, Tryd.results9, go_sem]) rfl ?_
    exact And.intro rfl HB.out
  · subst h0
    have hq1 : we = 32 := by rw [← HRs.out.2.2.1]; unfold worstE; rw [if_neg (by rw [HRs.out.1]; decide)]; exact HRs.out.1
    have hq2 : be = 32 := by rw [← HRs.out.2.2.2.2.1]; unfold bestE; rw [if_neg (by rw [HRs.out.1]; decide)]; exact HRs.out.1
    rw [hq1, hq2]
    clear HCs hq1 hq2
    go_wp2_with fail
    refine bodyPost_ret (v := .bool true) (by simp [results, Tryd.results9, go_sem]) rfl ?_
    exact And.intro rfl HB.out
  subst h0
  clear HCs
  have HMx := Lib.hid (seen_ok HRs.out.1)
  have HBf := Lib.hid (best_facts HRs.out.1)
  rw [HRs.out.2.2.2.2.1, HRs.out.2.2.2.2.2] at HBf
  have HO := Lib.hid (show ∀ Y, Below w8.heap.size w8 Y → ((Y.cell? ⟨w.heap.size, 0, none⟩ = some (.slice A1 ns c1) ∧ Y.cell? ⟨w.heap.size, 1, none⟩ = some (.slice A2 nr c2)) ∧ Y.cell? ⟨w.heap.size + 1, 0, none⟩ = some (.slice B1 n1 d1) ∧ Y.cell? ⟨w.heap.size + 1, 5, none⟩ = some (.int .i64 c)) ∧ (MxV Y (.agg #[.slice A1 ns c1, .slice A2 nr c2]) m ∧ InSl Y Y.heap.size (.slice B1 n1 d1) l1) ∧ InSl Y Y.heap.size (.slice A1 ns c1) m.st from fun Y h => ⟨⟨cells_two ((h.block _ (Array.getElem?_eq_some_iff.1 HBx.out).1).trans HBx.out), (cells_six ((h.block _ (Array.getElem?_eq_some_iff.1 HAx.out).1).trans HAx.out)).1, (cells_six ((h.block _ (Array.getElem?_eq_some_iff.1 HAx.out).1).trans HAx.out)).2.2.2.2.2⟩, ⟨HM.out.step h, HI.out.step h⟩, (HM.out.step h).st⟩)
  have hns1 : n1 = ns := by rw [← HN1.out, ← HNs.out.1]; exact sets_len' HMx.out.2
  have HNn := Lib.hid hns1
  clear hns1
  have hn1000 : n1 ≤ 1000 := by rw [← HN1.out]; exact HL5.out.2
  clear k0 k1 a0 a1 a2 a3 a4 a5 HT HAx HBx HI HM H1
  by_cases hc : 0 ≤ c ∧ c < (ns : Int)
  · obtain ⟨cn, rfl⟩ : ∃ z : Nat, c = (z : Int) := ⟨c.toNat, by omega⟩
    have hwe : we = 0 := by rw [← HRs.out.2.2.1]; unfold worstE; rw [if_pos HRs.out.1, if_pos (by rw [HNs.out.1]; exact hc)]
    obtain ⟨q, hq⟩ : ∃ q, m.st[cn]? = some q := ⟨_, List.getElem?_eq_getElem (by rw [HNs.out.1]; omega)⟩
    obtain ⟨x, n, hx, rfl, hn16, hx0, hxn, hx6, hxg, hle, hex, hone⟩ := worst_one HMx.out.1 HMx.out.2 hq
    have hwc : wc = worstF (remL m.rows l1) cn (l1.getD cn 0) := by
      rw [← HRs.out.2.2.2.1]
      unfold worstC
      rw [if_pos (by rw [HRs.out.2.2.1]; exact hwe)]
      rfl
    have hwb := worst_bound (remL m.rows l1) cn (l1.getD cn 0)
    have hrl : (remL m.rows l1).length = rn := by
      rw [← HRn.out, ← HRs.out.2.1]
      unfold remO
      rw [if_pos HRs.out.1, List.length_map]
    rw [hrl] at hwb
    obtain ⟨W, hW⟩ : ∃ z, worstF (remL m.rows l1) cn (l1.getD cn 0) = z := ⟨_, rfl⟩
    have HWd := Lib.hid hW
    rw [hW] at hwc hwb hle hex
    obtain ⟨Wv, hv0, hvn, hvs, hvt, hvy, hvz⟩ := wv_ex n x (aloneN m l1 cn) W hex
    have HV0 := Lib.hid hv0
    have HVn := Lib.hid hvn
    have HVs := Lib.hid hvs
    have HVt := Lib.hid hvt
    have HVy := Lib.hid hvy
    have HVz := Lib.hid hvz
    have HLe := Lib.hid hle
    have HOn := Lib.hid hone
    have HXx := Lib.hid (And.intro hx (And.intro hx0 hx6))
    have HQq := Lib.hid hq
    have hw1 : ¬ (rn : Int) < W := by omega
    have hw2 : ¬ W < 0 := by omega
    subst hwe
    rw [hwc]
    obtain ⟨⟨⟨k0, k1⟩, a0, a5⟩, _, _⟩ := HO.out w8 (Below.refl _ _)
    clear hwc hwb hrl hW hv0 hvn hvs hvt hvy hvz hle hex hone hx hxg hq
    go_wp2_with fail
    clear k0 k1 a0 a5
    go_loopw [12, 13, 14, 15, 16] (fun wv sv _ _ _ wr => ∃ i : Nat, wv = .bool (Wv i) ∧ sv = .int .i64 (i : Int) ∧ i ≤ n ∧ Below w8.heap.size w8 wr) (fun _ sv _ _ _ _ => n - (intOf sv).toNat)
    case atStart => exact ⟨0, by rw [HV0.out], rfl, by omega, Below.refl _ _⟩
    case round =>
      obtain ⟨i, rfl, rfl, hin, hb⟩ := hrel
      have HBi := Lib.hid hb
      clear hb
      obtain ⟨⟨⟨k0, k1⟩, a0, a5⟩, ⟨hm1, hi1⟩, hst⟩ := HO.out wr HBi.out
      obtain ⟨ad, rfl, cq⟩ := hst.load HQq.out
      have hcn0 : ¬ (cn : Int) < 0 := by omega
      have hcns : (cn : Int) < (ns : Int) := by omega
      have hcn1 : (cn : Int) < (n1 : Int) := by have := HNn.out; omega
      have hcn2 : cn < n1 := by have := HNn.out; omega
      by_cases hlt : i < n
      · obtain ⟨bd, rfl, cx⟩ := hi1.load HXx.out.1
        have HI1 := Lib.hid hi1
        have hlts : (i : Int) < (n : Int) := by omega
        have hi0 : ¬ (i : Int) < 0 := by omega
        have hi64 : i < 64 := by omega
        obtain ⟨q, hq⟩ : ∃ q, x / 2 ^ i = q := ⟨_, rfl⟩
        have hqi : (x : Int) / 2 ^ i = (q : Int) := by rw [← hq]; simp
        rcases Nat.mod_two_eq_zero_or_one q with hr | hr
        · have HF := Lib.hid (HVs.out i (by rw [hq]; exact hr))
          have hrm : (q : Int) % 2 = 0 := by omega
          have hrt : Int.tmod (q : Int) 2 = 0 := by rw [Int.tmod_eq_emod_of_nonneg (by omega)]; exact hrm
          clear hq hr hm1 hi1 hst
          go_wp2_with fail
          go_roundw
          case rel => exact ⟨i + 1, by rw [HF.out], by go_num, by omega, HBi.out⟩
          case measure => simp [intOf]; omega
        · have hrm : (q : Int) % 2 = 1 := by omega
          have hrt : Int.tmod (q : Int) 2 = 1 := by rw [Int.tmod_eq_emod_of_nonneg (by omega)]; exact hrm
          have hbit : x / 2 ^ i % 2 = 1 := by rw [hq]; exact hr
          have HBt := Lib.hid hbit
          obtain ⟨ho1, ho2⟩ := HOn.out i hlt hbit
          have hal := HLe.out i hlt hbit
          obtain ⟨ow, how⟩ : ∃ z, remO m (l1.set cn (2 ^ i)) = z := ⟨_, rfl⟩
          obtain ⟨no, hno⟩ : ∃ z, ow.length = z := ⟨_, rfl⟩
          rw [how, hno] at ho2
          rw [← ho2] at hal
          have HAl := Lib.hid ho2
          have HRm := Lib.hid (fun v Y (h : Below w8.heap.size w8 Y) (hv : InSl Y Y.heap.size v (l1.set cn (2 ^ i))) => show Calls Tryd.prog 28 #[.agg #[.slice (some ad) ns c1, .slice A2 nr c2], v] Y fun e w' => (∃ r, e = .returned (.tuple #[r, .int .i64 0]) ∧ InSl w' w'.heap.size r ow ∧ ∀ g, r.ownBlock = some g → Y.heap.size ≤ g) ∧ Below Y.heap.size Y w' from by
            have h2 := Remain_any _ v m (l1.set cn (2 ^ i)) Y (HO.out Y h).2.1.1 HSm.out hv (by rw [List.length_set]; exact HL5.out.1)
            rw [ho1, how] at h2
            exact h2)
          have HNo := Lib.hid hno
          obtain ⟨p1, p2⟩ := pow16 (k := i) (by omega)
          have hpw : IntKind.i64.wrap ((2 : Int) ^ i) = 2 ^ i := by
            rw [show ((2 : Int) ^ i) = ((2 ^ i : Nat) : Int) from by simp, IntKind.wrap_i64]
            omega
          have HL0 := Lib.hid (OwN.lit wr)
          have HIm := Lib.hid (hi1.step HL0.out.bel)
          obtain ⟨⟨_, y0, y5⟩, _, _⟩ := HO.out _ (HBi.out.trans (HL0.out.bel.mono HBi.out.size))
          have HLe2 := Lib.hid (show ([] : List Int).length + l1.length ≤ 3000000 from by simp; have := HL5.out.1; omega)
          have hnoW : ¬ W < (no : Int) := by omega
          clear hq hr hbit hm1 hi1 hst ho1 ho2 hal how hno p1 p2
          go_wp2_with (at_builtin; refine wpList_appN rfl _ _ rfl HL0.out rfl rfl HIm.out HLe2.out ?_; intro v6 w6 hI6 _; obtain ⟨g6, c6, e6, hc1, hc2, hW6⟩ := hI6.iwc (by simp only [List.nil_append]; rw [HN1.out]; omega); rw [List.nil_append, HN1.out] at e6 hc1 hW6; subst e6; have HW6 := Lib.hid hW6; have HCp := Lib.hid (And.intro hc1 hc2); clear hI6 hc1 hc2 hW6)
          have HB6 := Lib.hid (HBi.out.trans (HW6.out.bel.mono HBi.out.size))
          obtain ⟨⟨_, b0, b5⟩, _, _⟩ := HO.out w6 HB6.out
          have HWd6 := Lib.hid (HW6.out.step (Below.refl w6.heap.size w6).drew)
          have k6 := HWd6.out.cell hcn2
          have f6 := HWd6.out.froz cn
          have h7 := (HW6.out.set cn (2 ^ i)).step (Below.refl _ _).drew
          have HB7 := Lib.hid (HBi.out.trans (h7.bel.mono HBi.out.size))
          have HL7 := Lib.hid (h7.list HN1.out hcn2 HCp.out.1 HCp.out.2)
          obtain ⟨⟨⟨e0, e1⟩, _⟩, _, _⟩ := HO.out _ HB7.out
          clear k0 k1 a0 a5 y0 y5 cx cq h7 HW6 HWd6 HIm HL0
          refine wp_region_tail 6 (by kernel_rfl) (by kernel_rfl) ?_
          simp only [List.take_succ_cons, List.take_zero, List.drop_succ_cons, List.drop_zero]
          repeat still_step
          refine wpStill_nil ?_
          go_wp2_with fail
          (with_reducible refine (HRm.out _ _ HB7.out HL7.out).mono ?_)
          rintro e w8 ⟨⟨u8, rfl, h8, _⟩, hb⟩
          obtain ⟨S8, s8, rfl, _⟩ := h8.form
          have HB8 := Lib.hid (HB7.out.trans (hb.mono HB7.out.size))
          rw [HNo.out]
          clear h8 hb b0 b5 k6 f6 e0 e1 HL7 HRm HB6 HCp
          obtain ⟨wb, hwb⟩ : ∃ z, Wv i = z := ⟨_, rfl⟩
          rw [hwb]
          have HWb := Lib.hid hwb
          clear hwb
          cases wb with
          | true =>
            have HF := Lib.hid (HVt.out i HWb.out)
            go_wp2_with fail
            go_roundw
            case rel => exact ⟨i + 1, by rw [HF.out], by go_num, by omega, HB8.out⟩
            case measure => simp [intOf]; omega
          | false =>
            by_cases he : (no : Int) = W
            · have HF := Lib.hid (HVy.out i HBt.out (by rw [← HAl.out]; exact he))
              go_wp2_with fail
              go_roundw
              case rel => exact ⟨i + 1, by rw [HF.out], by go_num, by omega, HB8.out⟩
              case measure => simp [intOf]; omega
            · have HF := Lib.hid ((HVz.out i (by rw [← HAl.out]; exact he)).trans HWb.out)
              go_wp2_with fail
              go_roundw
              case rel => exact ⟨i + 1, by rw [HF.out, show ((no : Int) == W) = false from beq_eq_false_iff_ne.2 he], by go_num, by omega, HB8.out⟩
              case measure => simp [intOf]; omega
      · obtain rfl : n = i := by omega
        rw [HVn.out]
        clear hm1 hi1 hst k1
        have HBo := Lib.hid (HB.out.trans (HBi.out.mono HB.out.size))
        rcases HBf.out with ⟨hbe, hall⟩ | ⟨hbe, ch, x2, hbc, hc2, hx2, hx20, hx21, hx2n, hwe2, hmin⟩
        · subst hbe
          have HA := Lib.hid hall
          clear hall HBf
          go_wp2_with fail
          go_loopw [17] (fun iv wr => ∃ i : Nat, iv = .int .i64 (i : Int) ∧ i ≤ n1 ∧ Below w8.heap.size w8 wr) (fun iv _ => n1 - (intOf iv).toNat)
          case atStart => exact ⟨0, rfl, by omega, HBi.out⟩
          case round =>
            obtain ⟨i, rfl, hin, hb⟩ := hrel
            have HBj := Lib.hid hb
            clear hb
            obtain ⟨⟨_, a0, _⟩, ⟨_, hi1⟩, _⟩ := HO.out wr HBj.out
            by_cases hlt : i < n1
            · obtain ⟨y, hy, hy0, hy1, hyz⟩ := HA.out i (by rw [HN1.out]; exact hlt)
              obtain ⟨hsb, hand⟩ := and_pred hy0 hy1
              rw [hyz] at hand
              obtain ⟨y', hy'⟩ : ∃ z, y - 1 = z := ⟨_, rfl⟩
              rw [hy'] at hsb hand
              have hand2 : bits BinOp.and IntKind.i64 (y : Int) (y' : Int) = 0 := hand
              obtain ⟨bd, rfl, c0⟩ := hi1.load hy
              have ss := fun p : Wb wr => And.intro (Wb.cell a0 p) (Wb.cell c0 p)
              have hlts : (i : Int) < (n1 : Int) := by omega
              have hi0 : ¬ (i : Int) < 0 := by omega
              clear hi1 hy hyz hy' hand c0
              go_wp2_with fail
              refine wp_region_wb (by kernel_rfl) (by kernel_rfl) ?_; (repeat ((with_reducible refine wpQuiet_step ?_); intro K hK; go_simp; (try (refine ite_neg_of (by simp [undef]) ?_)); first | (with_reducible refine hK _ ?_; clear hK K) | (apply Exists.intro; (with_reducible refine ⟨fun _ => ?_, hK _ ?_⟩); (fail); clear hK K))); (with_reducible refine wpQuiet_nil ?_); rintro w1 ⟨⟨_, hb1⟩, rfl⟩; (try dsimp only)
              have HBk := Lib.hid (HBj.out.trans (hb1.mono HBj.out.size))
              clear ss hb1
              go_wp2_with fail
              go_roundw
              case rel => exact ⟨i + 1, by go_num, by omega, HBk.out⟩
              case measure => simp [intOf]; omega
            · obtain rfl : n1 = i := by omega
              have HBe := Lib.hid (HB.out.trans (HBj.out.mono HB.out.size))
              clear hi1
              go_wp2_with fail
              go_ret
              exact ⟨rfl, HBe.out⟩
        · subst hbe
          subst hbc
          obtain ⟨W2, hW2⟩ : ∃ z, worstC m l1 (ch : Int) = z := ⟨_, rfl⟩
          rw [hW2] at hmin
          have HMn := Lib.hid hmin
          have HWo := Lib.hid (fun Y (h : Below w8.heap.size w8 Y) => show Calls Tryd.prog 36 #[.agg #[.slice (some ad) ns c1, .slice A2 nr c2], .slice B1 n1 d1, .int .i64 (ch : Int)] Y fun e w' => e = .returned (.tuple #[.int .i64 W2, .int .i64 0]) ∧ Below Y.heap.size Y w' from by
            have h2 := Worst_any _ _ m l1 (ch : Int) Y (HO.out Y h).2.1.1 HSm.out (HO.out Y h).2.1.2 HL5.out.1
            simp only [hwe2, hW2] at h2
            exact h2)
          have HX2 := Lib.hid hx2
          have hc2n : ch < n1 := by rw [← HN1.out]; exact hc2
          obtain ⟨⟨⟨k0, k1⟩, a0, a5⟩, _, _⟩ := HO.out wr HBi.out
          clear hmin hc2 hwe2 hW2 hx2 HBf
          go_wp2_with fail
          (with_reducible refine (HWo.out _ HBi.out).mono ?_)
          rintro e wa ⟨rfl, hb⟩
          have HBa := Lib.hid (HBi.out.trans (hb.mono HBi.out.size))
          clear hb k0 k1 a0 a5 HWo
          obtain ⟨⟨⟨k0, k1⟩, a0, a5⟩, ⟨_, hi1⟩, _⟩ := HO.out wa HBa.out
          obtain ⟨hsb, hand⟩ := and_pred hx20 hx21
          obtain ⟨x2', hx2'⟩ : ∃ z, x2 - 1 = z := ⟨_, rfl⟩
          obtain ⟨z2, hz2⟩ : ∃ z, x2 &&& (x2 - 1) = z := ⟨_, rfl⟩
          rw [hz2] at hand hx2n
          rw [hx2'] at hsb hand
          have hz2n : ¬ (z2 : Int) = 0 := by omega
          have hz2b : ((z2 : Int) == 0) = false := beq_eq_false_iff_ne.2 hz2n
          obtain ⟨bd, rfl, c0⟩ := hi1.load HX2.out
          have HO2 := Lib.hid (fun Y (h : Below w8.heap.size w8 Y) => HO.out Y h)
          have hc0 : ¬ (ch : Int) < 0 := by omega
          have hcn : (ch : Int) < (n1 : Int) := by omega
          have hcm : ¬ (n1 : Int) ≤ (ch : Int) := by omega
          have ss := fun p : Wb wa => And.intro (Wb.cell a0 p) (Wb.cell c0 p)
          clear hi1 hx2n hx2' hz2 k0 k1 a0 a5 c0
          go_wp2_with fail
          refine wp_region_wb (by kernel_rfl) (by kernel_rfl) ?_; (repeat ((with_reducible refine wpQuiet_step ?_); intro K hK; go_simp; (try (refine ite_neg_of (by simp [undef]) ?_)); first | (with_reducible refine hK _ ?_; clear hK K) | (apply Exists.intro; (with_reducible refine ⟨fun _ => ?_, hK _ ?_⟩); (fail); clear hK K))); (with_reducible refine wpQuiet_nil ?_); rintro w1 ⟨⟨_, hb1⟩, rfl⟩; (try dsimp only)
          have HBb := Lib.hid (HBa.out.trans (hb1.mono HBa.out.size))
          clear ss hb1 hsb hand
          obtain ⟨⟨⟨k0, k1⟩, a0, a5⟩, ⟨_, hi1⟩, _⟩ := HO.out w1 HBb.out
          obtain ⟨hsb, hand⟩ := and_pred HXx.out.2.1 HXx.out.2.2
          obtain ⟨x', hx'⟩ : ∃ z, x - 1 = z := ⟨_, rfl⟩
          obtain ⟨z, hz⟩ : ∃ z, x &&& (x - 1) = z := ⟨_, rfl⟩
          have hMi := fun h : ¬ z = 0 => HMn.out cn x HXx.out.1 HXx.out.2.1 HXx.out.2.2 (by rw [hz]; exact h)
          simp only [HWd.out] at hMi
          have HMi := Lib.hid hMi
          clear hMi
          rw [hz] at hand
          rw [hx'] at hsb hand
          obtain ⟨bd2, e2, c0⟩ := hi1.load HXx.out.1
          cases e2
          have hcc0 : ¬ (cn : Int) < 0 := by omega
          have hccn : (cn : Int) < (n1 : Int) := by have := HNn.out; omega
          have ss := fun p : Wb w1 => And.intro (And.intro (Wb.cell a0 p) (Wb.cell a5 p)) (Wb.cell c0 p)
          clear hi1 hx' hz k0 k1 a0 a5 c0
          by_cases hz0 : z = 0
          · have hz1 : (z : Int) = 0 := by omega
            subst hz0
            have hand2 : bits BinOp.and IntKind.i64 (x : Int) (x' : Int) = 0 := hand
            clear hand hz1
            go_wp2_with fail
            refine wp_region_wb (by kernel_rfl) (by kernel_rfl) ?_; (repeat ((with_reducible refine wpQuiet_step ?_); intro K hK; go_simp; (try (refine ite_neg_of (by simp [undef]) ?_)); first | (with_reducible refine hK _ ?_; clear hK K) | (apply Exists.intro; (with_reducible refine ⟨fun _ => ?_, hK _ ?_⟩); (fail); clear hK K))); (with_reducible refine wpQuiet_nil ?_); rintro w1 ⟨⟨_, hb1⟩, rfl⟩; (try dsimp only)
            have HBc := Lib.hid (HB.out.trans ((HBb.out.trans (hb1.mono HBb.out.size)).mono HB.out.size))
            clear ss hb1
            go_wp2_with fail
            refine bodyPost_ret (v := .bool true) (by simp [results, Tryd.results9, go_sem]) rfl ?_
            exact And.intro rfl HBc.out
          · have hz1 : ¬ (z : Int) = 0 := by omega
            have hzb : ((z : Int) == 0) = false := beq_eq_false_iff_ne.2 hz1
            obtain ⟨hm1, hm2⟩ := HMi.out hz0
            have hm3 : ¬ W < W2 := by omega
            by_cases hg : W2 < W
            · clear hm2
              go_wp2_with fail
              refine wp_region_wb (by kernel_rfl) (by kernel_rfl) ?_; (repeat ((with_reducible refine wpQuiet_step ?_); intro K hK; go_simp; (try (refine ite_neg_of (by simp [undef]) ?_)); first | (with_reducible refine hK _ ?_; clear hK K) | (apply Exists.intro; (with_reducible refine ⟨fun _ => ?_, hK _ ?_⟩); (fail); clear hK K))); (with_reducible refine wpQuiet_nil ?_); rintro w1 ⟨⟨_, hb1⟩, rfl⟩; (try dsimp only)
              have HBc := Lib.hid (HB.out.trans ((HBb.out.trans (hb1.mono HBb.out.size)).mono HB.out.size))
              obtain ⟨⟨⟨k0, k1⟩, a0, a5⟩, _, _⟩ := HO.out w1 (HBb.out.trans (hb1.mono HBb.out.size))
              clear ss hb1
              go_wp2_with fail
              refine bodyPost_ret (v := .bool true) (by simp [results, Tryd.results9, go_sem]) rfl ?_
              exact And.intro rfl HBc.out
            · have hle : (ch : Int) ≤ (cn : Int) := by have := hm2 (by omega); omega
              clear hm2
              go_wp2_with fail
              refine wp_region_wb (by kernel_rfl) (by kernel_rfl) ?_; (repeat ((with_reducible refine wpQuiet_step ?_); intro K hK; go_simp; (try (refine ite_neg_of (by simp [undef]) ?_)); first | (with_reducible refine hK _ ?_; clear hK K) | (apply Exists.intro; (with_reducible refine ⟨fun _ => ?_, hK _ ?_⟩); (fail); clear hK K))); (with_reducible refine wpQuiet_nil ?_); rintro w1 ⟨⟨_, hb1⟩, rfl⟩; (try dsimp only)
              have HBc := Lib.hid (HB.out.trans ((HBb.out.trans (hb1.mono HBb.out.size)).mono HB.out.size))
              obtain ⟨⟨⟨k0, k1⟩, a0, a5⟩, _, _⟩ := HO.out w1 (HBb.out.trans (hb1.mono HBb.out.size))
              clear ss hb1
              go_wp2_with fail
              refine bodyPost_ret (v := .bool true) (by simp [results, Tryd.results9, go_sem]) rfl ?_
              exact And.intro rfl HBc.out
  · have hwe : we = 1 := by rw [← HRs.out.2.2.1]; unfold worstE; rw [if_pos HRs.out.1, if_neg (by rw [HNs.out.1]; exact hc)]
    subst hwe
    obtain ⟨⟨⟨k0, k1⟩, a0, a5⟩, _, _⟩ := HO.out w8 (Below.refl _ _)
    go_wp2_with fail
    clear k0 k1 a0 a5
    go_loopw [13] (fun sv wr => sv = .int .i64 0 ∧ Below w8.heap.size w8 wr) (fun _ _ => 0)
    case atStart => exact ⟨rfl, Below.refl _ _⟩
    case round =>
      obtain ⟨rfl, hb⟩ := hrel
      have HBi := Lib.hid hb
      clear hb
      have HBo := Lib.hid (HB.out.trans (HBi.out.mono HB.out.size))
      rcases HBf.out with ⟨hbe, hall⟩ | ⟨hbe, ch, x2, hbc, hc2, hx2, hx20, hx21, hx2n, hwe2, hmin⟩
      · subst hbe
        have HA := Lib.hid hall
        clear hall HBf
        go_wp2_with fail
        go_loopw [17] (fun iv wr => ∃ i : Nat, iv = .int .i64 (i : Int) ∧ i ≤ n1 ∧ Below w8.heap.size w8 wr) (fun iv _ => n1 - (intOf iv).toNat)
        case atStart => exact ⟨0, rfl, by omega, HBi.out⟩
        case round =>
          obtain ⟨i, rfl, hin, hb⟩ := hrel
          have HBj := Lib.hid hb
          clear hb
          obtain ⟨⟨_, a0, _⟩, ⟨_, hi1⟩, _⟩ := HO.out wr HBj.out
          by_cases hlt : i < n1
          · obtain ⟨y, hy, hy0, hy1, hyz⟩ := HA.out i (by rw [HN1.out]; exact hlt)
            obtain ⟨hsb, hand⟩ := and_pred hy0 hy1
            rw [hyz] at hand
            obtain ⟨y', hy'⟩ : ∃ z, y - 1 = z := ⟨_, rfl⟩
            rw [hy'] at hsb hand
            have hand2 : bits BinOp.and IntKind.i64 (y : Int) (y' : Int) = 0 := hand
            obtain ⟨bd, rfl, c0⟩ := hi1.load hy
            have ss := fun p : Wb wr => And.intro (Wb.cell a0 p) (Wb.cell c0 p)
            have hlts : (i : Int) < (n1 : Int) := by omega
            have hi0 : ¬ (i : Int) < 0 := by omega
            clear hi1 hy hyz hy' hand c0
            go_wp2_with fail
            refine wp_region_wb (by kernel_rfl) (by kernel_rfl) ?_; (repeat ((with_reducible refine wpQuiet_step ?_); intro K hK; go_simp; (try (refine ite_neg_of (by simp [undef]) ?_)); first | (with_reducible refine hK _ ?_; clear hK K) | (apply Exists.intro; (with_reducible refine ⟨fun _ => ?_, hK _ ?_⟩); (fail); clear hK K))); (with_reducible refine wpQuiet_nil ?_); rintro w1 ⟨⟨_, hb1⟩, rfl⟩; (try dsimp only)
            have HBk := Lib.hid (HBj.out.trans (hb1.mono HBj.out.size))
            clear ss hb1
            go_wp2_with fail
            go_roundw
            case rel => exact ⟨i + 1, by go_num, by omega, HBk.out⟩
            case measure => simp [intOf]; omega
          · obtain rfl : n1 = i := by omega
            have HBe := Lib.hid (HB.out.trans (HBj.out.mono HB.out.size))
            clear hi1
            go_wp2_with fail
            go_ret
            exact ⟨rfl, HBe.out⟩
      · subst hbe
        subst hbc
        obtain ⟨W2, hW2⟩ : ∃ z, worstC m l1 (ch : Int) = z := ⟨_, rfl⟩
        rw [hW2] at hmin
        have HMn := Lib.hid hmin
        have HWo := Lib.hid (fun Y (h : Below w8.heap.size w8 Y) => show Calls Tryd.prog 36 #[.agg #[.slice A1 ns c1, .slice A2 nr c2], .slice B1 n1 d1, .int .i64 (ch : Int)] Y fun e w' => e = .returned (.tuple #[.int .i64 W2, .int .i64 0]) ∧ Below Y.heap.size Y w' from by
          have h2 := Worst_any _ _ m l1 (ch : Int) Y (HO.out Y h).2.1.1 HSm.out (HO.out Y h).2.1.2 HL5.out.1
          simp only [hwe2, hW2] at h2
          exact h2)
        have HX2 := Lib.hid hx2
        have hc2n : ch < n1 := by rw [← HN1.out]; exact hc2
        obtain ⟨⟨⟨k0, k1⟩, a0, a5⟩, _, _⟩ := HO.out wr HBi.out
        clear hmin hc2 hwe2 hW2 hx2 HBf
        go_wp2_with fail
        (with_reducible refine (HWo.out _ HBi.out).mono ?_)
        rintro e wa ⟨rfl, hb⟩
        have HBa := Lib.hid (HBi.out.trans (hb.mono HBi.out.size))
        clear hb k0 k1 a0 a5 HWo
        obtain ⟨⟨⟨k0, k1⟩, a0, a5⟩, ⟨_, hi1⟩, _⟩ := HO.out wa HBa.out
        obtain ⟨hsb, hand⟩ := and_pred hx20 hx21
        obtain ⟨x2', hx2'⟩ : ∃ z, x2 - 1 = z := ⟨_, rfl⟩
        obtain ⟨z2, hz2⟩ : ∃ z, x2 &&& (x2 - 1) = z := ⟨_, rfl⟩
        rw [hz2] at hand hx2n
        rw [hx2'] at hsb hand
        have hz2n : ¬ (z2 : Int) = 0 := by omega
        have hz2b : ((z2 : Int) == 0) = false := beq_eq_false_iff_ne.2 hz2n
        obtain ⟨bd, rfl, c0⟩ := hi1.load HX2.out
        have HO2 := Lib.hid (fun Y (h : Below w8.heap.size w8 Y) => HO.out Y h)
        have hc0 : ¬ (ch : Int) < 0 := by omega
        have hcn : (ch : Int) < (n1 : Int) := by omega
        have hcm : ¬ (n1 : Int) ≤ (ch : Int) := by omega
        have ss := fun p : Wb wa => And.intro (Wb.cell a0 p) (Wb.cell c0 p)
        clear hi1 hx2n hx2' hz2 k0 k1 a0 a5 c0
        go_wp2_with fail
        refine wp_region_wb (by kernel_rfl) (by kernel_rfl) ?_; (repeat ((with_reducible refine wpQuiet_step ?_); intro K hK; go_simp; (try (refine ite_neg_of (by simp [undef]) ?_)); first | (with_reducible refine hK _ ?_; clear hK K) | (apply Exists.intro; (with_reducible refine ⟨fun _ => ?_, hK _ ?_⟩); (fail); clear hK K))); (with_reducible refine wpQuiet_nil ?_); rintro w1 ⟨⟨_, hb1⟩, rfl⟩; (try dsimp only)
        have HBb := Lib.hid (HBa.out.trans (hb1.mono HBa.out.size))
        clear ss hb1 hsb hand
        obtain ⟨⟨⟨k0, k1⟩, a0, a5⟩, ⟨_, hi1⟩, _⟩ := HO.out w1 HBb.out
        have ss := fun p : Wb w1 => And.intro (Wb.cell a0 p) (Wb.cell a5 p)
        clear hi1 k0 k1 a0 a5
        go_wp2_with fail
        refine wp_region_wb (by kernel_rfl) (by kernel_rfl) ?_; (repeat ((with_reducible refine wpQuiet_step ?_); intro K hK; go_simp; (try (refine ite_neg_of (by simp [undef]) ?_)); first | (with_reducible refine hK _ ?_; clear hK K) | (apply Exists.intro; (with_reducible refine ⟨fun _ => ?_, hK _ ?_⟩); (fail); clear hK K))); (with_reducible refine wpQuiet_nil ?_); rintro w1 ⟨⟨_, hb1⟩, rfl⟩; (try dsimp only)
        have HBc := Lib.hid (HB.out.trans ((HBb.out.trans (hb1.mono HBb.out.size)).mono HB.out.size))
        clear ss hb1
        go_wp2_with fail
        refine bodyPost_ret (v := .bool true) (by simp [results, Tryd.results9, go_sem]) rfl ?_
        exact And.intro rfl HBc.out
end Go.Proofs.YthfegbcbpeedbaaDoor
