/- KeysProof: the law. -/
import Derived.Test.YthfegbcbpeedbaaDoorKyUo
import Derived.Test.YthfegbcbpeedbaaDoorKyPu
import Derived.Test.YthfegbcbpeedbaaDoorKyAs
import Derived.Test.YthfegbcbpeedbaaDoorKySh
import Derived.Test.YthfegbcbpeedbaaDoorKyRg
import Derived.Test.YthfegbcbpeedbaaDoorKyFm
namespace Go.Ky
open Go.Nm
theorem bits_len2 (L : List Int) : (bitsF L).length ≤ L.length := by
  unfold bitsF
  split
  · rw [List.length_map]; omega
  · simp
theorem rem_len2 (m : Mx) (l : List Int) : (remO m l).length ≤ m.rows.length := by
  unfold remO
  split
  · rw [List.length_map]
    exact List.length_filter_le _ _
  · simp
end Go.Ky
namespace Go.Proofs.YthfegbcbpeedbaaDoor
open Go.RowKit Go.Nm Go.Ky
theorem wrong_len {m : Mx} {k : Kx} (hs : MSm m) : (wrongL m k).length ≤ 1000 := by
  unfold wrongL
  split
  · unfold firstF
    rw [List.length_map, List.length_range]
    cases hr : wrongR m k with
    | none => simp
    | some r => exact hs.2.2 r (List.mem_of_find?_eq_some hr)
  · simp
structure PrI (V : World) (mv sv : Value) (n0 : Int) (bl : List Int) (dn : Nat → Bool) (val : Nat → Value) (X : World) : Prop where
  bel : Below V.heap.size V X
  s0 : dn 0 = true → val 0 = mv
  s1 : dn 1 = true → val 1 = .int .i64 n0
  s2 : dn 2 = true → val 2 = sv
  s3 : dn 3 = true → InSl X X.heap.size (val 3) bl
  s4 : dn 4 = true → val 4 = .tuple #[.bool true, .int .i64 0]
  s5 : dn 5 = true → val 5 = .tuple #[.bool true, .int .i64 0]
  s6 : dn 6 = true → val 6 = .bool true
  s7 : dn 7 = true → val 7 = .int .i64 0
  s8 : dn 8 = true → val 8 = .bool true
  s9 : dn 9 = true → val 9 = .int .i64 0
section
variable {V : World} {mv sv : Value} {n0 : Int} {bl : List Int} {dn : Nat → Bool} {val : Nat → Value} {X Y : World}
theorem PrI.op0 (h : PrI V mv sv n0 bl dn val X) : PrI V mv sv n0 bl (andB dn 0) (updV val 0 (mv)) X :=
  ⟨h.bel, (fun _ => rfl), h.s1, h.s2, h.s3, h.s4, h.s5, h.s6, h.s7, h.s8, h.s9⟩
theorem PrI.op1 (h : PrI V mv sv n0 bl dn val X) : PrI V mv sv n0 bl (andB dn 1) (updV val 1 (.int .i64 n0)) X :=
  ⟨h.bel, h.s0, (fun _ => rfl), h.s2, h.s3, h.s4, h.s5, h.s6, h.s7, h.s8, h.s9⟩
theorem PrI.op2 (h : PrI V mv sv n0 bl dn val X) : PrI V mv sv n0 bl (andB dn 2) (updV val 2 (sv)) X :=
  ⟨h.bel, h.s0, h.s1, (fun _ => rfl), h.s3, h.s4, h.s5, h.s6, h.s7, h.s8, h.s9⟩
theorem PrI.op3 (h : PrI V mv sv n0 bl dn val X) {v : Value} (hv : InSl Y Y.heap.size v bl) (hb : Below X.heap.size X Y) : PrI V mv sv n0 bl (andB dn 3) (updV val 3 (v)) Y :=
  ⟨h.bel.trans (hb.mono h.bel.size), h.s0, h.s1, h.s2, (fun _ => hv), h.s4, h.s5, h.s6, h.s7, h.s8, h.s9⟩
theorem PrI.op4 (h : PrI V mv sv n0 bl dn val X)  (hb : Below X.heap.size X Y) : PrI V mv sv n0 bl (andB dn 4) (updV val 4 (.tuple #[.bool true, .int .i64 0])) Y :=
  ⟨h.bel.trans (hb.mono h.bel.size), h.s0, h.s1, h.s2, (fun d => (h.s3 d).step hb), (fun _ => rfl), h.s5, h.s6, h.s7, h.s8, h.s9⟩
theorem PrI.op5 (h : PrI V mv sv n0 bl dn val X) : PrI V mv sv n0 bl (andB dn 5) (updV val 5 (.tuple #[.bool true, .int .i64 0])) X :=
  ⟨h.bel, h.s0, h.s1, h.s2, h.s3, h.s4, (fun _ => rfl), h.s6, h.s7, h.s8, h.s9⟩
theorem PrI.op6 (h : PrI V mv sv n0 bl dn val X) : PrI V mv sv n0 bl (andB dn 6) (updV val 6 (.bool true)) X :=
  ⟨h.bel, h.s0, h.s1, h.s2, h.s3, h.s4, h.s5, (fun _ => rfl), h.s7, h.s8, h.s9⟩
theorem PrI.op7 (h : PrI V mv sv n0 bl dn val X) : PrI V mv sv n0 bl (andB dn 7) (updV val 7 (.int .i64 0)) X :=
  ⟨h.bel, h.s0, h.s1, h.s2, h.s3, h.s4, h.s5, h.s6, (fun _ => rfl), h.s8, h.s9⟩
theorem PrI.op8 (h : PrI V mv sv n0 bl dn val X) : PrI V mv sv n0 bl (andB dn 8) (updV val 8 (.bool true)) X :=
  ⟨h.bel, h.s0, h.s1, h.s2, h.s3, h.s4, h.s5, h.s6, h.s7, (fun _ => rfl), h.s9⟩
theorem PrI.op9 (h : PrI V mv sv n0 bl dn val X) : PrI V mv sv n0 bl (andB dn 9) (updV val 9 (.int .i64 0)) X :=
  ⟨h.bel, h.s0, h.s1, h.s2, h.s3, h.s4, h.s5, h.s6, h.s7, h.s8, (fun _ => rfl)⟩
end
structure PrJ (V : World) (mv kv sv : Value) (bl fl : List Int) (dn : Nat → Bool) (val : Nat → Value) (X : World) : Prop where
  bel : Below V.heap.size V X
  s0 : dn 0 = true → val 0 = mv
  s1 : dn 1 = true → val 1 = kv
  s2 : dn 2 = true → val 2 = sv
  s3 : dn 3 = true → InSl X X.heap.size (val 3) bl
  s4 : dn 4 = true → ∃ r, (val 4) = .tuple #[r, .int .i64 0] ∧ InSl X X.heap.size r fl
  s5 : dn 5 = true → ∃ r, (val 5) = .tuple #[r, .int .i64 0] ∧ InSl X X.heap.size r fl
  s6 : dn 6 = true → InSl X X.heap.size (val 6) fl
  s7 : dn 7 = true → val 7 = .int .i64 0
  s8 : dn 8 = true → InSl X X.heap.size (val 8) fl
  s9 : dn 9 = true → val 9 = .int .i64 0
section
variable {V : World} {mv kv sv : Value} {bl fl : List Int} {dn : Nat → Bool} {val : Nat → Value} {X Y : World}
theorem PrJ.op0 (h : PrJ V mv kv sv bl fl dn val X) : PrJ V mv kv sv bl fl (andB dn 0) (updV val 0 (mv)) X :=
  ⟨h.bel, (fun _ => rfl), h.s1, h.s2, h.s3, h.s4, h.s5, h.s6, h.s7, h.s8, h.s9⟩
theorem PrJ.op1 (h : PrJ V mv kv sv bl fl dn val X) : PrJ V mv kv sv bl fl (andB dn 1) (updV val 1 (kv)) X :=
  ⟨h.bel, h.s0, (fun _ => rfl), h.s2, h.s3, h.s4, h.s5, h.s6, h.s7, h.s8, h.s9⟩
theorem PrJ.op2 (h : PrJ V mv kv sv bl fl dn val X) : PrJ V mv kv sv bl fl (andB dn 2) (updV val 2 (sv)) X :=
  ⟨h.bel, h.s0, h.s1, (fun _ => rfl), h.s3, h.s4, h.s5, h.s6, h.s7, h.s8, h.s9⟩
theorem PrJ.op3 (h : PrJ V mv kv sv bl fl dn val X) {v : Value} (hv : InSl Y Y.heap.size v bl) (hb : Below X.heap.size X Y) : PrJ V mv kv sv bl fl (andB dn 3) (updV val 3 (v)) Y :=
  ⟨h.bel.trans (hb.mono h.bel.size), h.s0, h.s1, h.s2, (fun _ => hv), (fun d => (by obtain ⟨r, e, h⟩ := (h.s4 d); exact ⟨r, e, h.step hb⟩)), (fun d => (by obtain ⟨r, e, h⟩ := (h.s5 d); exact ⟨r, e, h.step hb⟩)), (fun d => (h.s6 d).step hb), h.s7, (fun d => (h.s8 d).step hb), h.s9⟩
theorem PrJ.op4 (h : PrJ V mv kv sv bl fl dn val X) {v : Value} (hv : ∃ r, v = .tuple #[r, .int .i64 0] ∧ InSl Y Y.heap.size r fl) (hb : Below X.heap.size X Y) : PrJ V mv kv sv bl fl (andB dn 4) (updV val 4 (v)) Y :=
  ⟨h.bel.trans (hb.mono h.bel.size), h.s0, h.s1, h.s2, (fun d => (h.s3 d).step hb), (fun _ => hv), (fun d => (by obtain ⟨r, e, h⟩ := (h.s5 d); exact ⟨r, e, h.step hb⟩)), (fun d => (h.s6 d).step hb), h.s7, (fun d => (h.s8 d).step hb), h.s9⟩
theorem PrJ.op5 (h : PrJ V mv kv sv bl fl dn val X) {v : Value} (hv : ∃ r, v = .tuple #[r, .int .i64 0] ∧ InSl X X.heap.size r fl) : PrJ V mv kv sv bl fl (andB dn 5) (updV val 5 v) X :=
  ⟨h.bel, h.s0, h.s1, h.s2, h.s3, h.s4, (fun _ => hv), h.s6, h.s7, h.s8, h.s9⟩
theorem PrJ.op6 (h : PrJ V mv kv sv bl fl dn val X) {v : Value} (hv : InSl X X.heap.size v fl) : PrJ V mv kv sv bl fl (andB dn 6) (updV val 6 v) X :=
  ⟨h.bel, h.s0, h.s1, h.s2, h.s3, h.s4, h.s5, (fun _ => hv), h.s7, h.s8, h.s9⟩
theorem PrJ.op7 (h : PrJ V mv kv sv bl fl dn val X) : PrJ V mv kv sv bl fl (andB dn 7) (updV val 7 (.int .i64 0)) X :=
  ⟨h.bel, h.s0, h.s1, h.s2, h.s3, h.s4, h.s5, h.s6, (fun _ => rfl), h.s8, h.s9⟩
theorem PrJ.op8 (h : PrJ V mv kv sv bl fl dn val X) {v : Value} (hv : InSl X X.heap.size v fl) : PrJ V mv kv sv bl fl (andB dn 8) (updV val 8 v) X :=
  ⟨h.bel, h.s0, h.s1, h.s2, h.s3, h.s4, h.s5, h.s6, h.s7, (fun _ => hv), h.s9⟩
theorem PrJ.op9 (h : PrJ V mv kv sv bl fl dn val X) : PrJ V mv kv sv bl fl (andB dn 9) (updV val 9 (.int .i64 0)) X :=
  ⟨h.bel, h.s0, h.s1, h.s2, h.s3, h.s4, h.s5, h.s6, h.s7, h.s8, (fun _ => rfl)⟩
end
end Go.Proofs.YthfegbcbpeedbaaDoor
namespace Go.Proofs.YthfegbcbpeedbaaDoor
open Go.RowKit Go.Nm Go.Ky

set_option maxRecDepth 100000 in
set_option maxHeartbeats 16000000 in
theorem KeysProof_any (v kv u : Value) (m : Mx) (k : Kx) (l1 l2 l3 : List Int) (a b c : Int) (w : World) (hv : MxV w v m) (hk : KyV w kv k) (hu : AskV w u l1 l2 l3 a b c) (hT : TabH w) :
    Calls Tryd.prog 11 #[v, kv, u] w fun e w' => e = .returned (.bool true) ∧ Below w.heap.size w w' := by
  obtain ⟨A1, c1, A2, c2, W0, rfl, hW0, hb0, hM, hS, hR, hX⟩ := mx_box hv
  have hz : W0.heap.size = w.heap.size + 1 := by rw [← hW0]; simp
  have hn0 : W0.heap[w.heap.size]? = some (.cells #[.slice A1 m.st.length c1, .slice A2 m.rows.length c2] 25) := by rw [← hW0]; exact World.alloc_heap_new w _
  obtain ⟨D1, e1, D2, e2, W1, rfl, hW1, hb1, hKy, hNd, hLv, hX1⟩ := ky_box (hk.step hb0)
  have hz1 : W1.heap.size = W0.heap.size + 1 := by rw [← hW1]; simp
  have hn1 : W1.heap[W0.heap.size]? = some (.cells #[.slice D1 k.nd.length e1, .slice D2 k.lv.length e2] 53) := by rw [← hW1]; exact World.alloc_heap_new W0 _
  have hb01 := hb0.trans (hb1.mono hb0.size)
  obtain ⟨B1, d1, B2, d2, B3, d3, W2, rfl, hW2, hb2, hI1, hI2, hI3, hn2⟩ := ask_box (hu.step hb01)
  rw [hz1, hz] at hn2
  rw [hz] at hn1
  have HW := Lib.hid (And.intro hW0 (And.intro hW1 hW2))
  have HB := Lib.hid (hb01.trans (hb2.mono hb01.size))
  have HT := Lib.hid (((hT.step hb0).step hb1).step hb2)
  have HM := Lib.hid (hM W2 (hb1.trans (hb2.mono hb1.size)))
  have HKy := Lib.hid (hKy W2 hb2)
  have HBx := Lib.hid ((hb2.block _ (by omega)).trans ((hb1.block _ (by omega)).trans hn0))
  have HKx := Lib.hid ((hb2.block _ (by omega)).trans hn1)
  have HAx := Lib.hid hn2
  have HI := Lib.hid hI1
  obtain ⟨ns, hns⟩ : ∃ n, m.st.length = n := ⟨_, rfl⟩
  obtain ⟨nr, hnr⟩ : ∃ n, m.rows.length = n := ⟨_, rfl⟩
  obtain ⟨nn, hnn⟩ : ∃ n, k.nd.length = n := ⟨_, rfl⟩
  obtain ⟨nl, hnl⟩ : ∃ n, k.lv.length = n := ⟨_, rfl⟩
  rw [hns, hnr] at HW HM HBx
  rw [hnn, hnl] at HW HKy HKx
  obtain ⟨n1, hn1'⟩ : ∃ n, l1.length = n := ⟨_, rfl⟩
  obtain ⟨n2, hn2'⟩ : ∃ n, l2.length = n := ⟨_, rfl⟩
  obtain ⟨n3, hn3'⟩ : ∃ n, l3.length = n := ⟨_, rfl⟩
  rw [hn1', hn2', hn3'] at HW HAx
  rw [hn1'] at HI
  rw [hns, hnr, hnn, hnl, hn1', hn2', hn3']
  have HNs := Lib.hid (And.intro hns hnr)
  have HNk := Lib.hid (And.intro hnn hnl)
  have HN1 := Lib.hid hn1'
  have HN2 := Lib.hid hn2'
  have HN3 := Lib.hid hn3'
  obtain ⟨k0, k1⟩ := cells_two HBx.out
  obtain ⟨j0, j1⟩ := cells_two HKx.out
  obtain ⟨a0, a1, a2, a3, a4, a5⟩ := cells_six HAx.out
  clear hv hk hT hW0 hb0 hM hS hR hX hz hn0 hW1 hb1 hKy hNd hLv hX1 hz1 hn1 hb01 hns hnr hnn hnl hu hW2 hb2 hI1 hI2 hI3 hn2 hn1' hn2' hn3'
  go_enter Tryd.func11, Tryd.ntmps11
  go_wp2_with fail
  rw [HW.out.1, HW.out.2.1, HW.out.2.2]
  (try go_wp2_with fail)
  (with_reducible refine (awake_any _ HT.out).mono ?_)
  rintro e w1 ⟨rfl, hb⟩
  replace HB := Lib.hid (HB.out.trans (hb.mono HB.out.size))
  replace HT := Lib.hid (HT.out.step hb)
  replace HM := Lib.hid (HM.out.step hb)
  replace HKy := Lib.hid (HKy.out.step hb)
  replace HBx := Lib.hid ((hb.block _ (Array.getElem?_eq_some_iff.1 HBx.out).1).trans HBx.out)
  replace HKx := Lib.hid ((hb.block _ (Array.getElem?_eq_some_iff.1 HKx.out).1).trans HKx.out)
  replace HAx := Lib.hid ((hb.block _ (Array.getElem?_eq_some_iff.1 HAx.out).1).trans HAx.out)
  replace HI := Lib.hid (HI.out.step hb)
  clear hb
  clear k0 k1 j0 j1 a0 a1 a2 a3 a4 a5
  obtain ⟨k0, k1⟩ := cells_two HBx.out
  obtain ⟨j0, j1⟩ := cells_two HKx.out
  obtain ⟨a0, a1, a2, a3, a4, a5⟩ := cells_six HAx.out
  have HFw := Lib.hid (few_any _ m w1 HM.out)
  cases hfw : fewF m with
  | false =>
    rw [hfw] at HFw
    clear hfw
    go_wp2_with fail
    (with_reducible refine HFw.out.mono ?_)
    rintro e w2 ⟨rfl, hb⟩
    replace HB := Lib.hid (HB.out.trans (hb.mono HB.out.size))
    clear hb
    go_wp2_with fail
    go_ret
    exact ⟨rfl, HB.out⟩
  | true =>
  rw [hfw] at HFw
  have HSm := Lib.hid (few_sm hfw)
  have HFe := Lib.hid hfw
  clear hfw
  go_wp2_with fail
  (with_reducible refine HFw.out.mono ?_)
  rintro e w3 ⟨rfl, hb⟩
  replace HB := Lib.hid (HB.out.trans (hb.mono HB.out.size))
  replace HT := Lib.hid (HT.out.step hb)
  replace HM := Lib.hid (HM.out.step hb)
  replace HKy := Lib.hid (HKy.out.step hb)
  replace HBx := Lib.hid ((hb.block _ (Array.getElem?_eq_some_iff.1 HBx.out).1).trans HBx.out)
  replace HKx := Lib.hid ((hb.block _ (Array.getElem?_eq_some_iff.1 HKx.out).1).trans HKx.out)
  replace HAx := Lib.hid ((hb.block _ (Array.getElem?_eq_some_iff.1 HAx.out).1).trans HAx.out)
  replace HI := Lib.hid (HI.out.step hb)
  clear HFw
  clear hb
  clear k0 k1 j0 j1 a0 a1 a2 a3 a4 a5
  obtain ⟨k0, k1⟩ := cells_two HBx.out
  obtain ⟨j0, j1⟩ := cells_two HKx.out
  obtain ⟨a0, a1, a2, a3, a4, a5⟩ := cells_six HAx.out
  have HSh := Lib.hid (short_any _ k w3 HKy.out)
  cases hsh : shortF k with
  | false =>
    rw [hsh] at HSh
    clear hsh
    go_wp2_with fail
    (with_reducible refine HSh.out.mono ?_)
    rintro e w4 ⟨rfl, hb⟩
    replace HB := Lib.hid (HB.out.trans (hb.mono HB.out.size))
    clear hb
    go_wp2_with fail
    go_ret
    exact ⟨rfl, HB.out⟩
  | true =>
  rw [hsh] at HSh
  have HKm := Lib.hid (short_sm hsh)
  have HShe := Lib.hid hsh
  clear hsh
  go_wp2_with fail
  (with_reducible refine HSh.out.mono ?_)
  rintro e w5 ⟨rfl, hb⟩
  replace HB := Lib.hid (HB.out.trans (hb.mono HB.out.size))
  replace HT := Lib.hid (HT.out.step hb)
  replace HM := Lib.hid (HM.out.step hb)
  replace HKy := Lib.hid (HKy.out.step hb)
  replace HBx := Lib.hid ((hb.block _ (Array.getElem?_eq_some_iff.1 HBx.out).1).trans HBx.out)
  replace HKx := Lib.hid ((hb.block _ (Array.getElem?_eq_some_iff.1 HKx.out).1).trans HKx.out)
  replace HAx := Lib.hid ((hb.block _ (Array.getElem?_eq_some_iff.1 HAx.out).1).trans HAx.out)
  replace HI := Lib.hid (HI.out.step hb)
  clear HSh
  clear hb
  clear k0 k1 j0 j1 a0 a1 a2 a3 a4 a5
  obtain ⟨k0, k1⟩ := cells_two HBx.out
  obtain ⟨j0, j1⟩ := cells_two HKx.out
  obtain ⟨a0, a1, a2, a3, a4, a5⟩ := cells_six HAx.out
  have HLi := Lib.hid (light_any B1 B2 B3 n1 n2 n3 d1 d2 d3 a b c w5)
  cases hli : decide (n1 ≤ 100 ∧ n2 ≤ 100 ∧ n3 ≤ 100) with
  | false =>
    rw [hli] at HLi
    clear hli
    go_wp2_with fail
    (with_reducible refine HLi.out.mono ?_)
    rintro e w6 ⟨rfl, hb⟩
    replace HB := Lib.hid (HB.out.trans (hb.mono HB.out.size))
    clear hb
    go_wp2_with fail
    go_ret
    exact ⟨rfl, HB.out⟩
  | true =>
  rw [hli] at HLi
  have hl1 := of_decide_eq_true hli
  have HLen := Lib.hid (show l1.length ≤ 100 ∧ l2.length ≤ 100 ∧ l3.length ≤ 100 from by rw [HN1.out, HN2.out, HN3.out]; exact hl1)
  clear hli hl1
  go_wp2_with fail
  (with_reducible refine HLi.out.mono ?_)
  rintro e w7 ⟨rfl, hb⟩
  replace HB := Lib.hid (HB.out.trans (hb.mono HB.out.size))
  replace HT := Lib.hid (HT.out.step hb)
  replace HM := Lib.hid (HM.out.step hb)
  replace HKy := Lib.hid (HKy.out.step hb)
  replace HBx := Lib.hid ((hb.block _ (Array.getElem?_eq_some_iff.1 HBx.out).1).trans HBx.out)
  replace HKx := Lib.hid ((hb.block _ (Array.getElem?_eq_some_iff.1 HKx.out).1).trans HKx.out)
  replace HAx := Lib.hid ((hb.block _ (Array.getElem?_eq_some_iff.1 HAx.out).1).trans HAx.out)
  replace HI := Lib.hid (HI.out.step hb)
  clear HLi
  clear hb
  clear k0 k1 j0 j1 a0 a1 a2 a3 a4 a5
  obtain ⟨k0, k1⟩ := cells_two HBx.out
  obtain ⟨j0, j1⟩ := cells_two HKx.out
  obtain ⟨a0, a1, a2, a3, a4, a5⟩ := cells_six HAx.out
  have HWc := Lib.hid (wrong_cs m k)
  obtain ⟨we, hwe⟩ : ∃ x, wrongE m k = x := ⟨_, rfl⟩
  obtain ⟨wn, hwn⟩ : ∃ x, wrongN m k = x := ⟨_, rfl⟩
  obtain ⟨wl, hwl⟩ : ∃ x, wrongL m k = x := ⟨_, rfl⟩
  have HRs := Lib.hid (And.intro hwe (And.intro hwn hwl))
  have HWl := Lib.hid (show wl.length ≤ 1000 from by rw [← hwl]; exact wrong_len HSm.out)
  have HRv := Lib.hid (show rightE m k = if we = 3 then 0 else we from by rw [← hwe]; exact right_val m k)
  have HL5 := Lib.hid (show l1.length ≤ 1000 from by have := HLen.out; omega)
  rw [hwe] at HWc
  clear hwe hwn hwl
  rcases HWc.out with h0 | h0 | h0 | h0
  rotate_left
  · subst h0
    have hre : rightE m k = 0 := by rw [HRv.out]; rfl
    have HC := Lib.hid (Right_any _ _ m k w7 HM.out HSm.out HKy.out HKm.out)
    rw [HRs.out.1, hre] at HC
    rw [show decide ((3 : Int) = 3) = true from rfl] at HC
    clear hre HWc HRv
    go_wp2_with fail
    (with_reducible refine HC.out.mono ?_)
    rintro e w8 ⟨rfl, hb⟩
    replace HB := Lib.hid (HB.out.trans (hb.mono HB.out.size))
    replace HT := Lib.hid (HT.out.step hb)
    replace HM := Lib.hid (HM.out.step hb)
    replace HKy := Lib.hid (HKy.out.step hb)
    replace HBx := Lib.hid ((hb.block _ (Array.getElem?_eq_some_iff.1 HBx.out).1).trans HBx.out)
    replace HKx := Lib.hid ((hb.block _ (Array.getElem?_eq_some_iff.1 HKx.out).1).trans HKx.out)
    replace HAx := Lib.hid ((hb.block _ (Array.getElem?_eq_some_iff.1 HAx.out).1).trans HAx.out)
    replace HI := Lib.hid (HI.out.step hb)
    clear HC
    clear hb
    clear k0 k1 j0 j1 a0 a1 a2 a3 a4 a5
    obtain ⟨k0, k1⟩ := cells_two HBx.out
    obtain ⟨j0, j1⟩ := cells_two HKx.out
    obtain ⟨a0, a1, a2, a3, a4, a5⟩ := cells_six HAx.out
    have HC := Lib.hid (Wrong_any _ _ m k w8 HM.out HSm.out HKy.out HKm.out)
    rw [HRs.out.1, HRs.out.2.1, HRs.out.2.2] at HC
    go_wp2_with fail
    (with_reducible refine HC.out.mono ?_)
    rintro e w9 ⟨⟨u1, rfl, hf⟩, hb⟩
    replace HB := Lib.hid (HB.out.trans (hb.mono HB.out.size))
    replace HT := Lib.hid (HT.out.step hb)
    replace HM := Lib.hid (HM.out.step hb)
    replace HKy := Lib.hid (HKy.out.step hb)
    replace HBx := Lib.hid ((hb.block _ (Array.getElem?_eq_some_iff.1 HBx.out).1).trans HBx.out)
    replace HKx := Lib.hid ((hb.block _ (Array.getElem?_eq_some_iff.1 HKx.out).1).trans HKx.out)
    replace HAx := Lib.hid ((hb.block _ (Array.getElem?_eq_some_iff.1 HAx.out).1).trans HAx.out)
    replace HI := Lib.hid (HI.out.step hb)
    have H1 := Lib.hid hf.1
    clear hf HC
    clear hb
    clear k0 k1 j0 j1 a0 a1 a2 a3 a4 a5
    obtain ⟨k0, k1⟩ := cells_two HBx.out
    obtain ⟨j0, j1⟩ := cells_two HKx.out
    obtain ⟨a0, a1, a2, a3, a4, a5⟩ := cells_six HAx.out
    have HC := Lib.hid (Remain_any _ _ m l1 w9 HM.out HSm.out HI.out (by have := HL5.out; omega))
    have HCs := Lib.hid (seen_cases m [l1])
    have HLw := Lib.hid (fun h : seenE m [l1] = 0 => right_law HRs.out.1 h)
    obtain ⟨se, hse⟩ : ∃ x, seenE m [l1] = x := ⟨_, rfl⟩
    obtain ⟨rl, hrl⟩ : ∃ x, remO m l1 = x := ⟨_, rfl⟩
    obtain ⟨fe, hfe⟩ : ∃ x, followE m k l1 = x := ⟨_, rfl⟩
    obtain ⟨fl, hfl⟩ : ∃ x, followL m k l1 = x := ⟨_, rfl⟩
    have HRt := Lib.hid (And.intro hse (And.intro hrl (And.intro hfe hfl)))
    rw [hse, hrl] at HC
    rw [hse] at HCs
    rw [hse, hrl, hfe, hfl] at HLw
    have HLl := Lib.hid (show rl.length ≤ 1000000 ∧ fl.length ≤ 1000000 from ⟨by rw [← hrl]; have := rem_len2 m l1; have := HSm.out.2.1; omega, by rw [← hfl]; have := follow_len (m := m) (l := l1) HKm.out; omega⟩)
    clear hse hrl hfe hfl
    go_wp2_with fail
    (with_reducible refine HC.out.mono ?_)
    rintro e w10 ⟨⟨u2, rfl, hf, _⟩, hb⟩
    replace HB := Lib.hid (HB.out.trans (hb.mono HB.out.size))
    replace HT := Lib.hid (HT.out.step hb)
    replace HM := Lib.hid (HM.out.step hb)
    replace HKy := Lib.hid (HKy.out.step hb)
    replace HBx := Lib.hid ((hb.block _ (Array.getElem?_eq_some_iff.1 HBx.out).1).trans HBx.out)
    replace HKx := Lib.hid ((hb.block _ (Array.getElem?_eq_some_iff.1 HKx.out).1).trans HKx.out)
    replace HAx := Lib.hid ((hb.block _ (Array.getElem?_eq_some_iff.1 HAx.out).1).trans HAx.out)
    replace HI := Lib.hid (HI.out.step hb)
    replace H1 := Lib.hid (H1.out.step hb)
    have H2 := Lib.hid hf
    clear hf HC
    clear hb
    clear k0 k1 j0 j1 a0 a1 a2 a3 a4 a5
    obtain ⟨k0, k1⟩ := cells_two HBx.out
    obtain ⟨j0, j1⟩ := cells_two HKx.out
    obtain ⟨a0, a1, a2, a3, a4, a5⟩ := cells_six HAx.out
    have HC := Lib.hid (Follow_any _ _ _ m k l1 w10 HM.out HSm.out HKy.out HKm.out HI.out HL5.out HT.out)
    rw [HRt.out.2.2.1, HRt.out.2.2.2] at HC
    go_wp2_with fail
    (with_reducible refine HC.out.mono ?_)
    rintro e w11 ⟨⟨u3, rfl, hf⟩, hb⟩
    replace HB := Lib.hid (HB.out.trans (hb.mono HB.out.size))
    replace HT := Lib.hid (HT.out.step hb)
    replace HM := Lib.hid (HM.out.step hb)
    replace HKy := Lib.hid (HKy.out.step hb)
    replace HBx := Lib.hid ((hb.block _ (Array.getElem?_eq_some_iff.1 HBx.out).1).trans HBx.out)
    replace HKx := Lib.hid ((hb.block _ (Array.getElem?_eq_some_iff.1 HKx.out).1).trans HKx.out)
    replace HAx := Lib.hid ((hb.block _ (Array.getElem?_eq_some_iff.1 HAx.out).1).trans HAx.out)
    replace HI := Lib.hid (HI.out.step hb)
    replace H1 := Lib.hid (H1.out.step hb)
    replace H2 := Lib.hid (H2.out.step hb)
    have H3 := Lib.hid hf.1
    clear hf HC
    clear hb
    clear k0 k1 j0 j1 a0 a1 a2 a3 a4 a5
    obtain ⟨k0, k1⟩ := cells_two HBx.out
    obtain ⟨j0, j1⟩ := cells_two HKx.out
    obtain ⟨a0, a1, a2, a3, a4, a5⟩ := cells_six HAx.out
    rcases HCs.out with h0 | h0 | h0
    rotate_left
    · subst h0
      clear HCs HLw
      go_wp2_with fail
      refine bodyPost_ret (v := .bool true) (by simp [results, Tryd.results11, go_sem]) rfl ?_
      exact And.intro rfl HB.out
    · subst h0
      clear HCs HLw
      go_wp2_with fail
      refine bodyPost_ret (v := .bool true) (by simp [results, Tryd.results11, go_sem]) rfl ?_
      exact And.intro rfl HB.out
    subst h0
    have hlw := HLw.out rfl
    have hfe0 : fe = 0 := hlw.1
    subst hfe0
    have HC := Lib.hid (lpart_any u2 u3 rl fl w11 H2.out H3.out HLl.out.1 HLl.out.2)
    rw [hlw.2] at HC
    clear hlw HCs HLw
    go_wp2_with fail
    (with_reducible refine HC.out.mono ?_)
    rintro e wz ⟨rfl, rfl⟩
    clear HC
    go_wp2_with fail
    refine bodyPost_ret (v := .bool true) (by simp [results, Tryd.results11, go_sem]) rfl ?_
    exact And.intro rfl HB.out
  · subst h0
    have hre : rightE m k = 30 := by rw [HRv.out]; rfl
    have HC := Lib.hid (Right_any _ _ m k w7 HM.out HSm.out HKy.out HKm.out)
    rw [HRs.out.1, hre] at HC
    rw [show decide ((30 : Int) = 3) = false from rfl] at HC
    clear hre HWc HRv
    go_wp2_with fail
    (with_reducible refine HC.out.mono ?_)
    rintro e w12 ⟨rfl, hb⟩
    replace HB := Lib.hid (HB.out.trans (hb.mono HB.out.size))
    replace HT := Lib.hid (HT.out.step hb)
    replace HM := Lib.hid (HM.out.step hb)
    replace HKy := Lib.hid (HKy.out.step hb)
    replace HBx := Lib.hid ((hb.block _ (Array.getElem?_eq_some_iff.1 HBx.out).1).trans HBx.out)
    replace HKx := Lib.hid ((hb.block _ (Array.getElem?_eq_some_iff.1 HKx.out).1).trans HKx.out)
    replace HAx := Lib.hid ((hb.block _ (Array.getElem?_eq_some_iff.1 HAx.out).1).trans HAx.out)
    replace HI := Lib.hid (HI.out.step hb)
    clear HC
    clear hb
    clear k0 k1 j0 j1 a0 a1 a2 a3 a4 a5
    obtain ⟨k0, k1⟩ := cells_two HBx.out
    obtain ⟨j0, j1⟩ := cells_two HKx.out
    obtain ⟨a0, a1, a2, a3, a4, a5⟩ := cells_six HAx.out
    have HC := Lib.hid (Wrong_any _ _ m k w12 HM.out HSm.out HKy.out HKm.out)
    rw [HRs.out.1, HRs.out.2.1, HRs.out.2.2] at HC
    go_wp2_with fail
    (with_reducible refine HC.out.mono ?_)
    rintro e w13 ⟨⟨u1, rfl, hf⟩, hb⟩
    replace HB := Lib.hid (HB.out.trans (hb.mono HB.out.size))
    replace HT := Lib.hid (HT.out.step hb)
    replace HM := Lib.hid (HM.out.step hb)
    replace HKy := Lib.hid (HKy.out.step hb)
    replace HBx := Lib.hid ((hb.block _ (Array.getElem?_eq_some_iff.1 HBx.out).1).trans HBx.out)
    replace HKx := Lib.hid ((hb.block _ (Array.getElem?_eq_some_iff.1 HKx.out).1).trans HKx.out)
    replace HAx := Lib.hid ((hb.block _ (Array.getElem?_eq_some_iff.1 HAx.out).1).trans HAx.out)
    replace HI := Lib.hid (HI.out.step hb)
    have H1 := Lib.hid hf.1
    clear hf HC
    clear hb
    clear k0 k1 j0 j1 a0 a1 a2 a3 a4 a5
    obtain ⟨k0, k1⟩ := cells_two HBx.out
    obtain ⟨j0, j1⟩ := cells_two HKx.out
    obtain ⟨a0, a1, a2, a3, a4, a5⟩ := cells_six HAx.out
    obtain ⟨hn0, hl0⟩ := wrong_none (m := m) (k := k) (by rw [HRs.out.1]; decide)
    rw [HRs.out.2.1] at hn0
    rw [HRs.out.2.2] at hl0
    subst hn0 hl0
    obtain ⟨S1, sc1, rfl, _⟩ := H1.out.form
    go_wp2_with fail
    refine bodyPost_ret (v := .bool true) (by simp [results, Tryd.results11, go_sem]) rfl ?_
    exact And.intro rfl HB.out
  · subst h0
    have hre : rightE m k = 31 := by rw [HRv.out]; rfl
    have HC := Lib.hid (Right_any _ _ m k w7 HM.out HSm.out HKy.out HKm.out)
    rw [HRs.out.1, hre] at HC
    rw [show decide ((31 : Int) = 3) = false from rfl] at HC
    clear hre HWc HRv
    go_wp2_with fail
    (with_reducible refine HC.out.mono ?_)
    rintro e w14 ⟨rfl, hb⟩
    replace HB := Lib.hid (HB.out.trans (hb.mono HB.out.size))
    replace HT := Lib.hid (HT.out.step hb)
    replace HM := Lib.hid (HM.out.step hb)
    replace HKy := Lib.hid (HKy.out.step hb)
    replace HBx := Lib.hid ((hb.block _ (Array.getElem?_eq_some_iff.1 HBx.out).1).trans HBx.out)
    replace HKx := Lib.hid ((hb.block _ (Array.getElem?_eq_some_iff.1 HKx.out).1).trans HKx.out)
    replace HAx := Lib.hid ((hb.block _ (Array.getElem?_eq_some_iff.1 HAx.out).1).trans HAx.out)
    replace HI := Lib.hid (HI.out.step hb)
    clear HC
    clear hb
    clear k0 k1 j0 j1 a0 a1 a2 a3 a4 a5
    obtain ⟨k0, k1⟩ := cells_two HBx.out
    obtain ⟨j0, j1⟩ := cells_two HKx.out
    obtain ⟨a0, a1, a2, a3, a4, a5⟩ := cells_six HAx.out
    have HC := Lib.hid (Wrong_any _ _ m k w14 HM.out HSm.out HKy.out HKm.out)
    rw [HRs.out.1, HRs.out.2.1, HRs.out.2.2] at HC
    go_wp2_with fail
    (with_reducible refine HC.out.mono ?_)
    rintro e w15 ⟨⟨u1, rfl, hf⟩, hb⟩
    replace HB := Lib.hid (HB.out.trans (hb.mono HB.out.size))
    replace HT := Lib.hid (HT.out.step hb)
    replace HM := Lib.hid (HM.out.step hb)
    replace HKy := Lib.hid (HKy.out.step hb)
    replace HBx := Lib.hid ((hb.block _ (Array.getElem?_eq_some_iff.1 HBx.out).1).trans HBx.out)
    replace HKx := Lib.hid ((hb.block _ (Array.getElem?_eq_some_iff.1 HKx.out).1).trans HKx.out)
    replace HAx := Lib.hid ((hb.block _ (Array.getElem?_eq_some_iff.1 HAx.out).1).trans HAx.out)
    replace HI := Lib.hid (HI.out.step hb)
    have H1 := Lib.hid hf.1
    clear hf HC
    clear hb
    clear k0 k1 j0 j1 a0 a1 a2 a3 a4 a5
    obtain ⟨k0, k1⟩ := cells_two HBx.out
    obtain ⟨j0, j1⟩ := cells_two HKx.out
    obtain ⟨a0, a1, a2, a3, a4, a5⟩ := cells_six HAx.out
    obtain ⟨hn0, hl0⟩ := wrong_none (m := m) (k := k) (by rw [HRs.out.1]; decide)
    rw [HRs.out.2.1] at hn0
    rw [HRs.out.2.2] at hl0
    subst hn0 hl0
    obtain ⟨S1, sc1, rfl, _⟩ := H1.out.form
    go_wp2_with fail
    refine bodyPost_ret (v := .bool true) (by simp [results, Tryd.results11, go_sem]) rfl ?_
    exact And.intro rfl HB.out
  · subst h0
    have hre : rightE m k = 0 := by rw [HRv.out]; rfl
    have HC := Lib.hid (Right_any _ _ m k w7 HM.out HSm.out HKy.out HKm.out)
    rw [HRs.out.1, hre] at HC
    rw [show decide ((0 : Int) = 3) = false from rfl] at HC
    clear hre HWc HRv
    go_wp2_with fail
    (with_reducible refine HC.out.mono ?_)
    rintro e w16 ⟨rfl, hb⟩
    replace HB := Lib.hid (HB.out.trans (hb.mono HB.out.size))
    replace HT := Lib.hid (HT.out.step hb)
    replace HM := Lib.hid (HM.out.step hb)
    replace HKy := Lib.hid (HKy.out.step hb)
    replace HBx := Lib.hid ((hb.block _ (Array.getElem?_eq_some_iff.1 HBx.out).1).trans HBx.out)
    replace HKx := Lib.hid ((hb.block _ (Array.getElem?_eq_some_iff.1 HKx.out).1).trans HKx.out)
    replace HAx := Lib.hid ((hb.block _ (Array.getElem?_eq_some_iff.1 HAx.out).1).trans HAx.out)
    replace HI := Lib.hid (HI.out.step hb)
    clear HC
    clear hb
    clear k0 k1 j0 j1 a0 a1 a2 a3 a4 a5
    obtain ⟨k0, k1⟩ := cells_two HBx.out
    obtain ⟨j0, j1⟩ := cells_two HKx.out
    obtain ⟨a0, a1, a2, a3, a4, a5⟩ := cells_six HAx.out
    have HC := Lib.hid (Wrong_any _ _ m k w16 HM.out HSm.out HKy.out HKm.out)
    rw [HRs.out.1, HRs.out.2.1, HRs.out.2.2] at HC
    go_wp2_with fail
    (with_reducible refine HC.out.mono ?_)
    rintro e w17 ⟨⟨u1, rfl, hf⟩, hb⟩
    replace HB := Lib.hid (HB.out.trans (hb.mono HB.out.size))
    replace HT := Lib.hid (HT.out.step hb)
    replace HM := Lib.hid (HM.out.step hb)
    replace HKy := Lib.hid (HKy.out.step hb)
    replace HBx := Lib.hid ((hb.block _ (Array.getElem?_eq_some_iff.1 HBx.out).1).trans HBx.out)
    replace HKx := Lib.hid ((hb.block _ (Array.getElem?_eq_some_iff.1 HKx.out).1).trans HKx.out)
    replace HAx := Lib.hid ((hb.block _ (Array.getElem?_eq_some_iff.1 HAx.out).1).trans HAx.out)
    replace HI := Lib.hid (HI.out.step hb)
    have H1 := Lib.hid hf.1
    clear hf HC
    clear hb
    clear k0 k1 j0 j1 a0 a1 a2 a3 a4 a5
    obtain ⟨k0, k1⟩ := cells_two HBx.out
    obtain ⟨j0, j1⟩ := cells_two HKx.out
    obtain ⟨a0, a1, a2, a3, a4, a5⟩ := cells_six HAx.out
    have hlw := wrong_law HRs.out.1
    rw [HRs.out.2.1, HRs.out.2.2] at hlw
    obtain ⟨bl, hbl⟩ : ∃ x, bitsF wl = x := ⟨_, rfl⟩
    have HBl := Lib.hid (And.intro hbl (show bl.length ≤ 1000 from by rw [← hbl]; have := bits_len2 wl; have := HWl.out; omega))
    rw [hbl] at hlw
    obtain ⟨fl, hfl⟩ : ∃ x, followL m k bl = x := ⟨_, rfl⟩
    rw [hfl] at hlw
    have HLw := Lib.hid hlw
    have HFl := Lib.hid (And.intro hfl (show fl.length ≤ 1000000 from by rw [← hfl]; have := follow_len (m := m) (l := bl) HKm.out; omega))
    clear hlw hbl hfl
    obtain ⟨S1, sc1, rfl, _⟩ := H1.out.form
    clear k0 k1 j0 j1 a0 a1 a2 a3 a4 a5
    have HO := Lib.hid (show ∀ Y, Below w17.heap.size w17 Y → ((Y.heap[w.heap.size]? = some (.cells #[.slice A1 ns c1, .slice A2 nr c2] 25) ∧ Y.heap[w.heap.size + 1]? = some (.cells #[.slice D1 nn e1, .slice D2 nl e2] 53)) ∧ (MxV Y (.agg #[.slice A1 ns c1, .slice A2 nr c2]) m ∧ KyV Y (.agg #[.slice D1 nn e1, .slice D2 nl e2]) k ∧ InSl Y Y.heap.size (.slice S1 wl.length sc1) wl ∧ TabH Y)) from fun Y h => ⟨⟨(h.block _ (Array.getElem?_eq_some_iff.1 HBx.out).1).trans HBx.out, (h.block _ (Array.getElem?_eq_some_iff.1 HKx.out).1).trans HKx.out⟩, HM.out.step h, HKy.out.step h, H1.out.step h, HT.out.step h⟩)
    have HBt := Lib.hid (fun Y (h : Below w17.heap.size w17 Y) => show Calls Tryd.prog 51 #[.slice S1 wl.length sc1] Y fun e w' => (∃ r, e = .returned r ∧ Fr Y.heap.size w' r bl) ∧ Below Y.heap.size Y w' from by
      have h2 := lbits_any _ wl Y (HO.out Y h).2.2.2.1 (by have := HWl.out; omega)
      rw [HBl.out.1] at h2
      exact h2)
    have HFt := Lib.hid (fun v Y (h : Below w17.heap.size w17 Y) (hv : InSl Y Y.heap.size v bl) => show Calls Tryd.prog 26 #[.agg #[.slice A1 ns c1, .slice A2 nr c2], .int .i64 wn, v] Y fun e w' => e = .returned (.tuple #[.bool true, .int .i64 0]) ∧ Below Y.heap.size Y w' from by
      have h2 := Fits_any _ v m wn bl Y (HO.out Y h).2.1 HSm.out hv (by have := HBl.out.2; omega)
      rw [HLw.out.2.2.1, HLw.out.2.1] at h2
      exact h2)
    have HFo := Lib.hid (fun v Y (h : Below w17.heap.size w17 Y) (hv : InSl Y Y.heap.size v bl) => show Calls Tryd.prog 41 #[.agg #[.slice A1 ns c1, .slice A2 nr c2], .agg #[.slice D1 nn e1, .slice D2 nl e2], v] Y fun e w' => (∃ u, e = .returned (.tuple #[u, .int .i64 0]) ∧ InSl w' w'.heap.size u fl) ∧ Below Y.heap.size Y w' from by
      have h2 := Follow_any _ _ v m k bl Y (HO.out Y h).2.1 HSm.out (HO.out Y h).2.2.1 HKm.out hv (by have := HBl.out.2; omega) (HO.out Y h).2.2.2.2
      rw [HLw.out.2.2.2.1, HFl.out.1] at h2
      refine h2.mono ?_
      rintro e w' ⟨⟨u, rfl, h3⟩, h4⟩
      exact ⟨⟨u, rfl, h3.1⟩, h4⟩)
    have HHs := Lib.hid (fun v Y (hv : InSl Y Y.heap.size v fl) => show Calls Tryd.prog 52 #[v, .int .i64 wn] Y fun e w' => e = .returned (.bool false) ∧ Y = w' from by
      have h2 := lhas_any v wn fl Y hv HFl.out.2
      rw [HLw.out.2.2.2.2] at h2
      exact h2)
    generalize wl.length = nwl at *
    have hkk := And.intro (cells_two HBx.out) (cells_two HKx.out)
    obtain ⟨⟨k0, k1⟩, j0, j1⟩ := hkk
    go_wp2_with fail
    clear k0 k1 j0 j1
    have HBd := Lib.hid (fun X (hI : Below w17.drew.heap.size w17.drew X) => ((Below.refl w17.heap.size w17).drew.trans hI))
    refine wp_opaque ?_
    intro t0 ht0
    have hsz0 : t0.size = 143 := by rw [ht0]; rfl
    have q3 : t0.getD 3 undef = .pointer (some ⟨w.heap.size, 0, none⟩) := by rw [ht0]; rfl
    have q10 : t0.getD 10 undef = .int .i64 wn := by rw [ht0]; rfl
    have q11 : t0.getD 11 undef = .slice S1 nwl sc1 := by rw [ht0]; rfl
    have HT0 := Lib.hid ht0
    clear ht0
    refine wp_region_vals [some 81, some 82, some 83, some 84, some 85, some 80, some 86, some 87, some 13, some 14] (PrI w17.drew (.agg #[.slice A1 ns c1, .slice A2 nr c2]) (.slice S1 nwl sc1) wn bl) (by kernel_rfl) (by kernel_rfl) rfl rfl (by simp [hsz0]) (by kernel_rfl) ?_ ?_ ?_
    · intro val
      exact ⟨Below.refl _ _, (fun h => nomatch h), (fun h => nomatch h), (fun h => nomatch h), (fun h => nomatch h), (fun h => nomatch h), (fun h => nomatch h), (fun h => nomatch h), (fun h => nomatch h), (fun h => nomatch h), (fun h => nomatch h)⟩
    · intro dn q o hi hd hp hc val X a ha hn' hI K hK
      have hq : q < 10 := by
        have := (Array.getElem?_eq_some_iff.1 hi).1
        simpa using this
      have hB := HBd.out X hI.bel
      rcases (show q = 0 ∨ q = 1 ∨ q = 2 ∨ q = 3 ∨ q = 4 ∨ q = 5 ∨ q = 6 ∨ q = 7 ∨ q = 8 ∨ q = 9 by omega) with rfl | rfl | rfl | rfl | rfl | rfl | rfl | rfl | rfl | rfl
      · obtain rfl := Option.some.inj hi
        exact opLdMx 3 _ _ _ rfl ((ha 3).trans q3) (HO.out X hB).1.1 (hK _ _ hI.op0)
      · obtain rfl := Option.some.inj hi
        exact opMove 10 _ rfl ((ha 10).trans q10) (hK _ _ hI.op1)
      · obtain rfl := Option.some.inj hi
        exact opMove 11 _ rfl ((ha 11).trans q11) (hK _ _ hI.op2)
      · obtain rfl := Option.some.inj hi
        have y2 := hI.s2 (hp ⟨2, .data⟩ (by simp) rfl)
        refine opCall1 51 _ 83 _ _ rfl ((ha 83).trans y2) (by go_simp) (HBt.out X hB) ?_
        rintro e Y ⟨⟨r, rfl, hF⟩, hb⟩
        exact ⟨r, rfl, hK _ _ (hI.op3 hF.1 hb)⟩
      · obtain rfl := Option.some.inj hi
        have y0 := hI.s0 (hp ⟨0, .data⟩ (by simp) rfl)
        have y1 := hI.s1 (hp ⟨1, .data⟩ (by simp) rfl)
        have y3 := hI.s3 (hp ⟨3, .data⟩ (by simp) rfl)
        refine opCall3 26 _ 81 82 84 _ _ _ _ rfl ((ha 81).trans y0) ((ha 82).trans y1) (ha 84) (by go_simp) (HFt.out _ X hB y3) ?_
        rintro e Y ⟨rfl, hb⟩
        exact ⟨_, rfl, hK _ _ (hI.op4 hb)⟩
      · obtain rfl := Option.some.inj hi
        have y4 := hI.s4 (hp ⟨4, .data⟩ (by simp) rfl)
        exact opMove 85 _ rfl ((ha 85).trans y4) (hK _ _ hI.op5)
      · obtain rfl := Option.some.inj hi
        have y5 := hI.s5 (hp ⟨5, .data⟩ (by simp) rfl)
        exact opExt0 80 _ _ rfl ((ha 80).trans y5) (hK _ _ hI.op6)
      · obtain rfl := Option.some.inj hi
        have y5 := hI.s5 (hp ⟨5, .data⟩ (by simp) rfl)
        exact opExt1 80 _ _ rfl ((ha 80).trans y5) (hK _ _ hI.op7)
      · obtain rfl := Option.some.inj hi
        have y6 := hI.s6 (hp ⟨6, .data⟩ (by simp) rfl)
        exact opAssign 86 _ rfl ((ha 86).trans y6) (hK _ _ hI.op8)
      · obtain rfl := Option.some.inj hi
        have y7 := hI.s7 (hp ⟨7, .data⟩ (by simp) rfl)
        exact opAssign 87 _ rfl ((ha 87).trans y7) (hK _ _ hI.op9)
    · intro dn val X hdn hI
      have HBr := Lib.hid (HBd.out X hI.bel)
      have h0 := hI.s0 (hdn 0 (by simp))
      have h1 := hI.s1 (hdn 1 (by simp))
      have h2 := hI.s2 (hdn 2 (by simp))
      have h3 := hI.s3 (hdn 3 (by simp))
      have h4 := hI.s4 (hdn 4 (by simp))
      have h5 := hI.s5 (hdn 5 (by simp))
      have h6 := hI.s6 (hdn 6 (by simp))
      have h7 := hI.s7 (hdn 7 (by simp))
      have h8 := hI.s8 (hdn 8 (by simp))
      have h9 := hI.s9 (hdn 9 (by simp))
      simp only [wrS, HT0.out]
      simp only [List.setIfInBounds_toArray, List.set_cons_succ, List.set_cons_zero]
      rw [h0, h1, h2, h4, h5, h6, h7, h8, h9]
      (try simp only [Exit.then])
      clear hdn HT0 hsz0 q3 q10 q11
      have HBa := Lib.hid HBr.out
      clear h0 h1 h2 h3 h4 h5 h6 h7 h8 h9 hI HBr HBd
      go_wp2_with fail
      have HBd := Lib.hid (fun Z (hI : Below X.drew.heap.size X.drew Z) => HBa.out.trans (((Below.refl X.heap.size X).drew.trans hI).mono HBa.out.size))
      refine wp_opaque ?_
      intro t0 ht0
      have hsz0 : t0.size = 143 := by rw [ht0]; rfl
      have q3 : t0.getD 3 undef = .pointer (some ⟨w.heap.size, 0, none⟩) := by rw [ht0]; rfl
      have q4 : t0.getD 4 undef = .pointer (some ⟨w.heap.size + 1, 0, none⟩) := by rw [ht0]; rfl
      have q11 : t0.getD 11 undef = .slice S1 nwl sc1 := by rw [ht0]; rfl
      have HT0 := Lib.hid ht0
      clear ht0
      refine wp_region_vals [some 89, some 90, some 91, some 92, some 93, some 88, some 94, some 95, some 15, some 16] (PrJ X.drew (.agg #[.slice A1 ns c1, .slice A2 nr c2]) (.agg #[.slice D1 nn e1, .slice D2 nl e2]) (.slice S1 nwl sc1) bl fl) (by kernel_rfl) (by kernel_rfl) rfl rfl (by simp [hsz0]) (by kernel_rfl) ?_ ?_ ?_
      · intro val
        exact ⟨Below.refl _ _, (fun h => nomatch h), (fun h => nomatch h), (fun h => nomatch h), (fun h => nomatch h), (fun h => nomatch h), (fun h => nomatch h), (fun h => nomatch h), (fun h => nomatch h), (fun h => nomatch h), (fun h => nomatch h)⟩
      · intro dn q o hi hd hp hc val X a ha hn' hI K hK
        have hq : q < 10 := by
          have := (Array.getElem?_eq_some_iff.1 hi).1
          simpa using this
        have hB := HBd.out X hI.bel
        rcases (show q = 0 ∨ q = 1 ∨ q = 2 ∨ q = 3 ∨ q = 4 ∨ q = 5 ∨ q = 6 ∨ q = 7 ∨ q = 8 ∨ q = 9 by omega) with rfl | rfl | rfl | rfl | rfl | rfl | rfl | rfl | rfl | rfl
        · obtain rfl := Option.some.inj hi
          exact opLdMx 3 _ _ _ rfl ((ha 3).trans q3) (HO.out X hB).1.1 (hK _ _ hI.op0)
        · obtain rfl := Option.some.inj hi
          exact opLdKey 4 _ _ _ rfl ((ha 4).trans q4) (HO.out X hB).1.2 (hK _ _ hI.op1)
        · obtain rfl := Option.some.inj hi
          exact opMove 11 _ rfl ((ha 11).trans q11) (hK _ _ hI.op2)
        · obtain rfl := Option.some.inj hi
          have y2 := hI.s2 (hp ⟨2, .data⟩ (by simp) rfl)
          refine opCall1 51 _ 91 _ _ rfl ((ha 91).trans y2) (by go_simp) (HBt.out X hB) ?_
          rintro e Y ⟨⟨r, rfl, hF⟩, hb⟩
          exact ⟨r, rfl, hK _ _ (hI.op3 hF.1 hb)⟩
        · obtain rfl := Option.some.inj hi
          have y0 := hI.s0 (hp ⟨0, .data⟩ (by simp) rfl)
          have y1 := hI.s1 (hp ⟨1, .data⟩ (by simp) rfl)
          have y3 := hI.s3 (hp ⟨3, .data⟩ (by simp) rfl)
          refine opCall3 41 _ 89 90 92 _ _ _ _ rfl ((ha 89).trans y0) ((ha 90).trans y1) (ha 92) (by go_simp) (HFo.out _ X hB y3) ?_
          rintro e Y ⟨⟨r, rfl, hF⟩, hb⟩
          exact ⟨_, rfl, hK _ _ (hI.op4 ⟨r, rfl, hF⟩ hb)⟩
        · obtain rfl := Option.some.inj hi
          have y4 := hI.s4 (hp ⟨4, .data⟩ (by simp) rfl)
          obtain ⟨r, e, h⟩ := y4
          exact opMove 93 _ rfl ((ha 93).trans e) (hK _ _ (hI.op5 ⟨r, rfl, h⟩))
        · obtain rfl := Option.some.inj hi
          have y5 := hI.s5 (hp ⟨5, .data⟩ (by simp) rfl)
          obtain ⟨r, e, h⟩ := y5
          exact opExt0 88 _ _ rfl ((ha 88).trans e) (hK _ _ (hI.op6 h))
        · obtain rfl := Option.some.inj hi
          have y5 := hI.s5 (hp ⟨5, .data⟩ (by simp) rfl)
          obtain ⟨r, e, h⟩ := y5
          exact opExt1 88 _ _ rfl ((ha 88).trans e) (hK _ _ hI.op7)
        · obtain rfl := Option.some.inj hi
          have y6 := hI.s6 (hp ⟨6, .data⟩ (by simp) rfl)
          exact opAssign 94 _ rfl (ha 94) (hK _ _ (hI.op8 y6))
        · obtain rfl := Option.some.inj hi
          have y7 := hI.s7 (hp ⟨7, .data⟩ (by simp) rfl)
          exact opAssign 95 _ rfl ((ha 95).trans y7) (hK _ _ hI.op9)
      · intro dn val X hdn hI
        have HBr := Lib.hid (HBd.out X hI.bel)
        have h0 := hI.s0 (hdn 0 (by simp))
        have h1 := hI.s1 (hdn 1 (by simp))
        have h2 := hI.s2 (hdn 2 (by simp))
        have h3 := hI.s3 (hdn 3 (by simp))
        have h4 := hI.s4 (hdn 4 (by simp))
        have h5 := hI.s5 (hdn 5 (by simp))
        have h6 := hI.s6 (hdn 6 (by simp))
        have h7 := hI.s7 (hdn 7 (by simp))
        have h8 := hI.s8 (hdn 8 (by simp))
        have h9 := hI.s9 (hdn 9 (by simp))
        simp only [wrS, HT0.out]
        simp only [List.setIfInBounds_toArray, List.set_cons_succ, List.set_cons_zero]
        rw [h0, h1, h2, h7, h9]
        (try simp only [Exit.then])
        clear hdn HT0 hsz0 q3 q4 q11
        have HBb := Lib.hid HBr.out
        have HH := Lib.hid (HHs.out _ X h8)
        clear h0 h1 h2 h3 h4 h5 h6 h7 h8 h9 hI HBr HBd
        generalize val 8 = vv at *
        go_wp2_with fail
        (with_reducible refine HH.out.mono ?_)
        rintro e wz ⟨rfl, rfl⟩
        go_wp2_with fail
        refine bodyPost_ret (v := .bool true) (by simp [results, Tryd.results11, go_sem]) rfl ?_
        exact And.intro rfl (HB.out.trans (HBb.out.mono HB.out.size))
end Go.Proofs.YthfegbcbpeedbaaDoor
