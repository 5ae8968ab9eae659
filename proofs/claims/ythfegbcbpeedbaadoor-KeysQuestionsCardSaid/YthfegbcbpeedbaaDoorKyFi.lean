/- KeysFitting: the law. -/
import Derived.Test.YthfegbcbpeedbaaDoorKyAs
import Derived.Test.YthfegbcbpeedbaaDoorKyFm
import Derived.Test.YthfegbcbpeedbaaDoorKyRg
import Derived.Test.YthfegbcbpeedbaaDoorKyAa
namespace Go.Ky
open Go.Nm
theorem rem_len (m : Mx) (l : List Int) : (remO m l).length ≤ m.rows.length := by
  unfold remO
  split
  · rw [List.length_map]
    exact List.length_filter_le _ _
  · simp
theorem bits_len (L : List Int) : (bitsF L).length ≤ L.length := by
  unfold bitsF
  split
  · rw [List.length_map]; omega
  · simp
theorem both_len' (m : Mx) (a b : List Int) : (bothL m a b).length ≤ a.length := by
  unfold bothL
  split
  · rw [List.length_zipWith]; omega
  · simp
theorem both_cases (m : Mx) (a b : List Int) : bothE m a b = 0 ∨ bothE m a b = 3 ∨ bothE m a b = 30 ∨ bothE m a b = 32 := by
  unfold bothE
  rcases seen_cases m [a, b] with h | h | h
  · rw [if_pos h]
    split
    · exact .inl rfl
    · exact .inr (.inl rfl)
  · rw [if_neg (by omega), h]; omega
  · rw [if_neg (by omega), h]; omega
theorem fit_round {m : Mx} (h : mxF m = true) {l : List Int} (hl : seenE m [l] = 0) {r : Rw} (hr : r ∈ m.rows) : fitE m r.nm l = 0 ∧ fitB m r.nm l = hasF (remO m l) r.nm ∧ sameE m r.nm r.nm = 0 ∧ seenE m [bitsF (sameL m r.nm r.nm)] = 0 ∧ hasF (remO m (bitsF (sameL m r.nm r.nm))) r.nm = true ∧ (sameL m r.nm r.nm).length = m.st.length := by
  obtain ⟨h1, h2⟩ := fit_of h hl hr
  obtain ⟨h3, h4, h5, h6⟩ := same_self h hr
  exact ⟨h1, h2.trans (has_rem h hl hr).symm, h3, h4, (has_rem h h4 hr).trans h5, h6⟩
end Go.Ky
namespace Go.Proofs.YthfegbcbpeedbaaDoor
open Go.RowKit Go.Nm Go.Ky
structure FiJ (V : World) (mv : Value) (ad : Addr) (nr sc3 i : Nat) (x : Int) (sl : List Int) (dn : Nat → Bool) (val : Nat → Value) (X : World) : Prop where
  bel : Below V.heap.size V X
  s0 : dn 0 = true → val 0 = mv
  s1 : dn 1 = true → val 1 = .slice (some ad) nr sc3
  s2 : dn 2 = true → val 2 = .int .i64 (i : Int)
  s3 : dn 3 = true → val 3 = .pointer (some (ad.add i))
  s4 : dn 4 = true → val 4 = .int .i64 x
  s5 : dn 5 = true → val 5 = .slice (some ad) nr sc3
  s6 : dn 6 = true → val 6 = .int .i64 (i : Int)
  s7 : dn 7 = true → val 7 = .pointer (some (ad.add i))
  s8 : dn 8 = true → val 8 = .int .i64 x
  s9 : dn 9 = true → ∃ r, (val 9) = .tuple #[r, .int .i64 0] ∧ InSl X X.heap.size r sl
  s10 : dn 10 = true → ∃ r, (val 10) = .tuple #[r, .int .i64 0] ∧ InSl X X.heap.size r sl
  s11 : dn 11 = true → InSl X X.heap.size (val 11) sl
  s12 : dn 12 = true → val 12 = .int .i64 0
  s13 : dn 13 = true → InSl X X.heap.size (val 13) sl
  s14 : dn 14 = true → val 14 = .int .i64 0
section
variable {V : World} {mv : Value} {ad : Addr} {nr sc3 i : Nat} {x : Int} {sl : List Int} {dn : Nat → Bool} {val : Nat → Value} {X Y : World}
theorem FiJ.op0 (h : FiJ V mv ad nr sc3 i x sl dn val X) : FiJ V mv ad nr sc3 i x sl (andB dn 0) (updV val 0 (mv)) X :=
  ⟨h.bel, (fun _ => rfl), h.s1, h.s2, h.s3, h.s4, h.s5, h.s6, h.s7, h.s8, h.s9, h.s10, h.s11, h.s12, h.s13, h.s14⟩
theorem FiJ.op1 (h : FiJ V mv ad nr sc3 i x sl dn val X) : FiJ V mv ad nr sc3 i x sl (andB dn 1) (updV val 1 (.slice (some ad) nr sc3)) X :=
  ⟨h.bel, h.s0, (fun _ => rfl), h.s2, h.s3, h.s4, h.s5, h.s6, h.s7, h.s8, h.s9, h.s10, h.s11, h.s12, h.s13, h.s14⟩
theorem FiJ.op2 (h : FiJ V mv ad nr sc3 i x sl dn val X) : FiJ V mv ad nr sc3 i x sl (andB dn 2) (updV val 2 (.int .i64 (i : Int))) X :=
  ⟨h.bel, h.s0, h.s1, (fun _ => rfl), h.s3, h.s4, h.s5, h.s6, h.s7, h.s8, h.s9, h.s10, h.s11, h.s12, h.s13, h.s14⟩
theorem FiJ.op3 (h : FiJ V mv ad nr sc3 i x sl dn val X) : FiJ V mv ad nr sc3 i x sl (andB dn 3) (updV val 3 (.pointer (some (ad.add i)))) X :=
  ⟨h.bel, h.s0, h.s1, h.s2, (fun _ => rfl), h.s4, h.s5, h.s6, h.s7, h.s8, h.s9, h.s10, h.s11, h.s12, h.s13, h.s14⟩
theorem FiJ.op4 (h : FiJ V mv ad nr sc3 i x sl dn val X) : FiJ V mv ad nr sc3 i x sl (andB dn 4) (updV val 4 (.int .i64 x)) X :=
  ⟨h.bel, h.s0, h.s1, h.s2, h.s3, (fun _ => rfl), h.s5, h.s6, h.s7, h.s8, h.s9, h.s10, h.s11, h.s12, h.s13, h.s14⟩
theorem FiJ.op5 (h : FiJ V mv ad nr sc3 i x sl dn val X) : FiJ V mv ad nr sc3 i x sl (andB dn 5) (updV val 5 (.slice (some ad) nr sc3)) X :=
  ⟨h.bel, h.s0, h.s1, h.s2, h.s3, h.s4, (fun _ => rfl), h.s6, h.s7, h.s8, h.s9, h.s10, h.s11, h.s12, h.s13, h.s14⟩
theorem FiJ.op6 (h : FiJ V mv ad nr sc3 i x sl dn val X) : FiJ V mv ad nr sc3 i x sl (andB dn 6) (updV val 6 (.int .i64 (i : Int))) X :=
  ⟨h.bel, h.s0, h.s1, h.s2, h.s3, h.s4, h.s5, (fun _ => rfl), h.s7, h.s8, h.s9, h.s10, h.s11, h.s12, h.s13, h.s14⟩
theorem FiJ.op7 (h : FiJ V mv ad nr sc3 i x sl dn val X) : FiJ V mv ad nr sc3 i x sl (andB dn 7) (updV val 7 (.pointer (some (ad.add i)))) X :=
  ⟨h.bel, h.s0, h.s1, h.s2, h.s3, h.s4, h.s5, h.s6, (fun _ => rfl), h.s8, h.s9, h.s10, h.s11, h.s12, h.s13, h.s14⟩
theorem FiJ.op8 (h : FiJ V mv ad nr sc3 i x sl dn val X) : FiJ V mv ad nr sc3 i x sl (andB dn 8) (updV val 8 (.int .i64 x)) X :=
  ⟨h.bel, h.s0, h.s1, h.s2, h.s3, h.s4, h.s5, h.s6, h.s7, (fun _ => rfl), h.s9, h.s10, h.s11, h.s12, h.s13, h.s14⟩
theorem FiJ.op9 (h : FiJ V mv ad nr sc3 i x sl dn val X) {v : Value} (hv : ∃ r, v = .tuple #[r, .int .i64 0] ∧ InSl Y Y.heap.size r sl) (hb : Below X.heap.size X Y) : FiJ V mv ad nr sc3 i x sl (andB dn 9) (updV val 9 (v)) Y :=
  ⟨h.bel.trans (hb.mono h.bel.size), h.s0, h.s1, h.s2, h.s3, h.s4, h.s5, h.s6, h.s7, h.s8, (fun _ => hv), (fun d => (by obtain ⟨r, e, h⟩ := (h.s10 d); exact ⟨r, e, h.step hb⟩)), (fun d => (h.s11 d).step hb), h.s12, (fun d => (h.s13 d).step hb), h.s14⟩
theorem FiJ.op10 (h : FiJ V mv ad nr sc3 i x sl dn val X) {v : Value} (hv : ∃ r, v = .tuple #[r, .int .i64 0] ∧ InSl X X.heap.size r sl) : FiJ V mv ad nr sc3 i x sl (andB dn 10) (updV val 10 v) X :=
  ⟨h.bel, h.s0, h.s1, h.s2, h.s3, h.s4, h.s5, h.s6, h.s7, h.s8, h.s9, (fun _ => hv), h.s11, h.s12, h.s13, h.s14⟩
theorem FiJ.op11 (h : FiJ V mv ad nr sc3 i x sl dn val X) {v : Value} (hv : InSl X X.heap.size v sl) : FiJ V mv ad nr sc3 i x sl (andB dn 11) (updV val 11 v) X :=
  ⟨h.bel, h.s0, h.s1, h.s2, h.s3, h.s4, h.s5, h.s6, h.s7, h.s8, h.s9, h.s10, (fun _ => hv), h.s12, h.s13, h.s14⟩
theorem FiJ.op12 (h : FiJ V mv ad nr sc3 i x sl dn val X) : FiJ V mv ad nr sc3 i x sl (andB dn 12) (updV val 12 (.int .i64 0)) X :=
  ⟨h.bel, h.s0, h.s1, h.s2, h.s3, h.s4, h.s5, h.s6, h.s7, h.s8, h.s9, h.s10, h.s11, (fun _ => rfl), h.s13, h.s14⟩
theorem FiJ.op13 (h : FiJ V mv ad nr sc3 i x sl dn val X) {v : Value} (hv : InSl X X.heap.size v sl) : FiJ V mv ad nr sc3 i x sl (andB dn 13) (updV val 13 v) X :=
  ⟨h.bel, h.s0, h.s1, h.s2, h.s3, h.s4, h.s5, h.s6, h.s7, h.s8, h.s9, h.s10, h.s11, h.s12, (fun _ => hv), h.s14⟩
theorem FiJ.op14 (h : FiJ V mv ad nr sc3 i x sl dn val X) : FiJ V mv ad nr sc3 i x sl (andB dn 14) (updV val 14 (.int .i64 0)) X :=
  ⟨h.bel, h.s0, h.s1, h.s2, h.s3, h.s4, h.s5, h.s6, h.s7, h.s8, h.s9, h.s10, h.s11, h.s12, h.s13, (fun _ => rfl)⟩
end
structure FiI (V : World) (mv sv : Value) (bl ow : List Int) (dn : Nat → Bool) (val : Nat → Value) (X : World) : Prop where
  bel : Below V.heap.size V X
  s0 : dn 0 = true → val 0 = mv
  s1 : dn 1 = true → val 1 = sv
  s2 : dn 2 = true → InSl X X.heap.size (val 2) bl
  s3 : dn 3 = true → ∃ r, (val 3) = .tuple #[r, .int .i64 0] ∧ InSl X X.heap.size r ow
  s4 : dn 4 = true → ∃ r, (val 4) = .tuple #[r, .int .i64 0] ∧ InSl X X.heap.size r ow
  s5 : dn 5 = true → InSl X X.heap.size (val 5) ow
  s6 : dn 6 = true → val 6 = .int .i64 0
  s7 : dn 7 = true → InSl X X.heap.size (val 7) ow
  s8 : dn 8 = true → val 8 = .int .i64 0
section
variable {V : World} {mv sv : Value} {bl ow : List Int} {dn : Nat → Bool} {val : Nat → Value} {X Y : World}
theorem FiI.op0 (h : FiI V mv sv bl ow dn val X) : FiI V mv sv bl ow (andB dn 0) (updV val 0 (mv)) X :=
  ⟨h.bel, (fun _ => rfl), h.s1, h.s2, h.s3, h.s4, h.s5, h.s6, h.s7, h.s8⟩
theorem FiI.op1 (h : FiI V mv sv bl ow dn val X) : FiI V mv sv bl ow (andB dn 1) (updV val 1 (sv)) X :=
  ⟨h.bel, h.s0, (fun _ => rfl), h.s2, h.s3, h.s4, h.s5, h.s6, h.s7, h.s8⟩
theorem FiI.op2 (h : FiI V mv sv bl ow dn val X) {v : Value} (hv : InSl Y Y.heap.size v bl) (hb : Below X.heap.size X Y) : FiI V mv sv bl ow (andB dn 2) (updV val 2 (v)) Y :=
  ⟨h.bel.trans (hb.mono h.bel.size), h.s0, h.s1, (fun _ => hv), (fun d => (by obtain ⟨r, e, h⟩ := (h.s3 d); exact ⟨r, e, h.step hb⟩)), (fun d => (by obtain ⟨r, e, h⟩ := (h.s4 d); exact ⟨r, e, h.step hb⟩)), (fun d => (h.s5 d).step hb), h.s6, (fun d => (h.s7 d).step hb), h.s8⟩
theorem FiI.op3 (h : FiI V mv sv bl ow dn val X) {v : Value} (hv : ∃ r, v = .tuple #[r, .int .i64 0] ∧ InSl Y Y.heap.size r ow) (hb : Below X.heap.size X Y) : FiI V mv sv bl ow (andB dn 3) (updV val 3 (v)) Y :=
  ⟨h.bel.trans (hb.mono h.bel.size), h.s0, h.s1, (fun d => (h.s2 d).step hb), (fun _ => hv), (fun d => (by obtain ⟨r, e, h⟩ := (h.s4 d); exact ⟨r, e, h.step hb⟩)), (fun d => (h.s5 d).step hb), h.s6, (fun d => (h.s7 d).step hb), h.s8⟩
theorem FiI.op4 (h : FiI V mv sv bl ow dn val X) {v : Value} (hv : ∃ r, v = .tuple #[r, .int .i64 0] ∧ InSl X X.heap.size r ow) : FiI V mv sv bl ow (andB dn 4) (updV val 4 v) X :=
  ⟨h.bel, h.s0, h.s1, h.s2, h.s3, (fun _ => hv), h.s5, h.s6, h.s7, h.s8⟩
theorem FiI.op5 (h : FiI V mv sv bl ow dn val X) {v : Value} (hv : InSl X X.heap.size v ow) : FiI V mv sv bl ow (andB dn 5) (updV val 5 v) X :=
  ⟨h.bel, h.s0, h.s1, h.s2, h.s3, h.s4, (fun _ => hv), h.s6, h.s7, h.s8⟩
theorem FiI.op6 (h : FiI V mv sv bl ow dn val X) : FiI V mv sv bl ow (andB dn 6) (updV val 6 (.int .i64 0)) X :=
  ⟨h.bel, h.s0, h.s1, h.s2, h.s3, h.s4, h.s5, (fun _ => rfl), h.s7, h.s8⟩
theorem FiI.op7 (h : FiI V mv sv bl ow dn val X) {v : Value} (hv : InSl X X.heap.size v ow) : FiI V mv sv bl ow (andB dn 7) (updV val 7 v) X :=
  ⟨h.bel, h.s0, h.s1, h.s2, h.s3, h.s4, h.s5, h.s6, (fun _ => hv), h.s8⟩
theorem FiI.op8 (h : FiI V mv sv bl ow dn val X) : FiI V mv sv bl ow (andB dn 8) (updV val 8 (.int .i64 0)) X :=
  ⟨h.bel, h.s0, h.s1, h.s2, h.s3, h.s4, h.s5, h.s6, h.s7, (fun _ => rfl)⟩
end
end Go.Proofs.YthfegbcbpeedbaaDoor
namespace Go.Proofs.YthfegbcbpeedbaaDoor
open Go.RowKit Go.Nm Go.Ky

set_option maxRecDepth 100000 in
set_option maxHeartbeats 16000000 in
theorem KeysFitting_any (v u : Value) (m : Mx) (l1 l2 l3 : List Int) (a b c : Int) (w : World) (hv : MxV w v m) (hu : AskV w u l1 l2 l3 a b c) (hT : TabH w) :
    Calls Tryd.prog 7 #[v, u] w fun e w' => e = .returned (.bool true) ∧ Below w.heap.size w w' := by
  obtain ⟨A1, c1, A2, c2, W0, rfl, hW0, hb0, hM, hS, hR, hX⟩ := mx_box hv
  have hz : W0.heap.size = w.heap.size + 1 := by rw [← hW0]; simp
  have hn0 : W0.heap[w.heap.size]? = some (.cells #[.slice A1 m.st.length c1, .slice A2 m.rows.length c2] 25) := by rw [← hW0]; exact World.alloc_heap_new w _
  obtain ⟨B1, d1, B2, d2, B3, d3, W1, rfl, hW1, hb1, hI1, hI2, hI3, hn1⟩ := ask_box (hu.step hb0)
  rw [hz] at hn1
  have HW := Lib.hid (And.intro hW0 hW1)
  have HB := Lib.hid (hb0.trans (hb1.mono hb0.size))
  have HT := Lib.hid ((hT.step hb0).step hb1)
  have HM := Lib.hid (hM W1 hb1)
  have HBx := Lib.hid ((hb1.block _ (by omega)).trans hn0)
  have HAx := Lib.hid hn1
  have HI := Lib.hid hI1
  have HJ := Lib.hid hI2
  obtain ⟨ns, hns⟩ : ∃ n, m.st.length = n := ⟨_, rfl⟩
  obtain ⟨nr, hnr⟩ : ∃ n, m.rows.length = n := ⟨_, rfl⟩
  obtain ⟨n1, hn1'⟩ : ∃ n, l1.length = n := ⟨_, rfl⟩
  obtain ⟨n2, hn2'⟩ : ∃ n, l2.length = n := ⟨_, rfl⟩
  obtain ⟨n3, hn3'⟩ : ∃ n, l3.length = n := ⟨_, rfl⟩
  rw [hns, hnr] at HW HM HBx
  rw [hn1', hn2', hn3'] at HW HAx
  rw [hn1'] at HI
  rw [hn2'] at HJ
  rw [hns, hnr, hn1', hn2', hn3']
  have HNs := Lib.hid (And.intro hns hnr)
  have HN1 := Lib.hid hn1'
  have HN2 := Lib.hid hn2'
  have HN3 := Lib.hid hn3'
  obtain ⟨k0, k1⟩ := cells_two HBx.out
  obtain ⟨a0, a1, a2, a3, a4, a5⟩ := cells_six HAx.out
  clear hv hu hT hW0 hb0 hM hS hR hX hz hn0 hW1 hb1 hI1 hI2 hI3 hn1 hns hnr hn1' hn2' hn3'
  go_enter Tryd.func7, Tryd.ntmps7
  go_wp2_with fail
  rw [HW.out.1, HW.out.2]
  (try go_wp2_with fail)
  (with_reducible refine (awake_any _ HT.out).mono ?_)
  rintro e w1 ⟨rfl, hb⟩
  replace HB := Lib.hid (HB.out.trans (hb.mono HB.out.size))
  replace HT := Lib.hid (HT.out.step hb)
  replace HM := Lib.hid (HM.out.step hb)
  replace HBx := Lib.hid ((hb.block _ (Array.getElem?_eq_some_iff.1 HBx.out).1).trans HBx.out)
  replace HAx := Lib.hid ((hb.block _ (Array.getElem?_eq_some_iff.1 HAx.out).1).trans HAx.out)
  replace HI := Lib.hid (HI.out.step hb)
  replace HJ := Lib.hid (HJ.out.step hb)
  clear hb
  clear k0 k1 a0 a1 a2 a3 a4 a5
  obtain ⟨k0, k1⟩ := cells_two HBx.out
  obtain ⟨a0, a1, a2, a3, a4, a5⟩ := cells_six HAx.out
  have HFw := Lib.hid (few_any _ m w1 HM.out)
  cases hfw : fewF m with
  | false =>
    rw [hfw] at HFw
    clear hfw
    go_wp2_with fail
    (with_reducible refine HFw.out.mono ?_)
    rintro e w2 ⟨rfl, hb⟩
    replace HB := Lib.hid (HB.out.trans (hb.mono HB.out.size))
    clear hb
    go_wp2_with fail
    go_ret
    exact ⟨rfl, HB.out⟩
  | true =>
  rw [hfw] at HFw
  have HSm := Lib.hid (few_sm hfw)
  have HFe := Lib.hid hfw
  clear hfw
  go_wp2_with fail
  (with_reducible refine HFw.out.mono ?_)
  rintro e w3 ⟨rfl, hb⟩
  replace HB := Lib.hid (HB.out.trans (hb.mono HB.out.size))
  replace HT := Lib.hid (HT.out.step hb)
  replace HM := Lib.hid (HM.out.step hb)
  replace HBx := Lib.hid ((hb.block _ (Array.getElem?_eq_some_iff.1 HBx.out).1).trans HBx.out)
  replace HAx := Lib.hid ((hb.block _ (Array.getElem?_eq_some_iff.1 HAx.out).1).trans HAx.out)
  replace HI := Lib.hid (HI.out.step hb)
  replace HJ := Lib.hid (HJ.out.step hb)
  clear HFw
  clear hb
  clear k0 k1 a0 a1 a2 a3 a4 a5
  obtain ⟨k0, k1⟩ := cells_two HBx.out
  obtain ⟨a0, a1, a2, a3, a4, a5⟩ := cells_six HAx.out
  have HLi := Lib.hid (light_any B1 B2 B3 n1 n2 n3 d1 d2 d3 a b c w3)
  cases hli : decide (n1 ≤ 100 ∧ n2 ≤ 100 ∧ n3 ≤ 100) with
  | false =>
    rw [hli] at HLi
    clear hli
    go_wp2_with fail
    (with_reducible refine HLi.out.mono ?_)
    rintro e w4 ⟨rfl, hb⟩
    replace HB := Lib.hid (HB.out.trans (hb.mono HB.out.size))
    clear hb
    go_wp2_with fail
    go_ret
    exact ⟨rfl, HB.out⟩
  | true =>
  rw [hli] at HLi
  have hl1 := of_decide_eq_true hli
  have HLen := Lib.hid (show l1.length ≤ 100 ∧ l2.length ≤ 100 ∧ l3.length ≤ 100 from by rw [HN1.out, HN2.out, HN3.out]; exact hl1)
  clear hli hl1
  go_wp2_with fail
  (with_reducible refine HLi.out.mono ?_)
  rintro e w5 ⟨rfl, hb⟩
  replace HB := Lib.hid (HB.out.trans (hb.mono HB.out.size))
  replace HT := Lib.hid (HT.out.step hb)
  replace HM := Lib.hid (HM.out.step hb)
  replace HBx := Lib.hid ((hb.block _ (Array.getElem?_eq_some_iff.1 HBx.out).1).trans HBx.out)
  replace HAx := Lib.hid ((hb.block _ (Array.getElem?_eq_some_iff.1 HAx.out).1).trans HAx.out)
  replace HI := Lib.hid (HI.out.step hb)
  replace HJ := Lib.hid (HJ.out.step hb)
  clear HLi
  clear hb
  clear k0 k1 a0 a1 a2 a3 a4 a5
  obtain ⟨k0, k1⟩ := cells_two HBx.out
  obtain ⟨a0, a1, a2, a3, a4, a5⟩ := cells_six HAx.out
  have HCs := Lib.hid (seen_cases m [l1])
  obtain ⟨se, hse⟩ : ∃ x, seenE m [l1] = x := ⟨_, rfl⟩
  obtain ⟨rl, hrl⟩ : ∃ x, remO m l1 = x := ⟨_, rfl⟩
  have HRs := Lib.hid (And.intro hse hrl)
  have HL5 := Lib.hid (show l1.length ≤ 1000000 ∧ l2.length ≤ 100000 ∧ l1.length ≤ 100000 ∧ rl.length ≤ 1000000 from ⟨by have := HLen.out; omega, by have := HLen.out; omega, by have := HLen.out; omega, by rw [← hrl]; have := rem_len m l1; have := HSm.out.2.1; omega⟩)
  rw [hse] at HCs
  clear hse hrl
  have HC := Lib.hid (Remain_any _ _ m l1 w5 HM.out HSm.out HI.out HL5.out.1)
  rw [HRs.out.1, HRs.out.2] at HC
  go_wp2_with fail
  (with_reducible refine HC.out.mono ?_)
  rintro e w6 ⟨⟨u1, rfl, hf, _⟩, hb⟩
  replace HB := Lib.hid (HB.out.trans (hb.mono HB.out.size))
  replace HT := Lib.hid (HT.out.step hb)
  replace HM := Lib.hid (HM.out.step hb)
  replace HBx := Lib.hid ((hb.block _ (Array.getElem?_eq_some_iff.1 HBx.out).1).trans HBx.out)
  replace HAx := Lib.hid ((hb.block _ (Array.getElem?_eq_some_iff.1 HAx.out).1).trans HAx.out)
  replace HI := Lib.hid (HI.out.step hb)
  replace HJ := Lib.hid (HJ.out.step hb)
  have H1 := Lib.hid hf
  clear hf HC
  clear hb
  clear k0 k1 a0 a1 a2 a3 a4 a5
  obtain ⟨k0, k1⟩ := cells_two HBx.out
  obtain ⟨a0, a1, a2, a3, a4, a5⟩ := cells_six HAx.out
  obtain ⟨S1, sc1, rfl, _⟩ := H1.out.form
  rcases HCs.out with h0 | h0 | h0
  rotate_left
  · subst h0
    have h0 : rl.length = 0 := by
      rw [← HRs.out.2]
      unfold remO
      rw [if_neg (by rw [HRs.out.1]; decide)]
      rfl
    rw [h0]
    clear h0 HCs
    go_wp2_with fail
    refine bodyPost_ret (v := .bool true) (by simp [results, Tryd.results7, go_sem]) rfl ?_
    exact And.intro rfl HB.out
  · subst h0
    have h0 : rl.length = 0 := by
      rw [← HRs.out.2]
      unfold remO
      rw [if_neg (by rw [HRs.out.1]; decide)]
      rfl
    rw [h0]
    clear h0 HCs
    go_wp2_with fail
    refine bodyPost_ret (v := .bool true) (by simp [results, Tryd.results7, go_sem]) rfl ?_
    exact And.intro rfl HB.out
  subst h0
  have hmx := (seen_ok HRs.out.1).1
  have HMx := Lib.hid hmx
  have hcm : cmE m = 0 := by unfold cmE; rw [if_pos hmx]
  obtain ⟨h1, h2, h3⟩ := open_all hmx
  obtain ⟨ol, hol⟩ : ∃ x, openF m = x := ⟨_, rfl⟩
  obtain ⟨al, hal⟩ : ∃ x, remO m (openF m) = x := ⟨_, rfl⟩
  have HRo := Lib.hid (And.intro hcm (And.intro hol (And.intro hal h2)))
  have HOl := Lib.hid (show ol.length ≤ 1000000 ∧ al.length = nr ∧ al.length ≤ 1000000 ∧ al = m.rows.map (·.nm) ∧ partF rl al = true from by
    have e1 : al = m.rows.map (·.nm) := hal.symm.trans h3
    have e2 : al.length = nr := by rw [e1, List.length_map]; exact HNs.out.2
    have e3 := HSm.out.2.1
    rw [HNs.out.2] at e3
    refine ⟨by rw [← hol, h1, List.length_map]; have := HSm.out.1; omega, e2, by omega, e1, ?_⟩
    rw [← HRs.out.2, e1]
    exact rem_sub HRs.out.1)
  clear hmx hcm h1 h2 h3 hol hal HCs
  have HC := Lib.hid (Open_any _ m w6 HM.out HSm.out)
  rw [HRo.out.1, HRo.out.2.1] at HC
  go_wp2_with fail
  (with_reducible refine HC.out.mono ?_)
  rintro e w7 ⟨⟨u2, rfl, hf, _⟩, hb⟩
  replace HB := Lib.hid (HB.out.trans (hb.mono HB.out.size))
  replace HT := Lib.hid (HT.out.step hb)
  replace HM := Lib.hid (HM.out.step hb)
  replace HBx := Lib.hid ((hb.block _ (Array.getElem?_eq_some_iff.1 HBx.out).1).trans HBx.out)
  replace HAx := Lib.hid ((hb.block _ (Array.getElem?_eq_some_iff.1 HAx.out).1).trans HAx.out)
  replace HI := Lib.hid (HI.out.step hb)
  replace HJ := Lib.hid (HJ.out.step hb)
  replace H1 := Lib.hid (H1.out.step hb)
  have H2 := Lib.hid hf
  clear hf HC
  clear hb
  clear k0 k1 a0 a1 a2 a3 a4 a5
  obtain ⟨k0, k1⟩ := cells_two HBx.out
  obtain ⟨a0, a1, a2, a3, a4, a5⟩ := cells_six HAx.out
  obtain ⟨S2, sc2, rfl, _⟩ := H2.out.form
  have HC := Lib.hid (Remain_any _ _ m ol w7 HM.out HSm.out H2.out HOl.out.1)
  rw [show seenE m [ol] = 0 from by rw [← HRo.out.2.1]; exact HRo.out.2.2.2, show remO m ol = al from by rw [← HRo.out.2.1]; exact HRo.out.2.2.1] at HC
  go_wp2_with fail
  (with_reducible refine HC.out.mono ?_)
  rintro e w8 ⟨⟨u3, rfl, hf, _⟩, hb⟩
  replace HB := Lib.hid (HB.out.trans (hb.mono HB.out.size))
  replace HT := Lib.hid (HT.out.step hb)
  replace HM := Lib.hid (HM.out.step hb)
  replace HBx := Lib.hid ((hb.block _ (Array.getElem?_eq_some_iff.1 HBx.out).1).trans HBx.out)
  replace HAx := Lib.hid ((hb.block _ (Array.getElem?_eq_some_iff.1 HAx.out).1).trans HAx.out)
  replace HI := Lib.hid (HI.out.step hb)
  replace HJ := Lib.hid (HJ.out.step hb)
  replace H1 := Lib.hid (H1.out.step hb)
  replace H2 := Lib.hid (H2.out.step hb)
  have H3 := Lib.hid hf
  clear hf HC H2
  clear hb
  clear k0 k1 a0 a1 a2 a3 a4 a5
  obtain ⟨k0, k1⟩ := cells_two HBx.out
  obtain ⟨a0, a1, a2, a3, a4, a5⟩ := cells_six HAx.out
  obtain ⟨S3, sc3, rfl, _⟩ := H3.out.form
  rw [HOl.out.2.1] at H3 ⊢
  have HC := Lib.hid (lpart_any _ _ rl al w8 H1.out (by rw [← HOl.out.2.1] at H3; exact H3.out) HL5.out.2.2.2 HOl.out.2.2.1)
  rw [HOl.out.2.2.2.2, HOl.out.2.1] at HC
  have qn : ((nr : Int) != (nr : Int)) = false := by simp
  have hnr1000 : nr ≤ 1000 := by rw [← HNs.out.2]; exact HSm.out.2.1
  go_wp2_with fail
  (with_reducible refine HC.out.mono ?_)
  rintro e wz ⟨rfl, rfl⟩
  clear HC
  go_wp2_with fail
  have HO := Lib.hid (show ∀ Y, Below w8.heap.size w8 Y → (((Y.cell? ⟨w.heap.size, 0, none⟩ = some (.slice A1 ns c1) ∧ Y.cell? ⟨w.heap.size, 1, none⟩ = some (.slice A2 nr c2)) ∧ Y.heap[w.heap.size]? = some (.cells #[.slice A1 ns c1, .slice A2 nr c2] 25)) ∧ Y.cell? ⟨w.heap.size + 1, 0, none⟩ = some (.slice B1 n1 d1)) ∧ (MxV Y (.agg #[.slice A1 ns c1, .slice A2 nr c2]) m ∧ InSl Y Y.heap.size (.slice B1 n1 d1) l1) ∧ InSl Y Y.heap.size (.slice S1 rl.length sc1) rl ∧ InSl Y Y.heap.size (.slice S3 nr sc3) al from fun Y h => ⟨⟨⟨cells_two ((h.block _ (Array.getElem?_eq_some_iff.1 HBx.out).1).trans HBx.out), (h.block _ (Array.getElem?_eq_some_iff.1 HBx.out).1).trans HBx.out⟩, (cells_six ((h.block _ (Array.getElem?_eq_some_iff.1 HAx.out).1).trans HAx.out)).1⟩, ⟨HM.out.step h, HI.out.step h⟩, H1.out.step h, H3.out.step h⟩)
  clear k0 k1 a0 a1 a2 a3 a4 a5
  have HT1 := Lib.hid (fun Y (h : Below w8.heap.size w8 Y) => HT.out.step h)
  obtain ⟨rn, hrn⟩ : ∃ n, rl.length = n := ⟨_, rfl⟩
  have HRn := Lib.hid hrn
  rw [hrn] at HO ⊢
  clear hrn
  go_loopw [12, 13, 14, 15, 16, 17, 18] (fun iv _ _ _ _ _ _ wr => ∃ i : Nat, iv = .int .i64 (i : Int) ∧ i ≤ nr ∧ Below w8.heap.size w8 wr) (fun iv _ _ _ _ _ _ _ => nr - (intOf iv).toNat)
  case atStart => exact ⟨0, rfl, by omega, Below.refl _ _⟩
  case round =>
    obtain ⟨i, rfl, hin, hb⟩ := hrel
    have HBi := Lib.hid hb
    clear hb
    by_cases hlt : i < nr
    · skip
      obtain ⟨r, hr⟩ : ∃ r, m.rows[i]? = some r := ⟨_, List.getElem?_eq_getElem (by rw [HNs.out.2]; exact hlt)⟩
      have hx : al[i]? = some r.nm := by rw [HOl.out.2.2.2.1, List.getElem?_map, hr]; rfl
      obtain ⟨g1, g2, g3, g4, g5, g6⟩ := fit_round HMx.out HRs.out.1 (List.mem_of_getElem? hr)
      rw [HRs.out.2] at g2
      obtain ⟨x, hxx⟩ : ∃ x, r.nm = x := ⟨_, rfl⟩
      rw [hxx] at hx g1 g2 g3 g4 g5 g6
      obtain ⟨sl, hsl⟩ : ∃ y, sameL m x x = y := ⟨_, rfl⟩
      obtain ⟨bl, hbl⟩ : ∃ y, bitsF sl = y := ⟨_, rfl⟩
      obtain ⟨ow, how⟩ : ∃ y, remO m bl = y := ⟨_, rfl⟩
      obtain ⟨fb, hfb⟩ : ∃ y, fitB m x l1 = y := ⟨_, rfl⟩
      rw [hsl] at g4 g5 g6
      rw [hbl] at g4 g5
      rw [how] at g5
      rw [hfb] at g2
      have HG := Lib.hid (And.intro g4 (And.intro g5 (And.intro g6 (And.intro hsl (And.intro hbl how)))))
      have HX := Lib.hid hx
      have HF1 := Lib.hid (fun Y (h : Below w8.heap.size w8 Y) => show Calls Tryd.prog 26 #[.agg #[.slice A1 ns c1, .slice A2 nr c2], .int .i64 x, .slice B1 n1 d1] Y fun e w' => e = .returned (.tuple #[.bool fb, .int .i64 0]) ∧ Below Y.heap.size Y w' from by
        have h2 := Fits_any _ _ m x l1 Y (HO.out Y h).2.1.1 HSm.out (HO.out Y h).2.1.2 HL5.out.1
        rw [hfb, g1] at h2
        exact h2)
      have HF2 := Lib.hid (fun Y (h : Below w8.heap.size w8 Y) => show Calls Tryd.prog 32 #[.agg #[.slice A1 ns c1, .slice A2 nr c2], .int .i64 x, .int .i64 x] Y fun e w' => (∃ u, e = .returned (.tuple #[u, .int .i64 0]) ∧ InSl w' w'.heap.size u sl) ∧ Below Y.heap.size Y w' from by
        have h2 := Same_any _ m x x Y (HO.out Y h).2.1.1 HSm.out (HT1.out Y h)
        rw [g3, hsl] at h2
        refine h2.mono ?_
        rintro e w' ⟨⟨u, rfl, h3, _⟩, h4⟩
        exact ⟨⟨u, rfl, h3⟩, h4⟩)
      have HRm := Lib.hid (fun v Y (h : Below w8.heap.size w8 Y) (hv : InSl Y Y.heap.size v bl) => show Calls Tryd.prog 28 #[.agg #[.slice A1 ns c1, .slice A2 nr c2], v] Y fun e w' => (∃ r, e = .returned (.tuple #[r, .int .i64 0]) ∧ InSl w' w'.heap.size r ow ∧ ∀ g, r.ownBlock = some g → Y.heap.size ≤ g) ∧ Below Y.heap.size Y w' from by
        have h2 := Remain_any _ v m bl Y (HO.out Y h).2.1.1 HSm.out hv (by rw [← hbl]; have := bits_len sl; have := HSm.out.1; omega)
        rw [g4, how] at h2
        exact h2)
      have HOw := Lib.hid (show ow.length ≤ 1000000 from by rw [← how]; have := rem_len m bl; have := HSm.out.2.1; omega)
      have HSl := Lib.hid (show sl.length ≤ 1000000 from by rw [g6]; have := HSm.out.1; omega)
      have HH1 := Lib.hid (fun Y (h : Below w8.heap.size w8 Y) => show Calls Tryd.prog 52 #[.slice S1 rn sc1, .int .i64 x] Y fun e w' => e = .returned (.bool fb) ∧ Y = w' from by
        have h2 := lhas_any _ x rl Y (by have h3 := (HO.out Y h).2.2.1; exact h3) HL5.out.2.2.2
        rw [← g2] at h2
        exact h2)
      have HH2 := Lib.hid (fun v Y (hv : InSl Y Y.heap.size v ow) => show Calls Tryd.prog 52 #[v, .int .i64 x] Y fun e w' => e = .returned (.bool true) ∧ Y = w' from by
        have h2 := lhas_any _ x ow Y hv HOw.out
        rw [g5] at h2
        exact h2)
      have q1 : (fb != fb) = false := by simp
      have hlts : (i : Int) < (nr : Int) := by omega
      have hi0 : ¬ (i : Int) < 0 := by omega
      clear hr hx g1 g2 g3 g4 g5 g6 hxx hsl hbl how hfb
      obtain ⟨ad, rfl, _⟩ := (HO.out wr HBi.out).2.2.2.load HX.out
      have HCe := Lib.hid (fun Y (h : Below w8.heap.size w8 Y) => show (((Y.cell? ⟨w.heap.size, 0, none⟩ = some (.slice A1 ns c1) ∧ Y.cell? ⟨w.heap.size, 1, none⟩ = some (.slice A2 nr c2)) ∧ Y.cell? ⟨w.heap.size + 1, 0, none⟩ = some (.slice B1 n1 d1)) ∧ Y.cell? (ad.add i) = some (.int .i64 x)) from ⟨⟨(HO.out Y h).1.1.1, (HO.out Y h).1.2⟩, by obtain ⟨ad2, e, h2⟩ := (HO.out Y h).2.2.2.load HX.out; cases e; exact h2⟩)
      obtain ⟨⟨⟨k0, k1⟩, a0⟩, c0⟩ := HCe.out wr HBi.out
      have HFz := Lib.hid (fun z : Wb wr => HF1.out z.v (HBi.out.trans (z.h.mono HBi.out.size)))
      have ss := fun z : Wb wr => HCe.out z.v (HBi.out.trans (z.h.mono HBi.out.size))
      clear k0 k1 a0 c0
      go_wp2_with fail
      refine wp_region_wb (by kernel_rfl) (by kernel_rfl) ?_; (repeat ((with_reducible refine wpQuiet_step ?_); intro K hK; go_simp; (try (refine ite_neg_of (by simp [undef]) ?_)); first | (with_reducible refine hK _ ?_; clear hK K) | (apply Exists.intro; (with_reducible refine ⟨fun _ => ?_, hK _ ?_⟩); ((go_at_call 26; exact Calls.wb (HFz.out _))); clear hK K))); (with_reducible refine wpQuiet_nil ?_); rintro w1 ⟨⟨_, hb1⟩, rfl⟩; (try dsimp only)
      have HBa := Lib.hid (HBi.out.trans (hb1.mono HBi.out.size))
      clear ss HFz hb1 HF1
      go_wp2_with fail
      have HBd := Lib.hid (fun X (hI : Below w1.drew.heap.size w1.drew X) => And.intro ((Below.refl w1.heap.size w1).drew.trans hI) (HBa.out.trans (((Below.refl w1.heap.size w1).drew.trans hI).mono HBa.out.size)))
      refine wp_opaque ?_
      intro t0 ht0
      have hsz0 : t0.size = 173 := by rw [ht0]; rfl
      have q2 : t0.getD 2 undef = .pointer (some ⟨w.heap.size, 0, none⟩) := by rw [ht0]; rfl
      have q10 : t0.getD 10 undef = .slice (some ad) nr sc3 := by rw [ht0]; rfl
      have q12 : t0.getD 12 undef = .int .i64 (i : Int) := by rw [ht0]; rfl
      have HT0 := Lib.hid ht0
      clear ht0
      refine wp_region_vals [some 97, some 98, some 99, some 100, some 101, some 102, some 103, some 104, some 105, some 106, some 96, some 107, some 108, some 15, some 16] (FiJ w1.drew (.agg #[.slice A1 ns c1, .slice A2 nr c2]) ad nr sc3 i x sl) (by kernel_rfl) (by kernel_rfl) rfl rfl (by simp [hsz0]) (by kernel_rfl) ?_ ?_ ?_
      · intro val
        exact ⟨Below.refl _ _, (fun h => nomatch h), (fun h => nomatch h), (fun h => nomatch h), (fun h => nomatch h), (fun h => nomatch h), (fun h => nomatch h), (fun h => nomatch h), (fun h => nomatch h), (fun h => nomatch h), (fun h => nomatch h), (fun h => nomatch h), (fun h => nomatch h), (fun h => nomatch h), (fun h => nomatch h), (fun h => nomatch h)⟩
      · intro dn q o hi hd hp hc val X a ha hn' hI K hK
        have hq : q < 15 := by
          have := (Array.getElem?_eq_some_iff.1 hi).1
          simpa using this
        have hB := HBd.out X hI.bel
        rcases (show q = 0 ∨ q = 1 ∨ q = 2 ∨ q = 3 ∨ q = 4 ∨ q = 5 ∨ q = 6 ∨ q = 7 ∨ q = 8 ∨ q = 9 ∨ q = 10 ∨ q = 11 ∨ q = 12 ∨ q = 13 ∨ q = 14 by omega) with rfl | rfl | rfl | rfl | rfl | rfl | rfl | rfl | rfl | rfl | rfl | rfl | rfl | rfl | rfl
        · obtain rfl := Option.some.inj hi
          exact opLdMx 2 _ _ _ rfl ((ha 2).trans q2) (HO.out X hB.2).1.1.2 (hK _ _ hI.op0)
        · obtain rfl := Option.some.inj hi
          exact opMove 10 _ rfl ((ha 10).trans q10) (hK _ _ hI.op1)
        · obtain rfl := Option.some.inj hi
          exact opMove 12 _ rfl ((ha 12).trans q12) (hK _ _ hI.op2)
        · obtain rfl := Option.some.inj hi
          have y1 := hI.s1 (hp ⟨1, .data⟩ (by simp) rfl)
          have y2 := hI.s2 (hp ⟨2, .data⟩ (by simp) rfl)
          exact opIx 98 99 _ _ _ _ rfl ((ha 98).trans y1) ((ha 99).trans y2) hlt (hK _ _ hI.op3)
        · obtain rfl := Option.some.inj hi
          have y3 := hI.s3 (hp ⟨3, .data⟩ (by simp) rfl)
          exact opLd 100 _ _ rfl ((ha 100).trans y3) (HCe.out X hB.2).2 (hK _ _ hI.op4)
        · obtain rfl := Option.some.inj hi
          exact opMove 10 _ rfl ((ha 10).trans q10) (hK _ _ hI.op5)
        · obtain rfl := Option.some.inj hi
          exact opMove 12 _ rfl ((ha 12).trans q12) (hK _ _ hI.op6)
        · obtain rfl := Option.some.inj hi
          have y5 := hI.s5 (hp ⟨5, .data⟩ (by simp) rfl)
          have y6 := hI.s6 (hp ⟨6, .data⟩ (by simp) rfl)
          exact opIx 102 103 _ _ _ _ rfl ((ha 102).trans y5) ((ha 103).trans y6) hlt (hK _ _ hI.op7)
        · obtain rfl := Option.some.inj hi
          have y7 := hI.s7 (hp ⟨7, .data⟩ (by simp) rfl)
          exact opLd 104 _ _ rfl ((ha 104).trans y7) (HCe.out X hB.2).2 (hK _ _ hI.op8)
        · obtain rfl := Option.some.inj hi
          have y0 := hI.s0 (hp ⟨0, .data⟩ (by simp) rfl)
          have y4 := hI.s4 (hp ⟨4, .data⟩ (by simp) rfl)
          have y8 := hI.s8 (hp ⟨8, .data⟩ (by simp) rfl)
          refine opCall3 32 _ 97 101 105 _ _ _ _ rfl ((ha 97).trans y0) ((ha 101).trans y4) ((ha 105).trans y8) (by go_simp) (HF2.out X hB.2) ?_
          rintro e Y ⟨⟨r, rfl, hF⟩, hb⟩
          exact ⟨_, rfl, hK _ _ (hI.op9 ⟨r, rfl, hF⟩ hb)⟩
        · obtain rfl := Option.some.inj hi
          have y9 := hI.s9 (hp ⟨9, .data⟩ (by simp) rfl)
          obtain ⟨r, e, h⟩ := y9
          exact opMove 106 _ rfl ((ha 106).trans e) (hK _ _ (hI.op10 ⟨r, rfl, h⟩))
        · obtain rfl := Option.some.inj hi
          have y10 := hI.s10 (hp ⟨10, .data⟩ (by simp) rfl)
          obtain ⟨r, e, h⟩ := y10
          exact opExt0 96 _ _ rfl ((ha 96).trans e) (hK _ _ (hI.op11 h))
        · obtain rfl := Option.some.inj hi
          have y10 := hI.s10 (hp ⟨10, .data⟩ (by simp) rfl)
          obtain ⟨r, e, h⟩ := y10
          exact opExt1 96 _ _ rfl ((ha 96).trans e) (hK _ _ hI.op12)
        · obtain rfl := Option.some.inj hi
          have y11 := hI.s11 (hp ⟨11, .data⟩ (by simp) rfl)
          exact opAssign 107 _ rfl (ha 107) (hK _ _ (hI.op13 y11))
        · obtain rfl := Option.some.inj hi
          have y12 := hI.s12 (hp ⟨12, .data⟩ (by simp) rfl)
          exact opAssign 108 _ rfl ((ha 108).trans y12) (hK _ _ hI.op14)
      · intro dn val X hdn hI
        have HBr := Lib.hid (HBd.out X hI.bel)
        have h0 := hI.s0 (hdn 0 (by simp))
        have h1 := hI.s1 (hdn 1 (by simp))
        have h2 := hI.s2 (hdn 2 (by simp))
        have h3 := hI.s3 (hdn 3 (by simp))
        have h4 := hI.s4 (hdn 4 (by simp))
        have h5 := hI.s5 (hdn 5 (by simp))
        have h6 := hI.s6 (hdn 6 (by simp))
        have h7 := hI.s7 (hdn 7 (by simp))
        have h8 := hI.s8 (hdn 8 (by simp))
        have h9 := hI.s9 (hdn 9 (by simp))
        have h10 := hI.s10 (hdn 10 (by simp))
        have h11 := hI.s11 (hdn 11 (by simp))
        have h12 := hI.s12 (hdn 12 (by simp))
        have h13 := hI.s13 (hdn 13 (by simp))
        have h14 := hI.s14 (hdn 14 (by simp))
        simp only [wrS, HT0.out]
        simp only [List.setIfInBounds_toArray, List.set_cons_succ, List.set_cons_zero]
        rw [h0, h1, h2, h3, h4, h5, h6, h7, h8, h12, h14]
        (try simp only [Exit.then])
        clear hdn HT0 hsz0 q2 q10 q12
        obtain ⟨Su, su, e13, _⟩ := h13.form
        have HUs := Lib.hid h13
        rw [e13] at HUs ⊢
        have HBb := Lib.hid HBr.out.2
        clear h0 h1 h2 h3 h4 h5 h6 h7 h8 h9 h10 h11 h12 h13 h14 e13 hI HBr HBd HF2
        have HBt := Lib.hid (fun Y (h : Below X.heap.size X Y) => show Calls Tryd.prog 51 #[.slice Su sl.length su] Y fun e w' => (∃ r, e = .returned r ∧ Fr Y.heap.size w' r bl) ∧ Below Y.heap.size Y w' from by
          have h2 := lbits_any _ sl Y (HUs.out.step h) HSl.out
          rw [HG.out.2.2.2.2.1] at h2
          exact h2)
        generalize sl.length = nsl at *
        go_wp2_with fail
        have HBd := Lib.hid (fun Z (hI : Below X.drew.heap.size X.drew Z) => And.intro ((Below.refl X.heap.size X).drew.trans hI) (HBb.out.trans (((Below.refl X.heap.size X).drew.trans hI).mono HBb.out.size)))
        refine wp_opaque ?_
        intro t0 ht0
        have hsz0 : t0.size = 173 := by rw [ht0]; rfl
        have q2 : t0.getD 2 undef = .pointer (some ⟨w.heap.size, 0, none⟩) := by rw [ht0]; rfl
        have q15 : t0.getD 15 undef = .slice Su nsl su := by rw [ht0]; rfl
        have HT0 := Lib.hid ht0
        clear ht0
        refine wp_region_vals [some 110, some 111, some 112, some 113, some 109, some 114, some 115, some 17, some 18] (FiI X.drew (.agg #[.slice A1 ns c1, .slice A2 nr c2]) (.slice Su nsl su) bl ow) (by kernel_rfl) (by kernel_rfl) rfl rfl (by simp [hsz0]) (by kernel_rfl) ?_ ?_ ?_
        · intro val
          exact ⟨Below.refl _ _, (fun h => nomatch h), (fun h => nomatch h), (fun h => nomatch h), (fun h => nomatch h), (fun h => nomatch h), (fun h => nomatch h), (fun h => nomatch h), (fun h => nomatch h), (fun h => nomatch h)⟩
        · intro dn q o hi hd hp hc val X a ha hn' hI K hK
          have hq : q < 9 := by
            have := (Array.getElem?_eq_some_iff.1 hi).1
            simpa using this
          have hB := HBd.out X hI.bel
          rcases (show q = 0 ∨ q = 1 ∨ q = 2 ∨ q = 3 ∨ q = 4 ∨ q = 5 ∨ q = 6 ∨ q = 7 ∨ q = 8 by omega) with rfl | rfl | rfl | rfl | rfl | rfl | rfl | rfl | rfl
          · obtain rfl := Option.some.inj hi
            exact opLdMx 2 _ _ _ rfl ((ha 2).trans q2) (HO.out X hB.2).1.1.2 (hK _ _ hI.op0)
          · obtain rfl := Option.some.inj hi
            exact opMove 15 _ rfl ((ha 15).trans q15) (hK _ _ hI.op1)
          · obtain rfl := Option.some.inj hi
            have y1 := hI.s1 (hp ⟨1, .data⟩ (by simp) rfl)
            refine opCall1 51 _ 111 _ _ rfl ((ha 111).trans y1) (by go_simp) (HBt.out X hB.1) ?_
            rintro e Y ⟨⟨r, rfl, hF⟩, hb⟩
            exact ⟨r, rfl, hK _ _ (hI.op2 hF.1 hb)⟩
          · obtain rfl := Option.some.inj hi
            have y0 := hI.s0 (hp ⟨0, .data⟩ (by simp) rfl)
            have y2 := hI.s2 (hp ⟨2, .data⟩ (by simp) rfl)
            refine opCall2 28 _ 110 112 _ _ _ rfl ((ha 110).trans y0) (ha 112) (by go_simp) (HRm.out _ X hB.2 y2) ?_
            rintro e Y ⟨⟨r, rfl, hF, _⟩, hb⟩
            exact ⟨_, rfl, hK _ _ (hI.op3 ⟨r, rfl, hF⟩ hb)⟩
          · obtain rfl := Option.some.inj hi
            have y3 := hI.s3 (hp ⟨3, .data⟩ (by simp) rfl)
            obtain ⟨r, e, h⟩ := y3
            exact opMove 113 _ rfl ((ha 113).trans e) (hK _ _ (hI.op4 ⟨r, rfl, h⟩))
          · obtain rfl := Option.some.inj hi
            have y4 := hI.s4 (hp ⟨4, .data⟩ (by simp) rfl)
            obtain ⟨r, e, h⟩ := y4
            exact opExt0 109 _ _ rfl ((ha 109).trans e) (hK _ _ (hI.op5 h))
          · obtain rfl := Option.some.inj hi
            have y4 := hI.s4 (hp ⟨4, .data⟩ (by simp) rfl)
            obtain ⟨r, e, h⟩ := y4
            exact opExt1 109 _ _ rfl ((ha 109).trans e) (hK _ _ hI.op6)
          · obtain rfl := Option.some.inj hi
            have y5 := hI.s5 (hp ⟨5, .data⟩ (by simp) rfl)
            exact opAssign 114 _ rfl (ha 114) (hK _ _ (hI.op7 y5))
          · obtain rfl := Option.some.inj hi
            have y6 := hI.s6 (hp ⟨6, .data⟩ (by simp) rfl)
            exact opAssign 115 _ rfl ((ha 115).trans y6) (hK _ _ hI.op8)
        · intro dn val X hdn hI
          have HBr := Lib.hid (HBd.out X hI.bel)
          have h0 := hI.s0 (hdn 0 (by simp))
          have h1 := hI.s1 (hdn 1 (by simp))
          have h2 := hI.s2 (hdn 2 (by simp))
          have h3 := hI.s3 (hdn 3 (by simp))
          have h4 := hI.s4 (hdn 4 (by simp))
          have h5 := hI.s5 (hdn 5 (by simp))
          have h6 := hI.s6 (hdn 6 (by simp))
          have h7 := hI.s7 (hdn 7 (by simp))
          have h8 := hI.s8 (hdn 8 (by simp))
          simp only [wrS, HT0.out]
          simp only [List.setIfInBounds_toArray, List.set_cons_succ, List.set_cons_zero]
          rw [h0, h1, h6, h8]
          (try simp only [Exit.then])
          clear hdn HT0 hsz0 q2 q15
          obtain ⟨So, so, e7, _⟩ := h7.form
          have HH3 := Lib.hid (HH2.out _ X h7)
          rw [e7] at HH3
          rw [e7]
          have HBx2 := Lib.hid HBr.out.2
          obtain ⟨⟨⟨k0, k1⟩, a0⟩, c0⟩ := HCe.out X HBx2.out
          clear h0 h1 h2 h3 h4 h5 h6 h7 h8 e7 hI HBr HBd HBt HRm HH2 HUs
          generalize ow.length = no at *
          (try go_wp2_with fail)
          (with_reducible refine (HH1.out _ HBx2.out).mono ?_)
          rintro e wc ⟨rfl, rfl⟩
          go_wp2_with fail
          (with_reducible refine HH3.out.mono ?_)
          rintro e wc ⟨rfl, rfl⟩
          go_wp2_with fail
          go_roundw
          case rel => exact ⟨i + 1, by go_num, by omega, HBx2.out⟩
          case measure => simp [intOf]; omega
    · skip
      obtain rfl : nr = i := by omega
      clear HO HT1
      replace HB := Lib.hid (HB.out.trans (HBi.out.mono HB.out.size))
      replace HT := Lib.hid (HT.out.step HBi.out)
      replace HM := Lib.hid (HM.out.step HBi.out)
      replace HBx := Lib.hid ((HBi.out.block _ (Array.getElem?_eq_some_iff.1 HBx.out).1).trans HBx.out)
      replace HAx := Lib.hid ((HBi.out.block _ (Array.getElem?_eq_some_iff.1 HAx.out).1).trans HAx.out)
      replace HI := Lib.hid (HI.out.step HBi.out)
      replace HJ := Lib.hid (HJ.out.step HBi.out)
      replace H1 := Lib.hid (H1.out.step HBi.out)
      replace H3 := Lib.hid (H3.out.step HBi.out)
      clear HBi
      obtain ⟨k0, k1⟩ := cells_two HBx.out
      obtain ⟨a0, a1, a2, a3, a4, a5⟩ := cells_six HAx.out
      obtain ⟨be, hbe⟩ : ∃ x, bothE m l1 l2 = x := ⟨_, rfl⟩
      obtain ⟨bl, hbl⟩ : ∃ x, bothL m l1 l2 = x := ⟨_, rfl⟩
      have HC := Lib.hid (Both_any _ _ _ m l1 l2 wr HM.out HSm.out HI.out HJ.out HL5.out.2.2.1 HL5.out.2.1)
      rw [hbe, hbl] at HC
      have HBc := Lib.hid (show be = 0 ∨ be = 3 ∨ be = 30 ∨ be = 32 from by rw [← hbe]; exact both_cases m l1 l2)
      have HRb := Lib.hid (And.intro hbe hbl)
      have HLb := Lib.hid (show bl.length ≤ 1000000 from by rw [← hbl]; have := both_len' m l1 l2; have := HLen.out.1; omega)
      clear hbe hbl
      go_wp2_with fail
      (with_reducible refine HC.out.mono ?_)
      rintro e w9 ⟨⟨u4, rfl, hf⟩, hb⟩
      replace HB := Lib.hid (HB.out.trans (hb.mono HB.out.size))
      replace HT := Lib.hid (HT.out.step hb)
      replace HM := Lib.hid (HM.out.step hb)
      replace HBx := Lib.hid ((hb.block _ (Array.getElem?_eq_some_iff.1 HBx.out).1).trans HBx.out)
      replace HAx := Lib.hid ((hb.block _ (Array.getElem?_eq_some_iff.1 HAx.out).1).trans HAx.out)
      replace HI := Lib.hid (HI.out.step hb)
      replace HJ := Lib.hid (HJ.out.step hb)
      replace H1 := Lib.hid (H1.out.step hb)
      replace H3 := Lib.hid (H3.out.step hb)
      have H4 := Lib.hid hf.1
      clear hf HC
      clear hb
      clear k0 k1 a0 a1 a2 a3 a4 a5
      obtain ⟨k0, k1⟩ := cells_two HBx.out
      obtain ⟨a0, a1, a2, a3, a4, a5⟩ := cells_six HAx.out
      obtain ⟨S4, sc4, rfl, _⟩ := H4.out.form
      rcases HBc.out with h0 | h0 | h0 | h0
      rotate_left
      · subst h0
        clear HBc
        go_wp2_with fail
        go_ret
        exact ⟨rfl, HB.out⟩
      · subst h0
        clear HBc
        go_wp2_with fail
        go_ret
        exact ⟨rfl, HB.out⟩
      · subst h0
        clear HBc
        go_wp2_with fail
        go_ret
        exact ⟨rfl, HB.out⟩
      subst h0
      have HC := Lib.hid (Remain_any _ _ m bl w9 HM.out HSm.out H4.out HLb.out)
      obtain ⟨ll, hll⟩ : ∃ x, remO m bl = x := ⟨_, rfl⟩
      have HRf := Lib.hid (both_rem HRb.out.1)
      rw [HRb.out.2, HRs.out.2, hll] at HRf
      rw [HRf.out.2.1, hll] at HC
      have HLl := Lib.hid (show ll.length ≤ 1000000 from by rw [← hll]; have := rem_len m bl; have := HSm.out.2.1; omega)
      clear hll HBc
      go_wp2_with fail
      (with_reducible refine HC.out.mono ?_)
      rintro e w10 ⟨⟨u5, rfl, hf, _⟩, hb⟩
      replace HB := Lib.hid (HB.out.trans (hb.mono HB.out.size))
      replace HT := Lib.hid (HT.out.step hb)
      replace HM := Lib.hid (HM.out.step hb)
      replace HBx := Lib.hid ((hb.block _ (Array.getElem?_eq_some_iff.1 HBx.out).1).trans HBx.out)
      replace HAx := Lib.hid ((hb.block _ (Array.getElem?_eq_some_iff.1 HAx.out).1).trans HAx.out)
      replace HI := Lib.hid (HI.out.step hb)
      replace HJ := Lib.hid (HJ.out.step hb)
      replace H1 := Lib.hid (H1.out.step hb)
      replace H3 := Lib.hid (H3.out.step hb)
      replace H4 := Lib.hid (H4.out.step hb)
      have H5 := Lib.hid hf
      clear hf HC
      clear hb
      clear k0 k1 a0 a1 a2 a3 a4 a5
      obtain ⟨k0, k1⟩ := cells_two HBx.out
      obtain ⟨a0, a1, a2, a3, a4, a5⟩ := cells_six HAx.out
      obtain ⟨S5, sc5, rfl, _⟩ := H5.out.form
      have HC := Lib.hid (lpart_any _ _ ll rl w10 H5.out H1.out HLl.out HL5.out.2.2.2)
      rw [HRf.out.2.2, HRn.out] at HC
      go_wp2_with fail
      (with_reducible refine HC.out.mono ?_)
      rintro e wz ⟨rfl, rfl⟩
      clear HC
      go_wp2_with fail
      refine bodyPost_ret (v := .bool true) (by simp [results, Tryd.results7, go_sem]) rfl ?_
      exact And.intro rfl HB.out
end Go.Proofs.YthfegbcbpeedbaaDoor
