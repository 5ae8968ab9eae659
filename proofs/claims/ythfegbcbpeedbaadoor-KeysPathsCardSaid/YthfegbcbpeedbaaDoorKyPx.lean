/- KeysPaths: the law. -/
import Derived.Test.YthfegbcbpeedbaaDoorKyUo
import Derived.Test.YthfegbcbpeedbaaDoorKyDm
import Derived.Test.YthfegbcbpeedbaaDoorKyAs
import Derived.Test.YthfegbcbpeedbaaDoorKySh
import Derived.Test.YthfegbcbpeedbaaDoorKyRg
import Derived.Test.YthfegbcbpeedbaaDoorKyFm
import Derived.Test.YthfegbcbpeedbaaDoorKyRt
namespace Go.Proofs.YthfegbcbpeedbaaDoor
open Go.RowKit Go.Nm Go.Ky
section
variable {o : Oper} {a : Act} {w : World} {K : Act → World → Prop} {Q : Exit → Act → World → Prop}
theorem opFieldA (q : Nat) (g : Nat) (ho : o.op = .fieldAddr 27 (.tmp q) 2) (hq : a.tmps.getD q undef = .pointer (some ⟨g, 0, none⟩)) (h : K (a.put o.dst (.pointer (some ⟨g, 2, none⟩))) w) : o.wp Tryd.prog a w K Q := by
  unfold Oper.wp execOp
  have he : a.eval (.tmp q) = .pointer (some ⟨g, 0, none⟩) := hq
  simp only [ho, he]
  go_simp
  exact h
theorem opLdNs (q : Nat) (ad : Addr) (v : Value) (ho : o.op = .load 50 (.tmp q)) (hq : a.tmps.getD q undef = .pointer (some ad)) (hc : w.cell? ad = some v) (h : K (a.put o.dst v) w) : o.wp Tryd.prog a w K Q := by
  unfold Oper.wp execOp
  have he : a.eval (.tmp q) = .pointer (some ad) := hq
  simp only [ho, he]
  go_simp
  exact h
theorem opIxN (q r n c k : Nat) (ad : Addr) (ho : o.op = .indexAddr 50 (.tmp q) (.tmp r)) (hq : a.tmps.getD q undef = .slice (some ad) n c) (hr : a.tmps.getD r undef = .int .i64 (k : Int)) (hk : k < n) (h : K (a.put o.dst (.pointer (some (ad.add (k * 2))))) w) : o.wp Tryd.prog a w K Q := by
  unfold Oper.wp execOp
  have he : a.eval (.tmp q) = .slice (some ad) n c := hq
  have hf : a.eval (.tmp r) = .int .i64 (k : Int) := hr
  simp only [ho, he, hf]
  go_simp
  exact h
theorem opFieldN (q : Nat) (p : Addr) (ho : o.op = .fieldAddr 65 (.tmp q) 0) (hq : a.tmps.getD q undef = .pointer (some p)) (h : K (a.put o.dst (.pointer (some p))) w) : o.wp Tryd.prog a w K Q := by
  unfold Oper.wp execOp
  have he : a.eval (.tmp q) = .pointer (some p) := hq
  simp only [ho, he]
  go_simp
  exact h
end
theorem bits_len3 (L : List Int) : (bitsF L).length ≤ L.length := by
  unfold bitsF
  split
  · rw [List.length_map]; omega
  · simp
theorem both_len3 (m : Mx) (a b : List Int) : (bothL m a b).length ≤ a.length := by
  unfold bothL
  split
  · rw [List.length_zipWith]; omega
  · simp
theorem ask_take {α : Type} {T : List Int} {i : Nat} {y : Int} (h : T[i]? = some y) (f : Int → α) : (T.take (i + 1)).map f = (T.take i).map f ++ [f y] := by
  rw [show T.take (i + 1) = T.take i ++ [y] from by rw [List.take_add_one, h]; rfl, List.map_append]; rfl
structure PaI (V : World) (mv kv sv : Value) (ga : Nat) (bl fl : List Int) (dn : Nat → Bool) (val : Nat → Value) (X : World) : Prop where
  bel : Below V.heap.size V X
  s0 : dn 0 = true → val 0 = mv
  s1 : dn 1 = true → val 1 = kv
  s2 : dn 2 = true → val 2 = .pointer (some ⟨ga, 2, none⟩)
  s3 : dn 3 = true → val 3 = sv
  s4 : dn 4 = true → InSl X X.heap.size (val 4) bl
  s5 : dn 5 = true → ∃ r, (val 5) = .tuple #[r, .int .i64 0] ∧ InSl X X.heap.size r fl
  s6 : dn 6 = true → ∃ r, (val 6) = .tuple #[r, .int .i64 0] ∧ InSl X X.heap.size r fl
  s7 : dn 7 = true → InSl X X.heap.size (val 7) fl
  s8 : dn 8 = true → val 8 = .int .i64 0
  s9 : dn 9 = true → InSl X X.heap.size (val 9) fl
  s10 : dn 10 = true → val 10 = .int .i64 0
section
variable {V : World} {mv kv sv : Value} {ga : Nat} {bl fl : List Int} {dn : Nat → Bool} {val : Nat → Value} {X Y : World}
theorem PaI.op0 (h : PaI V mv kv sv ga bl fl dn val X) : PaI V mv kv sv ga bl fl (andB dn 0) (updV val 0 (mv)) X :=
  ⟨h.bel, (fun _ => rfl), h.s1, h.s2, h.s3, h.s4, h.s5, h.s6, h.s7, h.s8, h.s9, h.s10⟩
theorem PaI.op1 (h : PaI V mv kv sv ga bl fl dn val X) : PaI V mv kv sv ga bl fl (andB dn 1) (updV val 1 (kv)) X :=
  ⟨h.bel, h.s0, (fun _ => rfl), h.s2, h.s3, h.s4, h.s5, h.s6, h.s7, h.s8, h.s9, h.s10⟩
theorem PaI.op2 (h : PaI V mv kv sv ga bl fl dn val X) : PaI V mv kv sv ga bl fl (andB dn 2) (updV val 2 (.pointer (some ⟨ga, 2, none⟩))) X :=
  ⟨h.bel, h.s0, h.s1, (fun _ => rfl), h.s3, h.s4, h.s5, h.s6, h.s7, h.s8, h.s9, h.s10⟩
theorem PaI.op3 (h : PaI V mv kv sv ga bl fl dn val X) : PaI V mv kv sv ga bl fl (andB dn 3) (updV val 3 (sv)) X :=
  ⟨h.bel, h.s0, h.s1, h.s2, (fun _ => rfl), h.s4, h.s5, h.s6, h.s7, h.s8, h.s9, h.s10⟩
theorem PaI.op4 (h : PaI V mv kv sv ga bl fl dn val X) {v : Value} (hv : InSl Y Y.heap.size v bl) (hb : Below X.heap.size X Y) : PaI V mv kv sv ga bl fl (andB dn 4) (updV val 4 (v)) Y :=
  ⟨h.bel.trans (hb.mono h.bel.size), h.s0, h.s1, h.s2, h.s3, (fun _ => hv), (fun d => (by obtain ⟨r, e, h⟩ := (h.s5 d); exact ⟨r, e, h.step hb⟩)), (fun d => (by obtain ⟨r, e, h⟩ := (h.s6 d); exact ⟨r, e, h.step hb⟩)), (fun d => (h.s7 d).step hb), h.s8, (fun d => (h.s9 d).step hb), h.s10⟩
theorem PaI.op5 (h : PaI V mv kv sv ga bl fl dn val X) {v : Value} (hv : ∃ r, v = .tuple #[r, .int .i64 0] ∧ InSl Y Y.heap.size r fl) (hb : Below X.heap.size X Y) : PaI V mv kv sv ga bl fl (andB dn 5) (updV val 5 (v)) Y :=
  ⟨h.bel.trans (hb.mono h.bel.size), h.s0, h.s1, h.s2, h.s3, (fun d => (h.s4 d).step hb), (fun _ => hv), (fun d => (by obtain ⟨r, e, h⟩ := (h.s6 d); exact ⟨r, e, h.step hb⟩)), (fun d => (h.s7 d).step hb), h.s8, (fun d => (h.s9 d).step hb), h.s10⟩
theorem PaI.op6 (h : PaI V mv kv sv ga bl fl dn val X) {v : Value} (hv : ∃ r, v = .tuple #[r, .int .i64 0] ∧ InSl X X.heap.size r fl) : PaI V mv kv sv ga bl fl (andB dn 6) (updV val 6 v) X :=
  ⟨h.bel, h.s0, h.s1, h.s2, h.s3, h.s4, h.s5, (fun _ => hv), h.s7, h.s8, h.s9, h.s10⟩
theorem PaI.op7 (h : PaI V mv kv sv ga bl fl dn val X) {v : Value} (hv : InSl X X.heap.size v fl) : PaI V mv kv sv ga bl fl (andB dn 7) (updV val 7 v) X :=
  ⟨h.bel, h.s0, h.s1, h.s2, h.s3, h.s4, h.s5, h.s6, (fun _ => hv), h.s8, h.s9, h.s10⟩
theorem PaI.op8 (h : PaI V mv kv sv ga bl fl dn val X) : PaI V mv kv sv ga bl fl (andB dn 8) (updV val 8 (.int .i64 0)) X :=
  ⟨h.bel, h.s0, h.s1, h.s2, h.s3, h.s4, h.s5, h.s6, h.s7, (fun _ => rfl), h.s9, h.s10⟩
theorem PaI.op9 (h : PaI V mv kv sv ga bl fl dn val X) {v : Value} (hv : InSl X X.heap.size v fl) : PaI V mv kv sv ga bl fl (andB dn 9) (updV val 9 v) X :=
  ⟨h.bel, h.s0, h.s1, h.s2, h.s3, h.s4, h.s5, h.s6, h.s7, h.s8, (fun _ => hv), h.s10⟩
theorem PaI.op10 (h : PaI V mv kv sv ga bl fl dn val X) : PaI V mv kv sv ga bl fl (andB dn 10) (updV val 10 (.int .i64 0)) X :=
  ⟨h.bel, h.s0, h.s1, h.s2, h.s3, h.s4, h.s5, h.s6, h.s7, h.s8, h.s9, (fun _ => rfl)⟩
end
structure PaJ (V W : World) (ov tv kn : Value) (gk : Nat) (T0 dn0 : Addr) (i yn : Nat) (cc : Int) (M : List Int) (dn : Nat → Bool) (val : Nat → Value) (X : World) : Prop where
  s0 : dn 0 = true → val 0 = ov
  s1 : dn 1 = true → val 1 = .pointer (some ⟨gk, 0, none⟩)
  s2 : dn 2 = true → val 2 = kn
  s3 : dn 3 = true → val 3 = tv
  s4 : dn 4 = true → val 4 = .int .i64 (i : Int)
  s5 : dn 5 = true → val 5 = .pointer (some (T0.add i))
  s6 : dn 6 = true → val 6 = .int .i64 (yn : Int)
  s7 : dn 7 = true → val 7 = .pointer (some (dn0.add (yn * 2)))
  s8 : dn 8 = true → val 8 = .pointer (some (dn0.add (yn * 2)))
  s9 : dn 9 = true → val 9 = .int .i64 cc
  bel : dn 11 = false → Below V.heap.size V X
  eB : dn 10 = true → dn 11 = false → ∃ g, val 10 = .slice (some ⟨g, 0, none⟩) 1 1 ∧ X.heap[g]? = some (.cells #[.int .i64 cc] 3)
  eA : dn 11 = true → OwN W (val 11) M X
  eZ : dn 12 = true → dn 11 = true ∧ val 12 = val 11
section
variable {V W : World} {ov tv kn : Value} {gk : Nat} {T0 dn0 : Addr} {i yn : Nat} {cc : Int} {M : List Int} {dn : Nat → Bool} {val : Nat → Value} {X Y : World}
theorem PaJ.op0 (h : PaJ V W ov tv kn gk T0 dn0 i yn cc M dn val X) : PaJ V W ov tv kn gk T0 dn0 i yn cc M (andB dn 0) (updV val 0 (ov)) X :=
  ⟨(fun _ => rfl), h.s1, h.s2, h.s3, h.s4, h.s5, h.s6, h.s7, h.s8, h.s9, h.bel, h.eB, h.eA, h.eZ⟩
theorem PaJ.op1 (h : PaJ V W ov tv kn gk T0 dn0 i yn cc M dn val X) : PaJ V W ov tv kn gk T0 dn0 i yn cc M (andB dn 1) (updV val 1 (.pointer (some ⟨gk, 0, none⟩))) X :=
  ⟨h.s0, (fun _ => rfl), h.s2, h.s3, h.s4, h.s5, h.s6, h.s7, h.s8, h.s9, h.bel, h.eB, h.eA, h.eZ⟩
theorem PaJ.op2 (h : PaJ V W ov tv kn gk T0 dn0 i yn cc M dn val X) : PaJ V W ov tv kn gk T0 dn0 i yn cc M (andB dn 2) (updV val 2 (kn)) X :=
  ⟨h.s0, h.s1, (fun _ => rfl), h.s3, h.s4, h.s5, h.s6, h.s7, h.s8, h.s9, h.bel, h.eB, h.eA, h.eZ⟩
theorem PaJ.op3 (h : PaJ V W ov tv kn gk T0 dn0 i yn cc M dn val X) : PaJ V W ov tv kn gk T0 dn0 i yn cc M (andB dn 3) (updV val 3 (tv)) X :=
  ⟨h.s0, h.s1, h.s2, (fun _ => rfl), h.s4, h.s5, h.s6, h.s7, h.s8, h.s9, h.bel, h.eB, h.eA, h.eZ⟩
theorem PaJ.op4 (h : PaJ V W ov tv kn gk T0 dn0 i yn cc M dn val X) : PaJ V W ov tv kn gk T0 dn0 i yn cc M (andB dn 4) (updV val 4 (.int .i64 (i : Int))) X :=
  ⟨h.s0, h.s1, h.s2, h.s3, (fun _ => rfl), h.s5, h.s6, h.s7, h.s8, h.s9, h.bel, h.eB, h.eA, h.eZ⟩
theorem PaJ.op5 (h : PaJ V W ov tv kn gk T0 dn0 i yn cc M dn val X) : PaJ V W ov tv kn gk T0 dn0 i yn cc M (andB dn 5) (updV val 5 (.pointer (some (T0.add i)))) X :=
  ⟨h.s0, h.s1, h.s2, h.s3, h.s4, (fun _ => rfl), h.s6, h.s7, h.s8, h.s9, h.bel, h.eB, h.eA, h.eZ⟩
theorem PaJ.op6 (h : PaJ V W ov tv kn gk T0 dn0 i yn cc M dn val X) : PaJ V W ov tv kn gk T0 dn0 i yn cc M (andB dn 6) (updV val 6 (.int .i64 (yn : Int))) X :=
  ⟨h.s0, h.s1, h.s2, h.s3, h.s4, h.s5, (fun _ => rfl), h.s7, h.s8, h.s9, h.bel, h.eB, h.eA, h.eZ⟩
theorem PaJ.op7 (h : PaJ V W ov tv kn gk T0 dn0 i yn cc M dn val X) : PaJ V W ov tv kn gk T0 dn0 i yn cc M (andB dn 7) (updV val 7 (.pointer (some (dn0.add (yn * 2))))) X :=
  ⟨h.s0, h.s1, h.s2, h.s3, h.s4, h.s5, h.s6, (fun _ => rfl), h.s8, h.s9, h.bel, h.eB, h.eA, h.eZ⟩
theorem PaJ.op8 (h : PaJ V W ov tv kn gk T0 dn0 i yn cc M dn val X) : PaJ V W ov tv kn gk T0 dn0 i yn cc M (andB dn 8) (updV val 8 (.pointer (some (dn0.add (yn * 2))))) X :=
  ⟨h.s0, h.s1, h.s2, h.s3, h.s4, h.s5, h.s6, h.s7, (fun _ => rfl), h.s9, h.bel, h.eB, h.eA, h.eZ⟩
theorem PaJ.op9 (h : PaJ V W ov tv kn gk T0 dn0 i yn cc M dn val X) : PaJ V W ov tv kn gk T0 dn0 i yn cc M (andB dn 9) (updV val 9 (.int .i64 cc)) X :=
  ⟨h.s0, h.s1, h.s2, h.s3, h.s4, h.s5, h.s6, h.s7, h.s8, (fun _ => rfl), h.bel, h.eB, h.eA, h.eZ⟩
theorem PaJ.op10 (h : PaJ V W ov tv kn gk T0 dn0 i yn cc M dn val X) (nA : dn 11 = false) : PaJ V W ov tv kn gk T0 dn0 i yn cc M (andB dn 10) (updV val 10 (.slice (some ⟨X.heap.size, 0, none⟩) 1 1)) (X.alloc (.cells #[.int .i64 cc] 3)) :=
  ⟨h.s0, h.s1, h.s2, h.s3, h.s4, h.s5, h.s6, h.s7, h.s8, h.s9, (fun n => (h.bel n).alloc (h.bel n).size _), (fun _ _ => ⟨_, rfl, World.alloc_heap_new X _⟩), (fun d => f_t nA d), h.eZ⟩
theorem PaJ.op11 (h : PaJ V W ov tv kn gk T0 dn0 i yn cc M dn val X) (nZ : dn 12 = false) {v : Value} (hO : OwN W v M Y) : PaJ V W ov tv kn gk T0 dn0 i yn cc M (andB dn 11) (updV val 11 (v)) (Y) :=
  ⟨h.s0, h.s1, h.s2, h.s3, h.s4, h.s5, h.s6, h.s7, h.s8, h.s9, (fun n => nomatch n), (fun _ n => nomatch n), (fun _ => hO), (fun d => f_t nZ d)⟩
theorem PaJ.op12 (h : PaJ V W ov tv kn gk T0 dn0 i yn cc M dn val X) (yA : dn 11 = true) : PaJ V W ov tv kn gk T0 dn0 i yn cc M (andB dn 12) (updV val 12 (val 11)) (X) :=
  ⟨h.s0, h.s1, h.s2, h.s3, h.s4, h.s5, h.s6, h.s7, h.s8, h.s9, h.bel, h.eB, h.eA, (fun _ => ⟨yA, rfl⟩)⟩
end
end Go.Proofs.YthfegbcbpeedbaaDoor
namespace Go.Proofs.YthfegbcbpeedbaaDoor
open Go.RowKit Go.Nm Go.Ky

set_option maxRecDepth 100000 in
set_option maxHeartbeats 16000000 in
theorem KeysPaths_any (v kv u : Value) (m : Mx) (k : Kx) (l1 l2 l3 : List Int) (a b c : Int) (w : World) (hv : MxV w v m) (hk : KyV w kv k) (hu : AskV w u l1 l2 l3 a b c) (hT : TabH w) :
    Calls Tryd.prog 10 #[v, kv, u] w fun e w' => e = .returned (.bool true) ∧ Below w.heap.size w w' := by
  obtain ⟨A1, c1, A2, c2, W0, rfl, hW0, hb0, hM, hS, hR, hX⟩ := mx_box hv
  have hz : W0.heap.size = w.heap.size + 1 := by rw [← hW0]; simp
  have hn0 : W0.heap[w.heap.size]? = some (.cells #[.slice A1 m.st.length c1, .slice A2 m.rows.length c2] 25) := by rw [← hW0]; exact World.alloc_heap_new w _
  obtain ⟨D1, e1, D2, e2, W1, rfl, hW1, hb1, hKy, hNd, hLv, hX1⟩ := ky_box (hk.step hb0)
  have hz1 : W1.heap.size = W0.heap.size + 1 := by rw [← hW1]; simp
  have hn1 : W1.heap[W0.heap.size]? = some (.cells #[.slice D1 k.nd.length e1, .slice D2 k.lv.length e2] 53) := by rw [← hW1]; exact World.alloc_heap_new W0 _
  have hb01 := hb0.trans (hb1.mono hb0.size)
  obtain ⟨B1, d1, B2, d2, B3, d3, W2, rfl, hW2, hb2, hI1, hI2, hI3, hn2⟩ := ask_box (hu.step hb01)
  rw [hz1, hz] at hn2
  rw [hz] at hn1
  have HW := Lib.hid (And.intro hW0 (And.intro hW1 hW2))
  have HB := Lib.hid (hb01.trans (hb2.mono hb01.size))
  have HT := Lib.hid (((hT.step hb0).step hb1).step hb2)
  have HM := Lib.hid (hM W2 (hb1.trans (hb2.mono hb1.size)))
  have HKy := Lib.hid (hKy W2 hb2)
  have HBx := Lib.hid ((hb2.block _ (by omega)).trans ((hb1.block _ (by omega)).trans hn0))
  have HKx := Lib.hid ((hb2.block _ (by omega)).trans hn1)
  have HAx := Lib.hid hn2
  have HI := Lib.hid hI1
  have HJ := Lib.hid hI2
  have HK := Lib.hid hI3
  obtain ⟨ns, hns⟩ : ∃ n, m.st.length = n := ⟨_, rfl⟩
  obtain ⟨nr, hnr⟩ : ∃ n, m.rows.length = n := ⟨_, rfl⟩
  obtain ⟨nn, hnn⟩ : ∃ n, k.nd.length = n := ⟨_, rfl⟩
  obtain ⟨nl, hnl⟩ : ∃ n, k.lv.length = n := ⟨_, rfl⟩
  rw [hns, hnr] at HW HM HBx
  rw [hnn, hnl] at HW HKy HKx
  obtain ⟨n1, hn1'⟩ : ∃ n, l1.length = n := ⟨_, rfl⟩
  obtain ⟨n2, hn2'⟩ : ∃ n, l2.length = n := ⟨_, rfl⟩
  obtain ⟨n3, hn3'⟩ : ∃ n, l3.length = n := ⟨_, rfl⟩
  rw [hn1', hn2', hn3'] at HW HAx
  rw [hn1'] at HI
  rw [hn2'] at HJ
  rw [hn3'] at HK
  rw [hns, hnr, hnn, hnl, hn1', hn2', hn3']
  have HNs := Lib.hid (And.intro hns hnr)
  have HNk := Lib.hid (And.intro hnn hnl)
  have HN1 := Lib.hid hn1'
  have HN2 := Lib.hid hn2'
  have HN3 := Lib.hid hn3'
  obtain ⟨k0, k1⟩ := cells_two HBx.out
  obtain ⟨j0, j1⟩ := cells_two HKx.out
  obtain ⟨a0, a1, a2, a3, a4, a5⟩ := cells_six HAx.out
  clear hv hk hT hW0 hb0 hM hS hR hX hz hn0 hW1 hb1 hKy hNd hLv hX1 hz1 hn1 hb01 hns hnr hnn hnl hu hW2 hb2 hI1 hI2 hI3 hn2 hn1' hn2' hn3'
  go_enter Tryd.func10, Tryd.ntmps10
  go_wp2_with fail
  rw [HW.out.1, HW.out.2.1, HW.out.2.2]
  (try go_wp2_with fail)
  (with_reducible refine (awake_any _ HT.out).mono ?_)
  rintro e w1 ⟨rfl, hb⟩
  replace HB := Lib.hid (HB.out.trans (hb.mono HB.out.size))
  replace HT := Lib.hid (HT.out.step hb)
  replace HM := Lib.hid (HM.out.step hb)
  replace HKy := Lib.hid (HKy.out.step hb)
  replace HBx := Lib.hid ((hb.block _ (Array.getElem?_eq_some_iff.1 HBx.out).1).trans HBx.out)
  replace HKx := Lib.hid ((hb.block _ (Array.getElem?_eq_some_iff.1 HKx.out).1).trans HKx.out)
  replace HAx := Lib.hid ((hb.block _ (Array.getElem?_eq_some_iff.1 HAx.out).1).trans HAx.out)
  replace HI := Lib.hid (HI.out.step hb)
  replace HJ := Lib.hid (HJ.out.step hb)
  replace HK := Lib.hid (HK.out.step hb)
  clear hb
  clear k0 k1 j0 j1 a0 a1 a2 a3 a4 a5
  obtain ⟨k0, k1⟩ := cells_two HBx.out
  obtain ⟨j0, j1⟩ := cells_two HKx.out
  obtain ⟨a0, a1, a2, a3, a4, a5⟩ := cells_six HAx.out
  have HFw := Lib.hid (few_any _ m w1 HM.out)
  cases hfw : fewF m with
  | false =>
    rw [hfw] at HFw
    clear hfw
    go_wp2_with fail
    (with_reducible refine HFw.out.mono ?_)
    rintro e w2 ⟨rfl, hb⟩
    replace HB := Lib.hid (HB.out.trans (hb.mono HB.out.size))
    clear hb
    go_wp2_with fail
    go_ret
    exact ⟨rfl, HB.out⟩
  | true =>
  rw [hfw] at HFw
  have HSm := Lib.hid (few_sm hfw)
  have HFe := Lib.hid hfw
  clear hfw
  go_wp2_with fail
  (with_reducible refine HFw.out.mono ?_)
  rintro e w3 ⟨rfl, hb⟩
  replace HB := Lib.hid (HB.out.trans (hb.mono HB.out.size))
  replace HT := Lib.hid (HT.out.step hb)
  replace HM := Lib.hid (HM.out.step hb)
  replace HKy := Lib.hid (HKy.out.step hb)
  replace HBx := Lib.hid ((hb.block _ (Array.getElem?_eq_some_iff.1 HBx.out).1).trans HBx.out)
  replace HKx := Lib.hid ((hb.block _ (Array.getElem?_eq_some_iff.1 HKx.out).1).trans HKx.out)
  replace HAx := Lib.hid ((hb.block _ (Array.getElem?_eq_some_iff.1 HAx.out).1).trans HAx.out)
  replace HI := Lib.hid (HI.out.step hb)
  replace HJ := Lib.hid (HJ.out.step hb)
  replace HK := Lib.hid (HK.out.step hb)
  clear HFw
  clear hb
  clear k0 k1 j0 j1 a0 a1 a2 a3 a4 a5
  obtain ⟨k0, k1⟩ := cells_two HBx.out
  obtain ⟨j0, j1⟩ := cells_two HKx.out
  obtain ⟨a0, a1, a2, a3, a4, a5⟩ := cells_six HAx.out
  have HSh := Lib.hid (short_any _ k w3 HKy.out)
  cases hsh : shortF k with
  | false =>
    rw [hsh] at HSh
    clear hsh
    go_wp2_with fail
    (with_reducible refine HSh.out.mono ?_)
    rintro e w4 ⟨rfl, hb⟩
    replace HB := Lib.hid (HB.out.trans (hb.mono HB.out.size))
    clear hb
    go_wp2_with fail
    go_ret
    exact ⟨rfl, HB.out⟩
  | true =>
  rw [hsh] at HSh
  have HKm := Lib.hid (short_sm hsh)
  have HShe := Lib.hid hsh
  clear hsh
  go_wp2_with fail
  (with_reducible refine HSh.out.mono ?_)
  rintro e w5 ⟨rfl, hb⟩
  replace HB := Lib.hid (HB.out.trans (hb.mono HB.out.size))
  replace HT := Lib.hid (HT.out.step hb)
  replace HM := Lib.hid (HM.out.step hb)
  replace HKy := Lib.hid (HKy.out.step hb)
  replace HBx := Lib.hid ((hb.block _ (Array.getElem?_eq_some_iff.1 HBx.out).1).trans HBx.out)
  replace HKx := Lib.hid ((hb.block _ (Array.getElem?_eq_some_iff.1 HKx.out).1).trans HKx.out)
  replace HAx := Lib.hid ((hb.block _ (Array.getElem?_eq_some_iff.1 HAx.out).1).trans HAx.out)
  replace HI := Lib.hid (HI.out.step hb)
  replace HJ := Lib.hid (HJ.out.step hb)
  replace HK := Lib.hid (HK.out.step hb)
  clear HSh
  clear hb
  clear k0 k1 j0 j1 a0 a1 a2 a3 a4 a5
  obtain ⟨k0, k1⟩ := cells_two HBx.out
  obtain ⟨j0, j1⟩ := cells_two HKx.out
  obtain ⟨a0, a1, a2, a3, a4, a5⟩ := cells_six HAx.out
  have HLi := Lib.hid (light_any B1 B2 B3 n1 n2 n3 d1 d2 d3 a b c w5)
  cases hli : decide (n1 ≤ 100 ∧ n2 ≤ 100 ∧ n3 ≤ 100) with
  | false =>
    rw [hli] at HLi
    clear hli
    go_wp2_with fail
    (with_reducible refine HLi.out.mono ?_)
    rintro e w6 ⟨rfl, hb⟩
    replace HB := Lib.hid (HB.out.trans (hb.mono HB.out.size))
    clear hb
    go_wp2_with fail
    go_ret
    exact ⟨rfl, HB.out⟩
  | true =>
  rw [hli] at HLi
  have hl1 := of_decide_eq_true hli
  have HLen := Lib.hid (show l1.length ≤ 100 ∧ l2.length ≤ 100 ∧ l3.length ≤ 100 from by rw [HN1.out, HN2.out, HN3.out]; exact hl1)
  clear hli hl1
  go_wp2_with fail
  (with_reducible refine HLi.out.mono ?_)
  rintro e w7 ⟨rfl, hb⟩
  replace HB := Lib.hid (HB.out.trans (hb.mono HB.out.size))
  replace HT := Lib.hid (HT.out.step hb)
  replace HM := Lib.hid (HM.out.step hb)
  replace HKy := Lib.hid (HKy.out.step hb)
  replace HBx := Lib.hid ((hb.block _ (Array.getElem?_eq_some_iff.1 HBx.out).1).trans HBx.out)
  replace HKx := Lib.hid ((hb.block _ (Array.getElem?_eq_some_iff.1 HKx.out).1).trans HKx.out)
  replace HAx := Lib.hid ((hb.block _ (Array.getElem?_eq_some_iff.1 HAx.out).1).trans HAx.out)
  replace HI := Lib.hid (HI.out.step hb)
  replace HJ := Lib.hid (HJ.out.step hb)
  replace HK := Lib.hid (HK.out.step hb)
  clear HLi
  clear hb
  clear k0 k1 j0 j1 a0 a1 a2 a3 a4 a5
  obtain ⟨k0, k1⟩ := cells_two HBx.out
  obtain ⟨j0, j1⟩ := cells_two HKx.out
  obtain ⟨a0, a1, a2, a3, a4, a5⟩ := cells_six HAx.out
  obtain ⟨te, hte⟩ : ∃ x, traceE m k l3 = x := ⟨_, rfl⟩
  obtain ⟨tl, htl⟩ : ∃ x, traceL m k l3 = x := ⟨_, rfl⟩
  have HRs := Lib.hid (And.intro hte htl)
  have HL5 := Lib.hid (show l1.length ≤ 1000 ∧ l3.length ≤ 1000 ∧ l1.length ≤ 100000 ∧ l2.length ≤ 100000 from by have := HLen.out; exact ⟨by omega, by omega, by omega, by omega⟩)
  clear hte htl
  have HC := Lib.hid (Trace_any _ _ _ m k l3 w7 HM.out HSm.out HKy.out HKm.out HK.out HL5.out.2.1)
  rw [HRs.out.1, HRs.out.2] at HC
  go_wp2_with fail
  (with_reducible refine HC.out.mono ?_)
  rintro e w8 ⟨⟨u1, rfl, hf⟩, hb⟩
  replace HB := Lib.hid (HB.out.trans (hb.mono HB.out.size))
  replace HT := Lib.hid (HT.out.step hb)
  replace HM := Lib.hid (HM.out.step hb)
  replace HKy := Lib.hid (HKy.out.step hb)
  replace HBx := Lib.hid ((hb.block _ (Array.getElem?_eq_some_iff.1 HBx.out).1).trans HBx.out)
  replace HKx := Lib.hid ((hb.block _ (Array.getElem?_eq_some_iff.1 HKx.out).1).trans HKx.out)
  replace HAx := Lib.hid ((hb.block _ (Array.getElem?_eq_some_iff.1 HAx.out).1).trans HAx.out)
  replace HI := Lib.hid (HI.out.step hb)
  replace HJ := Lib.hid (HJ.out.step hb)
  replace HK := Lib.hid (HK.out.step hb)
  have H1 := Lib.hid hf.1
  clear hf HC
  clear hb
  clear k0 k1 j0 j1 a0 a1 a2 a3 a4 a5
  obtain ⟨k0, k1⟩ := cells_two HBx.out
  obtain ⟨j0, j1⟩ := cells_two HKx.out
  obtain ⟨a0, a1, a2, a3, a4, a5⟩ := cells_six HAx.out
  by_cases hte0 : te = 0
  rotate_left
  · have hq0 : (te == 0) = false := by simpa using hte0
    obtain ⟨fe, hfe⟩ : ∃ x, followE m k l1 = x := ⟨_, rfl⟩
    obtain ⟨fl, hfl⟩ : ∃ x, followL m k l1 = x := ⟨_, rfl⟩
    obtain ⟨be, hbe⟩ : ∃ x, bothE m l1 l2 = x := ⟨_, rfl⟩
    obtain ⟨bl, hbl⟩ : ∃ x, bothL m l1 l2 = x := ⟨_, rfl⟩
    have HRf := Lib.hid (And.intro hfe (And.intro hfl (And.intro hbe hbl)))
    have HLl := Lib.hid (show fl.length ≤ 1000000 ∧ bl.length ≤ 1000 from ⟨by rw [← hfl]; have := follow_len (m := m) (l := l1) HKm.out; omega, by rw [← hbl]; have := both_len3 m l1 l2; have := HL5.out.1; omega⟩)
    have HMo := Lib.hid (fun (h : followE m k l1 = 0) (h2 : bothE m l1 l2 = 0) => more_law h h2)
    rw [hfe, hbe, hfl, hbl] at HMo
    clear hfe hfl hbe hbl
    have HC := Lib.hid (Follow_any _ _ _ m k l1 w8 HM.out HSm.out HKy.out HKm.out HI.out HL5.out.1 HT.out)
    rw [HRf.out.1, HRf.out.2.1] at HC
    go_wp2_with fail
    (with_reducible refine HC.out.mono ?_)
    rintro e w9 ⟨⟨u2, rfl, hf⟩, hb⟩
    replace HB := Lib.hid (HB.out.trans (hb.mono HB.out.size))
    replace HT := Lib.hid (HT.out.step hb)
    replace HM := Lib.hid (HM.out.step hb)
    replace HKy := Lib.hid (HKy.out.step hb)
    replace HBx := Lib.hid ((hb.block _ (Array.getElem?_eq_some_iff.1 HBx.out).1).trans HBx.out)
    replace HKx := Lib.hid ((hb.block _ (Array.getElem?_eq_some_iff.1 HKx.out).1).trans HKx.out)
    replace HAx := Lib.hid ((hb.block _ (Array.getElem?_eq_some_iff.1 HAx.out).1).trans HAx.out)
    replace HI := Lib.hid (HI.out.step hb)
    replace HJ := Lib.hid (HJ.out.step hb)
    replace HK := Lib.hid (HK.out.step hb)
    replace H1 := Lib.hid (H1.out.step hb)
    have H2 := Lib.hid hf.1
    clear hf HC
    clear hb
    clear k0 k1 j0 j1 a0 a1 a2 a3 a4 a5
    obtain ⟨k0, k1⟩ := cells_two HBx.out
    obtain ⟨j0, j1⟩ := cells_two HKx.out
    obtain ⟨a0, a1, a2, a3, a4, a5⟩ := cells_six HAx.out
    have HC := Lib.hid (Both_any _ _ _ m l1 l2 w9 HM.out HSm.out HI.out HJ.out HL5.out.2.2.1 HL5.out.2.2.2)
    rw [HRf.out.2.2.1, HRf.out.2.2.2] at HC
    go_wp2_with fail
    (with_reducible refine HC.out.mono ?_)
    rintro e w10 ⟨⟨u3, rfl, hf⟩, hb⟩
    replace HB := Lib.hid (HB.out.trans (hb.mono HB.out.size))
    replace HT := Lib.hid (HT.out.step hb)
    replace HM := Lib.hid (HM.out.step hb)
    replace HKy := Lib.hid (HKy.out.step hb)
    replace HBx := Lib.hid ((hb.block _ (Array.getElem?_eq_some_iff.1 HBx.out).1).trans HBx.out)
    replace HKx := Lib.hid ((hb.block _ (Array.getElem?_eq_some_iff.1 HKx.out).1).trans HKx.out)
    replace HAx := Lib.hid ((hb.block _ (Array.getElem?_eq_some_iff.1 HAx.out).1).trans HAx.out)
    replace HI := Lib.hid (HI.out.step hb)
    replace HJ := Lib.hid (HJ.out.step hb)
    replace HK := Lib.hid (HK.out.step hb)
    replace H1 := Lib.hid (H1.out.step hb)
    replace H2 := Lib.hid (H2.out.step hb)
    have H3 := Lib.hid hf.1
    clear hf HC
    clear hb
    clear k0 k1 j0 j1 a0 a1 a2 a3 a4 a5
    obtain ⟨k0, k1⟩ := cells_two HBx.out
    obtain ⟨j0, j1⟩ := cells_two HKx.out
    obtain ⟨a0, a1, a2, a3, a4, a5⟩ := cells_six HAx.out
    by_cases hfe : fe = 0
    · subst hfe
      by_cases hbe : be = 0
      · subst hbe
        have hmo := HMo.out rfl rfl
        obtain ⟨ll, hll⟩ : ∃ x, followL m k bl = x := ⟨_, rfl⟩
        rw [hll] at hmo
        have HMq := Lib.hid hmo.2
        have HLq := Lib.hid (show ll.length ≤ 1000000 from by rw [← hll]; have := follow_len (m := m) (l := bl) HKm.out; omega)
        have HRq := Lib.hid (And.intro hmo.1 hll)
        clear hmo HMo hll
        have HC := Lib.hid (Follow_any _ _ _ m k bl w10 HM.out HSm.out HKy.out HKm.out H3.out HLl.out.2 HT.out)
        rw [HRq.out.1, HRq.out.2] at HC
        go_wp2_with fail
        (with_reducible refine HC.out.mono ?_)
        rintro e w11 ⟨⟨u4, rfl, hf⟩, hb⟩
        replace HB := Lib.hid (HB.out.trans (hb.mono HB.out.size))
        replace HT := Lib.hid (HT.out.step hb)
        replace HM := Lib.hid (HM.out.step hb)
        replace HKy := Lib.hid (HKy.out.step hb)
        replace HBx := Lib.hid ((hb.block _ (Array.getElem?_eq_some_iff.1 HBx.out).1).trans HBx.out)
        replace HKx := Lib.hid ((hb.block _ (Array.getElem?_eq_some_iff.1 HKx.out).1).trans HKx.out)
        replace HAx := Lib.hid ((hb.block _ (Array.getElem?_eq_some_iff.1 HAx.out).1).trans HAx.out)
        replace HI := Lib.hid (HI.out.step hb)
        replace HJ := Lib.hid (HJ.out.step hb)
        replace HK := Lib.hid (HK.out.step hb)
        replace H1 := Lib.hid (H1.out.step hb)
        replace H2 := Lib.hid (H2.out.step hb)
        replace H3 := Lib.hid (H3.out.step hb)
        have H4 := Lib.hid hf.1
        clear hf HC
        clear hb
        clear k0 k1 j0 j1 a0 a1 a2 a3 a4 a5
        obtain ⟨k0, k1⟩ := cells_two HBx.out
        obtain ⟨j0, j1⟩ := cells_two HKx.out
        obtain ⟨a0, a1, a2, a3, a4, a5⟩ := cells_six HAx.out
        have HC := Lib.hid (lpart_any u4 u2 ll fl w11 H4.out H2.out HLq.out HLl.out.1)
        rw [HMq.out] at HC
        go_wp2_with fail
        (with_reducible refine HC.out.mono ?_)
        rintro e wz ⟨rfl, rfl⟩
        clear HC
        go_wp2_with fail
        refine bodyPost_ret (v := .bool true) (by simp [results, Tryd.results10, go_sem]) rfl ?_
        exact And.intro rfl HB.out
      · have hq1 : (be == 0) = false := by simpa using hbe
        have hq2 : (be != 0) = true := by simpa using hbe
        clear HMo
        go_wp2_with fail
        refine bodyPost_ret (v := .bool true) (by simp [results, Tryd.results10, go_sem]) rfl ?_
        exact And.intro rfl HB.out
    · have hq1 : (fe == 0) = false := by simpa using hfe
      have hq2 : (fe != 0) = true := by simpa using hfe
      clear HMo
      go_wp2_with fail
      refine bodyPost_ret (v := .bool true) (by simp [results, Tryd.results10, go_sem]) rfl ?_
      exact And.intro rfl HB.out
  · subst hte0
    have hpl := paths_law HRs.out.1 HKm.out
    rw [HRs.out.2] at hpl
    obtain ⟨hck, hset, hfo, N, z, hlen, hdep, hz, hz0, hzl, hleaf, hnode, honce⟩ := hpl
    obtain ⟨bl3, hbl3⟩ : ∃ x, bitsF l3 = x := ⟨_, rfl⟩
    rw [hbl3] at hset hfo hleaf
    obtain ⟨fl3, hfl3⟩ : ∃ x, followL m k bl3 = x := ⟨_, rfl⟩
    obtain ⟨de, hde⟩ : ∃ x, depC m k = x := ⟨_, rfl⟩
    rw [hfl3] at hleaf
    rw [hde] at hdep
    have HFo3 := Lib.hid (And.intro hfo hfl3)
    have HBl3 := Lib.hid (And.intro hbl3 (show bl3.length ≤ 1000 from by rw [← hbl3]; have := bits_len3 l3; have := HL5.out.2.1; omega))
    have HFl3 := Lib.hid (show fl3.length ≤ 1000000 from by rw [← hfl3]; have := follow_len (m := m) (l := bl3) HKm.out; omega)
    have HDe := Lib.hid (And.intro hck hde)
    have HNode := Lib.hid (And.intro hnode honce)
    have HDp := Lib.hid hdep
    have HZ := Lib.hid (And.intro hz (And.intro hz0 hzl))
    have HLeaf := Lib.hid hleaf
    have HLenT := Lib.hid hlen
    have HNl := Lib.hid (show N ≤ 3000 from by
      have h1 := trace_len (m := m) (l := l3) HKm.out
      have h2 := HKm.out.1
      have h3 := (trace_ok HRs.out.1).2.2
      rw [HRs.out.2] at h3
      have h4 := trF_len (k := k) (l := l3) (k.nd.length + 1) (begF k)
      have h5 : tl.length = (trF k l3 (k.nd.length + 1) (begF k)).length + 1 := by rw [h3, List.length_cons]
      omega)
    clear hset hfo hlen hdep hz hz0 hzl hleaf hnode honce hck hbl3 hfl3 hde
    obtain ⟨T1, ct, rfl, _⟩ := H1.out.form
    obtain ⟨M, hM⟩ : ∃ M, tl.length = M := ⟨_, rfl⟩
    have HMl := Lib.hid (show M = N + 1 from by rw [← hM]; exact HLenT.out)
    rw [hM] at H1 ⊢
    clear hM
    clear k0 k1 j0 j1 a0 a1 a2 a3 a4 a5
    have HO := Lib.hid (show ∀ Y, Below w8.heap.size w8 Y → ((Y.heap[w.heap.size]? = some (.cells #[.slice A1 ns c1, .slice A2 nr c2] 25) ∧ Y.heap[w.heap.size + 1]? = some (.cells #[.slice D1 nn e1, .slice D2 nl e2] 53) ∧ Y.cell? ⟨w.heap.size + 1 + 1, 2, none⟩ = some (.slice B3 n3 d3)) ∧ (MxV Y (.agg #[.slice A1 ns c1, .slice A2 nr c2]) m ∧ KyV Y (.agg #[.slice D1 nn e1, .slice D2 nl e2]) k ∧ InSl Y Y.heap.size (.slice B3 n3 d3) l3 ∧ TabH Y)) from fun Y h => ⟨⟨(h.block _ (Array.getElem?_eq_some_iff.1 HBx.out).1).trans HBx.out, (h.block _ (Array.getElem?_eq_some_iff.1 HKx.out).1).trans HKx.out, (cells_six ((h.block _ (Array.getElem?_eq_some_iff.1 HAx.out).1).trans HAx.out)).2.2.1⟩, HM.out.step h, HKy.out.step h, HK.out.step h, HT.out.step h⟩)
    have HBt := Lib.hid (fun Y (h : Below w8.heap.size w8 Y) => show Calls Tryd.prog 51 #[.slice B3 n3 d3] Y fun e w' => (∃ r, e = .returned r ∧ Fr Y.heap.size w' r bl3) ∧ Below Y.heap.size Y w' from by
      have h2 := lbits_any _ l3 Y (HO.out Y h).2.2.2.1 (by have := HL5.out.2.1; omega)
      rw [HBl3.out.1] at h2
      exact h2)
    have HFo := Lib.hid (fun v Y (h : Below w8.heap.size w8 Y) (hv : InSl Y Y.heap.size v bl3) => show Calls Tryd.prog 41 #[.agg #[.slice A1 ns c1, .slice A2 nr c2], .agg #[.slice D1 nn e1, .slice D2 nl e2], v] Y fun e w' => (∃ u, e = .returned (.tuple #[u, .int .i64 0]) ∧ InSl w' w'.heap.size u fl3) ∧ Below Y.heap.size Y w' from by
      have h2 := Follow_any _ _ v m k bl3 Y (HO.out Y h).2.1 HSm.out (HO.out Y h).2.2.1 HKm.out hv HBl3.out.2 (HO.out Y h).2.2.2.2
      rw [HFo3.out.1, HFo3.out.2] at h2
      refine h2.mono ?_
      rintro e w' ⟨⟨u, rfl, h3⟩, h4⟩
      exact ⟨⟨u, rfl, h3.1⟩, h4⟩)
    go_wp2_with fail
    have HBd := Lib.hid (fun X (hI : Below w8.drew.heap.size w8.drew X) => ((Below.refl w8.heap.size w8).drew.trans hI))
    refine wp_opaque ?_
    intro t0 ht0
    have hsz0 : t0.size = 199 := by rw [ht0]; rfl
    have q3 : t0.getD 3 undef = .pointer (some ⟨w.heap.size, 0, none⟩) := by rw [ht0]; rfl
    have q4 : t0.getD 4 undef = .pointer (some ⟨w.heap.size + 1, 0, none⟩) := by rw [ht0]; rfl
    have q5 : t0.getD 5 undef = .pointer (some ⟨w.heap.size + 1 + 1, 0, none⟩) := by rw [ht0]; rfl
    have HT0 := Lib.hid ht0
    clear ht0
    refine wp_region_vals [some 49, some 50, some 51, some 52, some 53, some 54, some 48, some 55, some 56, some 10, some 11] (PaI w8.drew (.agg #[.slice A1 ns c1, .slice A2 nr c2]) (.agg #[.slice D1 nn e1, .slice D2 nl e2]) (.slice B3 n3 d3) (w.heap.size + 1 + 1) bl3 fl3) (by kernel_rfl) (by kernel_rfl) rfl rfl (by simp [hsz0]) (by kernel_rfl) ?_ ?_ ?_
    · intro val
      exact ⟨Below.refl _ _, (fun h => nomatch h), (fun h => nomatch h), (fun h => nomatch h), (fun h => nomatch h), (fun h => nomatch h), (fun h => nomatch h), (fun h => nomatch h), (fun h => nomatch h), (fun h => nomatch h), (fun h => nomatch h), (fun h => nomatch h)⟩
    · intro dn q o hi hd hp hc val X a ha hn' hI K hK
      have hq : q < 11 := by
        have := (Array.getElem?_eq_some_iff.1 hi).1
        simpa using this
      have hB := HBd.out X hI.bel
      rcases (show q = 0 ∨ q = 1 ∨ q = 2 ∨ q = 3 ∨ q = 4 ∨ q = 5 ∨ q = 6 ∨ q = 7 ∨ q = 8 ∨ q = 9 ∨ q = 10 by omega) with rfl | rfl | rfl | rfl | rfl | rfl | rfl | rfl | rfl | rfl | rfl
      · obtain rfl := Option.some.inj hi
        exact opLdMx 3 _ _ _ rfl ((ha 3).trans q3) (HO.out X hB).1.1 (hK _ _ hI.op0)
      · obtain rfl := Option.some.inj hi
        exact opLdKey 4 _ _ _ rfl ((ha 4).trans q4) (HO.out X hB).1.2.1 (hK _ _ hI.op1)
      · obtain rfl := Option.some.inj hi
        exact opFieldA 5 _ rfl ((ha 5).trans q5) (hK _ _ hI.op2)
      · obtain rfl := Option.some.inj hi
        have y2 := hI.s2 (hp ⟨2, .data⟩ (by simp) rfl)
        exact opLdS 51 _ _ rfl ((ha 51).trans y2) (HO.out X hB).1.2.2 (hK _ _ hI.op3)
      · obtain rfl := Option.some.inj hi
        have y3 := hI.s3 (hp ⟨3, .data⟩ (by simp) rfl)
        refine opCall1 51 _ 52 _ _ rfl ((ha 52).trans y3) (by go_simp) (HBt.out X hB) ?_
        rintro e Y ⟨⟨r, rfl, hF⟩, hb⟩
        exact ⟨r, rfl, hK _ _ (hI.op4 hF.1 hb)⟩
      · obtain rfl := Option.some.inj hi
        have y0 := hI.s0 (hp ⟨0, .data⟩ (by simp) rfl)
        have y1 := hI.s1 (hp ⟨1, .data⟩ (by simp) rfl)
        have y4 := hI.s4 (hp ⟨4, .data⟩ (by simp) rfl)
        refine opCall3 41 _ 49 50 53 _ _ _ _ rfl ((ha 49).trans y0) ((ha 50).trans y1) (ha 53) (by go_simp) (HFo.out _ X hB y4) ?_
        rintro e Y ⟨⟨r, rfl, hF⟩, hb⟩
        exact ⟨_, rfl, hK _ _ (hI.op5 ⟨r, rfl, hF⟩ hb)⟩
      · obtain rfl := Option.some.inj hi
        have y5 := hI.s5 (hp ⟨5, .data⟩ (by simp) rfl)
        obtain ⟨r, e, h⟩ := y5
        exact opMove 54 _ rfl ((ha 54).trans e) (hK _ _ (hI.op6 ⟨r, rfl, h⟩))
      · obtain rfl := Option.some.inj hi
        have y6 := hI.s6 (hp ⟨6, .data⟩ (by simp) rfl)
        obtain ⟨r, e, h⟩ := y6
        exact opExt0 48 _ _ rfl ((ha 48).trans e) (hK _ _ (hI.op7 h))
      · obtain rfl := Option.some.inj hi
        have y6 := hI.s6 (hp ⟨6, .data⟩ (by simp) rfl)
        obtain ⟨r, e, h⟩ := y6
        exact opExt1 48 _ _ rfl ((ha 48).trans e) (hK _ _ hI.op8)
      · obtain rfl := Option.some.inj hi
        have y7 := hI.s7 (hp ⟨7, .data⟩ (by simp) rfl)
        exact opAssign 55 _ rfl (ha 55) (hK _ _ (hI.op9 y7))
      · obtain rfl := Option.some.inj hi
        have y8 := hI.s8 (hp ⟨8, .data⟩ (by simp) rfl)
        exact opAssign 56 _ rfl ((ha 56).trans y8) (hK _ _ hI.op10)
    · intro dn val X hdn hI
      have HBr := Lib.hid (HBd.out X hI.bel)
      have h0 := hI.s0 (hdn 0 (by simp))
      have h1 := hI.s1 (hdn 1 (by simp))
      have h2 := hI.s2 (hdn 2 (by simp))
      have h3 := hI.s3 (hdn 3 (by simp))
      have h4 := hI.s4 (hdn 4 (by simp))
      have h5 := hI.s5 (hdn 5 (by simp))
      have h6 := hI.s6 (hdn 6 (by simp))
      have h7 := hI.s7 (hdn 7 (by simp))
      have h8 := hI.s8 (hdn 8 (by simp))
      have h9 := hI.s9 (hdn 9 (by simp))
      have h10 := hI.s10 (hdn 10 (by simp))
      simp only [wrS, HT0.out]
      simp only [List.setIfInBounds_toArray, List.set_cons_succ, List.set_cons_zero]
      rw [h0, h1, h2, h3, h8, h10]
      (try simp only [Exit.then])
      clear hdn HT0 hsz0 q3 q4 q5
      replace HB := Lib.hid (HB.out.trans (HBr.out.mono HB.out.size))
      replace HT := Lib.hid (HT.out.step HBr.out)
      replace HM := Lib.hid (HM.out.step HBr.out)
      replace HKy := Lib.hid (HKy.out.step HBr.out)
      replace HBx := Lib.hid ((HBr.out.block _ (Array.getElem?_eq_some_iff.1 HBx.out).1).trans HBx.out)
      replace HKx := Lib.hid ((HBr.out.block _ (Array.getElem?_eq_some_iff.1 HKx.out).1).trans HKx.out)
      replace HAx := Lib.hid ((HBr.out.block _ (Array.getElem?_eq_some_iff.1 HAx.out).1).trans HAx.out)
      replace HI := Lib.hid (HI.out.step HBr.out)
      replace HJ := Lib.hid (HJ.out.step HBr.out)
      replace HK := Lib.hid (HK.out.step HBr.out)
      replace H1 := Lib.hid (H1.out.step HBr.out)
      have H2 := Lib.hid h9
      clear h0 h1 h2 h3 h4 h5 h6 h7 h8 h9 h10 hI HBr HBd HO HBt HFo
      generalize val 9 = u2 at *
      obtain ⟨k0, k1⟩ := cells_two HBx.out
      obtain ⟨j0, j1⟩ := cells_two HKx.out
      obtain ⟨a0, a1, a2, a3, a4, a5⟩ := cells_six HAx.out
      have HC := Lib.hid (Depth_any _ _ m k X HM.out HSm.out HKy.out HKm.out)
      rw [HDe.out.1, HDe.out.2] at HC
      go_wp2_with fail
      (with_reducible refine HC.out.mono ?_)
      rintro e w12 ⟨rfl, hb⟩
      replace HB := Lib.hid (HB.out.trans (hb.mono HB.out.size))
      replace HT := Lib.hid (HT.out.step hb)
      replace HM := Lib.hid (HM.out.step hb)
      replace HKy := Lib.hid (HKy.out.step hb)
      replace HBx := Lib.hid ((hb.block _ (Array.getElem?_eq_some_iff.1 HBx.out).1).trans HBx.out)
      replace HKx := Lib.hid ((hb.block _ (Array.getElem?_eq_some_iff.1 HKx.out).1).trans HKx.out)
      replace HAx := Lib.hid ((hb.block _ (Array.getElem?_eq_some_iff.1 HAx.out).1).trans HAx.out)
      replace HI := Lib.hid (HI.out.step hb)
      replace HJ := Lib.hid (HJ.out.step hb)
      replace HK := Lib.hid (HK.out.step hb)
      replace H1 := Lib.hid (H1.out.step hb)
      replace H2 := Lib.hid (H2.out.step hb)
      clear HC
      clear hb
      clear k0 k1 j0 j1 a0 a1 a2 a3 a4 a5
      obtain ⟨k0, k1⟩ := cells_two HBx.out
      obtain ⟨j0, j1⟩ := cells_two HKx.out
      obtain ⟨a0, a1, a2, a3, a4, a5⟩ := cells_six HAx.out
      obtain ⟨T0, rfl, hcz⟩ := H1.out.ld HZ.out.1
      have hwN : IntKind.i64.wrap ((M : Int) - 1) = (N : Int) := by rw [IntKind.wrap_i64]; have := HMl.out; have := HNl.out; omega
      obtain ⟨j, hj⟩ : ∃ j, (-1 - z).toNat = j := ⟨_, rfl⟩
      have hjl : j < nl := by have := HNk.out.2; have := HZ.out.2.1; have := HZ.out.2.2; omega
      have hwj : IntKind.i64.wrap (-1 - z) = (j : Int) := by rw [IntKind.wrap_i64]; have := HKm.out.2.1; have := HZ.out.2.1; have := HZ.out.2.2; omega
      have hlf : k.lv[j]? = some fl3 := by rw [← hj]; exact HLeaf.out
      have HVI := Lib.hid (show IlSl w12 w12.heap.size (.slice D1 nn e1) k.nd ∧ VsSl w12 w12.heap.size (.slice D2 nl e2) k.lv from by
        obtain ⟨_, _, e, h1, h2⟩ := HKy.out
        cases e
        exact ⟨h1, h2⟩)
      obtain ⟨DL, lvv, Lf, rfl, _, hLf, hcl, hLs⟩ := HVI.out.2.at_ hjl
      rw [hlf] at hLf
      injection hLf with hLf
      subst hLf
      have hS := fun z : Wb w12 => SameInts_any u2 lvv fl3 fl3 z.v (H2.out.step z.h) (hLs.step z.h) HFl3.out HFl3.out
      rw [show decide (fl3 = fl3) = true from by simp] at hS
      have HS := Lib.hid hS
      have HL9 := Lib.hid (And.intro hcz hcl)
      go_wp2_with fail
      clear k0 k1 j0 j1 a0 a1 a2 a3 a4 a5
      have ss := fun z : Wb w12 => And.intro (cells_two ((z.h.block _ (Array.getElem?_eq_some_iff.1 HKx.out).1).trans HKx.out)) (And.intro ((z.h.cell (World.block_lt_of_cell? _ _ HL9.out.1)).trans HL9.out.1) ((z.h.cell (World.block_lt_of_cell? _ _ HL9.out.2)).trans HL9.out.2))
      have f1 : ¬ (N : Int) < 0 := by omega
      have f2 : ¬ de < (N : Int) := by have := HDp.out; omega
      have f3 : (N : Int) < (M : Int) := by have := HMl.out; omega
      have f4 : ¬ (0 : Int) ≤ z := by have := HZ.out.2.1; omega
      have f5 : ¬ (nl : Int) ≤ (j : Int) := by omega
      have f6 : (0 : Int) ≤ (N : Int) := by omega
      have f7 : (0 : Int) ≤ (j : Int) := by omega
      have f8 : (j : Int) < (nl : Int) := by omega
      clear hS hcz hcl hLs hlf hjl hj hwN
      refine wp_region_wb (by kernel_rfl) (by kernel_rfl) ?_; (repeat ((with_reducible refine wpQuiet_step ?_); intro K hK; go_simp; (try (refine ite_neg_of (by simp [undef]) ?_)); first | (with_reducible refine hK _ ?_; clear hK K) | (apply Exists.intro; (with_reducible refine ⟨fun _ => ?_, hK _ ?_⟩); ((go_at_call 25; exact Calls.wb (HS.out _))); clear hK K))); (with_reducible refine wpQuiet_nil ?_); rintro w1 ⟨⟨_, hb1⟩, rfl⟩; (try dsimp only)
      clear ss HS HL9
      replace HB := Lib.hid (HB.out.trans (hb1.mono HB.out.size))
      replace HT := Lib.hid (HT.out.step hb1)
      replace HM := Lib.hid (HM.out.step hb1)
      replace HKy := Lib.hid (HKy.out.step hb1)
      replace HBx := Lib.hid ((hb1.block _ (Array.getElem?_eq_some_iff.1 HBx.out).1).trans HBx.out)
      replace HKx := Lib.hid ((hb1.block _ (Array.getElem?_eq_some_iff.1 HKx.out).1).trans HKx.out)
      replace HAx := Lib.hid ((hb1.block _ (Array.getElem?_eq_some_iff.1 HAx.out).1).trans HAx.out)
      replace HI := Lib.hid (HI.out.step hb1)
      replace HJ := Lib.hid (HJ.out.step hb1)
      replace HK := Lib.hid (HK.out.step hb1)
      replace H1 := Lib.hid (H1.out.step hb1)
      replace H2 := Lib.hid (H2.out.step hb1)
      have HB9 := Lib.hid hb1
      obtain ⟨wv, rfl⟩ : ∃ z, z = w1 := ⟨_, rfl⟩
      clear hb1 f1 f2 f4 f5 f6 f7 f8 hwj
      obtain ⟨k0, k1⟩ := cells_two HBx.out
      obtain ⟨j0, j1⟩ := cells_two HKx.out
      obtain ⟨a0, a1, a2, a3, a4, a5⟩ := cells_six HAx.out
      go_wp2_with fail
      clear k0 k1 j0 j1 a0 a1 a2 a3 a4 a5
      go_loopw [15, 16] (fun av iv wr => ∃ (i : Nat) (Ap : Option Addr) (np cp : Nat), iv = .int .i64 (i : Int) ∧ av = .slice Ap np cp ∧ i ≤ N ∧ OwN wv (.slice Ap np cp) ((tl.take i).map (chF k)) wr) (fun _ iv _ => N - (intOf iv).toNat)
      case atStart => exact ⟨0, none, 0, 0, rfl, rfl, by omega, OwN.start wv⟩
      case round =>
        obtain ⟨i, Ap, np, cp, rfl, rfl, hiN, hO⟩ := hrel
        have HO := Lib.hid hO
        clear hO
        by_cases hlt : i < N
        · obtain ⟨y, hy⟩ : ∃ y, tl[i]? = some y := ⟨_, List.getElem?_eq_getElem (by have := HLenT.out; omega)⟩
          have hyr := HNode.out.1 i y hlt hy
          obtain ⟨yn, rfl⟩ : ∃ n : Nat, y = (n : Int) := ⟨y.toNat, by omega⟩
          have hyn : yn < nn := by have := HNk.out.1; omega
          obtain ⟨_, e, hcy⟩ := (H1.out.step HO.out.bel).ld hy
          cases e
          obtain ⟨r, dn, Am, cm, hr, rfl, hYn⟩ := HVI.out.1.at_ hyn
          obtain ⟨⟨d0, _⟩, _⟩ := hYn wr (HB9.out.trans (HO.out.bel.mono HB9.out.size))
          have hch : chF k (yn : Int) = r.nm := by unfold chF; rw [Int.toNat_natCast, List.getD_eq_getElem?_getD, hr]; rfl
          obtain ⟨cc, hcc⟩ : ∃ c, r.nm = c := ⟨_, rfl⟩
          rw [hcc] at d0 hch
          obtain ⟨aL, has⟩ : ∃ x, (tl.take i).map (chF k) = x := ⟨_, rfl⟩
          have hno : hasF aL cc = false := by
            cases hh : hasF aL cc with
            | false => rfl
            | true =>
              rw [← has] at hh
              obtain ⟨x, hx, hxe⟩ := List.mem_map.1 (has_iff.1 hh)
              obtain ⟨p, hp⟩ := List.getElem?_of_mem hx
              have hpi : p < i := by have := (List.getElem?_eq_some_iff.1 hp).1; rw [List.length_take] at this; omega
              rw [List.getElem?_take] at hp
              rw [if_pos hpi] at hp
              exact absurd (hxe.trans hch.symm) (HNode.out.2 p i x _ hpi hlt hp hy)
          have hasl : aL.length ≤ 1000000 := by rw [← has, List.length_map, List.length_take]; have := HNl.out; omega
          have HOa := Lib.hid (show OwN wv (.slice Ap np cp) aL wr from by rw [← has]; exact HO.out)
          have HH := Lib.hid (fun z : Wb wr => show Calls Tryd.prog 52 #[.slice Ap np cp, .int .i64 cc] z.v fun e w' => e = .returned (.bool false) ∧ Below z.v.heap.size z.v w' from by
            have h2 := lhas_any (.slice Ap np cp) cc aL z.v ((HOa.out.step z.h).sl) hasl
            rw [hno] at h2
            refine h2.mono ?_
            rintro e w' ⟨rfl, rfl⟩
            exact ⟨rfl, Below.refl _ _⟩)
          have HTk := Lib.hid (show (tl.take (i + 1)).map (chF k) = aL ++ [cc] from by rw [ask_take hy, has, hch])
          have HLa := Lib.hid hasl
          have HBw := Lib.hid (HO.out.bel)
          have HC15 := Lib.hid (And.intro hcy d0)
          have hkb := (HBw.out.block _ (Array.getElem?_eq_some_iff.1 HKx.out).1).trans HKx.out
          have HKb := Lib.hid hkb
          obtain ⟨j0, j1⟩ := cells_two hkb
          have hi3 : (i : Int) < 3000 := by have := HNl.out; omega
          have g1 : (i : Int) < (M : Int) := by have := HMl.out; omega
          have g2 : (0 : Int) ≤ (i : Int) := by omega
          have g3 : ¬ (yn : Int) < 0 := by omega
          have g4 : ¬ (nn : Int) ≤ (yn : Int) := by omega
          have g5 : (0 : Int) ≤ (yn : Int) := by omega
          have g6 : (yn : Int) < (nn : Int) := by omega
          clear hy hyr hr hYn hch hcc has hno hasl hkb
          go_wp2_with fail
          clear j0 j1 d0 hcy
          have ss := fun z : Wb wr => And.intro (cells_two ((z.h.block _ (Array.getElem?_eq_some_iff.1 HKb.out).1).trans HKb.out)) (And.intro ((z.h.cell (World.block_lt_of_cell? _ _ HC15.out.1)).trans HC15.out.1) ((z.h.cell (World.block_lt_of_cell? _ _ HC15.out.2)).trans HC15.out.2))
          refine wp_region_wb (by kernel_rfl) (by kernel_rfl) ?_; (repeat ((with_reducible refine wpQuiet_step ?_); intro K hK; go_simp; (try (refine ite_neg_of (by simp [undef]) ?_)); first | (with_reducible refine hK _ ?_; clear hK K) | (apply Exists.intro; (with_reducible refine ⟨fun _ => ?_, hK _ ?_⟩); ((go_at_call 52; exact Calls.wb (HH.out _))); clear hK K))); (with_reducible refine wpQuiet_nil ?_); rintro w1 ⟨⟨_, hb1⟩, rfl⟩; (try dsimp only)
          clear ss HH
          have HCa := Lib.hid (fun X (h : Below w1.heap.size w1 X) => show X.cell? ⟨w.heap.size + 1, 0, none⟩ = some (.slice (some dn) nn e1) ∧ X.cell? (T0.add i) = some (.int .i64 (yn : Int)) ∧ X.cell? (dn.add (yn * 2)) = some (.int .i64 cc) from by
            have hb2 := hb1.trans (h.mono hb1.size)
            exact ⟨(cells_two ((hb2.block _ (Array.getElem?_eq_some_iff.1 HKb.out).1).trans HKb.out)).1, (hb2.cell (World.block_lt_of_cell? _ _ HC15.out.1)).trans HC15.out.1, (hb2.cell (World.block_lt_of_cell? _ _ HC15.out.2)).trans HC15.out.2⟩)
          have HOw := Lib.hid (HOa.out.step hb1)
          have HLq := Lib.hid (show aL.length + [cc].length ≤ 3000000 from by have := HLa.out; simp; omega)
          have hiM : i < M := by omega
          clear hb1 HOa
          go_wp2_with fail
          refine wp_opaque ?_
          intro t0 ht0
          have hsz0 : t0.size = 199 := by rw [ht0]; rfl
          have q4 : t0.getD 4 undef = .pointer (some ⟨w.heap.size + 1, 0, none⟩) := by rw [ht0]; rfl
          have q8 : t0.getD 8 undef = .slice (some T0) M ct := by rw [ht0]; rfl
          have q15 : t0.getD 15 undef = .slice Ap np cp := by rw [ht0]; rfl
          have q16 : t0.getD 16 undef = .int .i64 (i : Int) := by rw [ht0]; rfl
          have HT0 := Lib.hid ht0
          clear ht0
          have HBd := Lib.hid (fun X (hI : Below w1.drew.heap.size w1.drew X) => (Below.refl w1.heap.size w1).drew.trans hI)
          refine wp_region_vals [some 146, some 147, some 148, some 149, some 150, some 151, some 152, some 153, some 154, some 155, some 156, some 157, some 15] (PaJ w1.drew wv (.slice Ap np cp) (.slice (some T0) M ct) (.slice (some dn) nn e1) (w.heap.size + 1) T0 dn i yn cc (aL ++ [cc])) (by kernel_rfl) (by kernel_rfl) rfl rfl (by simp [hsz0]) (by kernel_rfl) ?_ ?_ ?_
          · intro val
            exact ⟨(fun h => nomatch h), (fun h => nomatch h), (fun h => nomatch h), (fun h => nomatch h), (fun h => nomatch h), (fun h => nomatch h), (fun h => nomatch h), (fun h => nomatch h), (fun h => nomatch h), (fun h => nomatch h), fun _ => Below.refl _ _, (fun h => nomatch h), (fun h => nomatch h), (fun h => nomatch h)⟩
          · intro dn q o hi hd hp hc val X a ha hn' hI K hK
            have hq : q < 13 := by
              have := (Array.getElem?_eq_some_iff.1 hi).1
              simpa using this
            have bf : ∀ {q : Bool}, (q = true → False) → q = false := fun {q} h => by cases q; rfl; exact (h rfl).elim
            rcases (show q = 0 ∨ q = 1 ∨ q = 2 ∨ q = 3 ∨ q = 4 ∨ q = 5 ∨ q = 6 ∨ q = 7 ∨ q = 8 ∨ q = 9 ∨ q = 10 ∨ q = 11 ∨ q = 12 by omega) with rfl | rfl | rfl | rfl | rfl | rfl | rfl | rfl | rfl | rfl | rfl | rfl | rfl
            · obtain rfl := Option.some.inj hi
              have nZ : dn 12 = false := bf fun h => f_t hd (hc 11 _ rfl (hc 12 _ rfl h ⟨11, .data⟩ (by simp) rfl) ⟨0, .data⟩ (by simp) rfl)
              exact opMove 15 _ rfl ((ha 15).trans ((hn' 12 15 nZ rfl).trans q15)) (hK _ _ hI.op0)
            · obtain rfl := Option.some.inj hi
              exact opFieldK 0 4 _ (by omega) rfl ((ha 4).trans q4) (hK _ _ hI.op1)
            · obtain rfl := Option.some.inj hi
              have y1 := hI.s1 (hp ⟨1, .data⟩ (by simp) rfl)
              have nA : dn 11 = false := bf fun h => f_t hd (hc 7 _ rfl (hc 8 _ rfl (hc 9 _ rfl (hc 10 _ rfl (hc 11 _ rfl h ⟨10, .data⟩ (by simp) rfl) ⟨9, .data⟩ (by simp) rfl) ⟨8, .data⟩ (by simp) rfl) ⟨7, .data⟩ (by simp) rfl) ⟨2, .data⟩ (by simp) rfl)
              have hB := HBd.out X (hI.bel nA)
              exact opLdNs 147 _ _ rfl ((ha 147).trans y1) (HCa.out X hB).1 (hK _ _ hI.op2)
            · obtain rfl := Option.some.inj hi
              exact opMove 8 _ rfl ((ha 8).trans q8) (hK _ _ hI.op3)
            · obtain rfl := Option.some.inj hi
              exact opMove 16 _ rfl ((ha 16).trans q16) (hK _ _ hI.op4)
            · obtain rfl := Option.some.inj hi
              have y3 := hI.s3 (hp ⟨3, .data⟩ (by simp) rfl)
              have y4 := hI.s4 (hp ⟨4, .data⟩ (by simp) rfl)
              exact opIx 149 150 _ _ _ _ rfl ((ha 149).trans y3) ((ha 150).trans y4) hiM (hK _ _ hI.op5)
            · obtain rfl := Option.some.inj hi
              have y5 := hI.s5 (hp ⟨5, .data⟩ (by simp) rfl)
              have nA : dn 11 = false := bf fun h => f_t hd (hc 7 _ rfl (hc 8 _ rfl (hc 9 _ rfl (hc 10 _ rfl (hc 11 _ rfl h ⟨10, .data⟩ (by simp) rfl) ⟨9, .data⟩ (by simp) rfl) ⟨8, .data⟩ (by simp) rfl) ⟨7, .data⟩ (by simp) rfl) ⟨6, .data⟩ (by simp) rfl)
              have hB := HBd.out X (hI.bel nA)
              exact opLd 151 _ _ rfl ((ha 151).trans y5) (HCa.out X hB).2.1 (hK _ _ hI.op6)
            · obtain rfl := Option.some.inj hi
              have y2 := hI.s2 (hp ⟨2, .data⟩ (by simp) rfl)
              have y6 := hI.s6 (hp ⟨6, .data⟩ (by simp) rfl)
              exact opIxN 148 152 _ _ _ _ rfl ((ha 148).trans y2) ((ha 152).trans y6) hyn (hK _ _ hI.op7)
            · obtain rfl := Option.some.inj hi
              have y7 := hI.s7 (hp ⟨7, .data⟩ (by simp) rfl)
              exact opFieldN 153 _ rfl ((ha 153).trans y7) (hK _ _ hI.op8)
            · obtain rfl := Option.some.inj hi
              have y8 := hI.s8 (hp ⟨8, .data⟩ (by simp) rfl)
              have nA : dn 11 = false := bf fun h => f_t hd (hc 10 _ rfl (hc 11 _ rfl h ⟨10, .data⟩ (by simp) rfl) ⟨9, .data⟩ (by simp) rfl)
              have hB := HBd.out X (hI.bel nA)
              exact opLd 154 _ _ rfl ((ha 154).trans y8) (HCa.out X hB).2.2 (hK _ _ hI.op9)
            · obtain rfl := Option.some.inj hi
              have nA : dn 11 = false := bf fun h => f_t hd (hc 11 _ rfl h ⟨10, .data⟩ (by simp) rfl)
              exact opBox 155 _ rfl ((ha 155).trans (hI.s9 (hp ⟨9, .data⟩ (by simp) rfl))) (hK _ _ (hI.op10 nA))
            · obtain rfl := Option.some.inj hi
              have nZ : dn 12 = false := bf fun h => f_t hd (hc 12 _ rfl h ⟨11, .data⟩ (by simp) rfl)
              have yB := hp ⟨10, .data⟩ (by simp) rfl
              obtain ⟨g, eB, hg⟩ := hI.eB yB hd
              refine run_appN (.tmp 146) (.tmp 156) rfl (HOw.out.step (HBd.out X (hI.bel hd))) ((ha 146).trans (hI.s0 (hp ⟨0, .data⟩ (by simp) rfl))) ((ha 156).trans eB) (box_sl hg) HLq.out ?_
              intro v' w' hO' _ _
              exact hK _ _ (hI.op11 nZ hO')
            · obtain rfl := Option.some.inj hi
              exact opAssign 157 _ rfl (ha 157) (hK _ _ (hI.op12 (hp ⟨11, .data⟩ (by simp) rfl)))
          · intro dn val X hdn hI
            have HR := Lib.hid (hI.eA (hdn 11 (by simp)))
            have hz := (hI.eZ (hdn 12 (by simp))).2
            simp only [wrS, HT0.out]
            simp only [List.setIfInBounds_toArray, List.set_cons_succ, List.set_cons_zero]
            rw [hz]
            (try simp only [Exit.then])
            obtain ⟨A6, n6, c6, e6⟩ := HR.out.slice
            rw [e6] at HR ⊢
            clear hdn hI hz e6 HT0 hsz0 q4 q8 q15 q16 HBd
            (try go_wp2_with fail)
            go_roundw
            case rel => exact ⟨i + 1, _, _, _, by go_num, rfl, by omega, by rw [HTk.out]; exact HR.out⟩
            case measure => simp [intOf]; omega
        · obtain rfl : N = i := by omega
          replace HB := Lib.hid (HB.out.trans (HO.out.bel.mono HB.out.size))
          replace HT := Lib.hid (HT.out.step HO.out.bel)
          replace HM := Lib.hid (HM.out.step HO.out.bel)
          replace HKy := Lib.hid (HKy.out.step HO.out.bel)
          replace HBx := Lib.hid ((HO.out.bel.block _ (Array.getElem?_eq_some_iff.1 HBx.out).1).trans HBx.out)
          replace HKx := Lib.hid ((HO.out.bel.block _ (Array.getElem?_eq_some_iff.1 HKx.out).1).trans HKx.out)
          replace HAx := Lib.hid ((HO.out.bel.block _ (Array.getElem?_eq_some_iff.1 HAx.out).1).trans HAx.out)
          replace HI := Lib.hid (HI.out.step HO.out.bel)
          replace HJ := Lib.hid (HJ.out.step HO.out.bel)
          replace HK := Lib.hid (HK.out.step HO.out.bel)
          clear HO
          obtain ⟨k0, k1⟩ := cells_two HBx.out
          obtain ⟨j0, j1⟩ := cells_two HKx.out
          obtain ⟨a0, a1, a2, a3, a4, a5⟩ := cells_six HAx.out
          obtain ⟨fe, hfe⟩ : ∃ x, followE m k l1 = x := ⟨_, rfl⟩
          obtain ⟨fl, hfl⟩ : ∃ x, followL m k l1 = x := ⟨_, rfl⟩
          obtain ⟨be, hbe⟩ : ∃ x, bothE m l1 l2 = x := ⟨_, rfl⟩
          obtain ⟨bl, hbl⟩ : ∃ x, bothL m l1 l2 = x := ⟨_, rfl⟩
          have HRf := Lib.hid (And.intro hfe (And.intro hfl (And.intro hbe hbl)))
          have HLl := Lib.hid (show fl.length ≤ 1000000 ∧ bl.length ≤ 1000 from ⟨by rw [← hfl]; have := follow_len (m := m) (l := l1) HKm.out; omega, by rw [← hbl]; have := both_len3 m l1 l2; have := HL5.out.1; omega⟩)
          have HMo := Lib.hid (fun (h : followE m k l1 = 0) (h2 : bothE m l1 l2 = 0) => more_law h h2)
          rw [hfe, hbe, hfl, hbl] at HMo
          clear hfe hfl hbe hbl
          have HC := Lib.hid (Follow_any _ _ _ m k l1 wr HM.out HSm.out HKy.out HKm.out HI.out HL5.out.1 HT.out)
          rw [HRf.out.1, HRf.out.2.1] at HC
          go_wp2_with fail
          (with_reducible refine HC.out.mono ?_)
          rintro e w13 ⟨⟨u5, rfl, hf⟩, hb⟩
          replace HB := Lib.hid (HB.out.trans (hb.mono HB.out.size))
          replace HT := Lib.hid (HT.out.step hb)
          replace HM := Lib.hid (HM.out.step hb)
          replace HKy := Lib.hid (HKy.out.step hb)
          replace HBx := Lib.hid ((hb.block _ (Array.getElem?_eq_some_iff.1 HBx.out).1).trans HBx.out)
          replace HKx := Lib.hid ((hb.block _ (Array.getElem?_eq_some_iff.1 HKx.out).1).trans HKx.out)
          replace HAx := Lib.hid ((hb.block _ (Array.getElem?_eq_some_iff.1 HAx.out).1).trans HAx.out)
          replace HI := Lib.hid (HI.out.step hb)
          replace HJ := Lib.hid (HJ.out.step hb)
          replace HK := Lib.hid (HK.out.step hb)
          have H5 := Lib.hid hf.1
          clear hf HC
          clear hb
          clear k0 k1 j0 j1 a0 a1 a2 a3 a4 a5
          obtain ⟨k0, k1⟩ := cells_two HBx.out
          obtain ⟨j0, j1⟩ := cells_two HKx.out
          obtain ⟨a0, a1, a2, a3, a4, a5⟩ := cells_six HAx.out
          have HC := Lib.hid (Both_any _ _ _ m l1 l2 w13 HM.out HSm.out HI.out HJ.out HL5.out.2.2.1 HL5.out.2.2.2)
          rw [HRf.out.2.2.1, HRf.out.2.2.2] at HC
          go_wp2_with fail
          (with_reducible refine HC.out.mono ?_)
          rintro e w14 ⟨⟨u6, rfl, hf⟩, hb⟩
          replace HB := Lib.hid (HB.out.trans (hb.mono HB.out.size))
          replace HT := Lib.hid (HT.out.step hb)
          replace HM := Lib.hid (HM.out.step hb)
          replace HKy := Lib.hid (HKy.out.step hb)
          replace HBx := Lib.hid ((hb.block _ (Array.getElem?_eq_some_iff.1 HBx.out).1).trans HBx.out)
          replace HKx := Lib.hid ((hb.block _ (Array.getElem?_eq_some_iff.1 HKx.out).1).trans HKx.out)
          replace HAx := Lib.hid ((hb.block _ (Array.getElem?_eq_some_iff.1 HAx.out).1).trans HAx.out)
          replace HI := Lib.hid (HI.out.step hb)
          replace HJ := Lib.hid (HJ.out.step hb)
          replace HK := Lib.hid (HK.out.step hb)
          replace H5 := Lib.hid (H5.out.step hb)
          have H6 := Lib.hid hf.1
          clear hf HC
          clear hb
          clear k0 k1 j0 j1 a0 a1 a2 a3 a4 a5
          obtain ⟨k0, k1⟩ := cells_two HBx.out
          obtain ⟨j0, j1⟩ := cells_two HKx.out
          obtain ⟨a0, a1, a2, a3, a4, a5⟩ := cells_six HAx.out
          by_cases hfe : fe = 0
          · subst hfe
            by_cases hbe : be = 0
            · subst hbe
              have hmo := HMo.out rfl rfl
              obtain ⟨ll, hll⟩ : ∃ x, followL m k bl = x := ⟨_, rfl⟩
              rw [hll] at hmo
              have HMq := Lib.hid hmo.2
              have HLq := Lib.hid (show ll.length ≤ 1000000 from by rw [← hll]; have := follow_len (m := m) (l := bl) HKm.out; omega)
              have HRq := Lib.hid (And.intro hmo.1 hll)
              clear hmo HMo hll
              have HC := Lib.hid (Follow_any _ _ _ m k bl w14 HM.out HSm.out HKy.out HKm.out H6.out HLl.out.2 HT.out)
              rw [HRq.out.1, HRq.out.2] at HC
              go_wp2_with fail
              (with_reducible refine HC.out.mono ?_)
              rintro e w15 ⟨⟨u7, rfl, hf⟩, hb⟩
              replace HB := Lib.hid (HB.out.trans (hb.mono HB.out.size))
              replace HT := Lib.hid (HT.out.step hb)
              replace HM := Lib.hid (HM.out.step hb)
              replace HKy := Lib.hid (HKy.out.step hb)
              replace HBx := Lib.hid ((hb.block _ (Array.getElem?_eq_some_iff.1 HBx.out).1).trans HBx.out)
              replace HKx := Lib.hid ((hb.block _ (Array.getElem?_eq_some_iff.1 HKx.out).1).trans HKx.out)
              replace HAx := Lib.hid ((hb.block _ (Array.getElem?_eq_some_iff.1 HAx.out).1).trans HAx.out)
              replace HI := Lib.hid (HI.out.step hb)
              replace HJ := Lib.hid (HJ.out.step hb)
              replace HK := Lib.hid (HK.out.step hb)
              replace H5 := Lib.hid (H5.out.step hb)
              replace H6 := Lib.hid (H6.out.step hb)
              have H7 := Lib.hid hf.1
              clear hf HC
              clear hb
              clear k0 k1 j0 j1 a0 a1 a2 a3 a4 a5
              obtain ⟨k0, k1⟩ := cells_two HBx.out
              obtain ⟨j0, j1⟩ := cells_two HKx.out
              obtain ⟨a0, a1, a2, a3, a4, a5⟩ := cells_six HAx.out
              have HC := Lib.hid (lpart_any u7 u5 ll fl w15 H7.out H5.out HLq.out HLl.out.1)
              rw [HMq.out] at HC
              go_wp2_with fail
              (with_reducible refine HC.out.mono ?_)
              rintro e wz ⟨rfl, rfl⟩
              clear HC
              go_wp2_with fail
              refine bodyPost_ret (v := .bool true) (by simp [results, Tryd.results10, go_sem]) rfl ?_
              exact And.intro rfl HB.out
            · have hq1 : (be == 0) = false := by simpa using hbe
              have hq2 : (be != 0) = true := by simpa using hbe
              clear HMo
              go_wp2_with fail
              refine bodyPost_ret (v := .bool true) (by simp [results, Tryd.results10, go_sem]) rfl ?_
              exact And.intro rfl HB.out
          · have hq1 : (fe == 0) = false := by simpa using hfe
            have hq2 : (fe != 0) = true := by simpa using hfe
            clear HMo
            go_wp2_with fail
            refine bodyPost_ret (v := .bool true) (by simp [results, Tryd.results10, go_sem]) rfl ?_
            exact And.intro rfl HB.out
end Go.Proofs.YthfegbcbpeedbaaDoor
