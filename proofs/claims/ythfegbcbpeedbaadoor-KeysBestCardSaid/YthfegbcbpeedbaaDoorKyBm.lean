/- KeysBest: the law. -/
import Derived.Test.YthfegbcbpeedbaaDoorKyCi
import Derived.Test.YthfegbcbpeedbaaDoorKyBu
import Derived.Test.YthfegbcbpeedbaaDoorKyCk
import Derived.Test.YthfegbcbpeedbaaDoorKyAs
import Derived.Test.YthfegbcbpeedbaaDoorKyRg
import Derived.Test.YthfegbcbpeedbaaDoorKyFm
namespace Go.Proofs.YthfegbcbpeedbaaDoor
open Go.RowKit Go.Nm Go.Ky

section
variable {o : Oper} {a : Act} {w : World} {K : Act → World → Prop} {Q : Exit → Act → World → Prop}
set_option maxRecDepth 100000 in
theorem opLenT (q n c : Nat) (A : Option Addr) (ho : o.op = .call { callee := .builtin .len, args := #[.tmp q], argTypes := #[51] }) (h1 : a.tmps.getD q undef = .slice A n c) (h : K (a.put o.dst (.int .i64 (n : Int))) w) : o.wp Tryd.prog a w K Q := by
  unfold Oper.wp execOp
  have e1 : a.eval (.tmp q) = .slice A n c := h1
  simp only [ho]
  go_simp
  exact h
theorem opGeqF (q r n c : Nat) (hlt : n < c) (ho : o.op = .binOp .geq 3 (.tmp q) (.tmp r) 3) (hq : a.tmps.getD q undef = .int .i64 (n : Int)) (hr : a.tmps.getD r undef = .int .i64 (c : Int)) (h : K (a.put o.dst (.bool false)) w) : o.wp Tryd.prog a w K Q := by
  unfold Oper.wp execOp
  have he : a.eval (.tmp q) = .int .i64 (n : Int) := hq
  have hf : a.eval (.tmp r) = .int .i64 (c : Int) := hr
  simp only [ho, he, hf]
  have e : decide ((c : Int) ≤ (n : Int)) = false := decide_eq_false (by omega)
  go_simp
  have e2 : decide (c ≤ n) = false := decide_eq_false (by omega)
  (try simp only [e])
  (try simp only [e2])
  exact h
theorem opNotT (q : Nat) (ho : o.op = .unOp .not 4 (.tmp q)) (hq : a.tmps.getD q undef = .bool true) (h : K (a.put o.dst (.bool false)) w) : o.wp Tryd.prog a w K Q := by
  unfold Oper.wp execOp
  have he : a.eval (.tmp q) = .bool true := hq
  simp only [ho, he]
  go_simp
  exact h
end
structure BsI (V : World) (mv : Value) (gm : Nat) (rd : Addr) (nr c2 i j : Nat) (ni nj g : Int) (dn : Nat → Bool) (val : Nat → Value) (X : World) : Prop where
  bel : Below V.heap.size V X
  s0 : dn 0 = true → val 0 = mv
  s1 : dn 1 = true → val 1 = .pointer (some ⟨gm, 1, none⟩)
  s2 : dn 2 = true → val 2 = .slice (some rd) nr c2
  s3 : dn 3 = true → val 3 = .int .i64 (i : Int)
  s4 : dn 4 = true → val 4 = .pointer (some (rd.add (i * 2)))
  s5 : dn 5 = true → val 5 = .pointer (some (rd.add (i * 2)))
  s6 : dn 6 = true → val 6 = .int .i64 ni
  s7 : dn 7 = true → val 7 = .pointer (some ⟨gm, 1, none⟩)
  s8 : dn 8 = true → val 8 = .slice (some rd) nr c2
  s9 : dn 9 = true → val 9 = .int .i64 (j : Int)
  s10 : dn 10 = true → val 10 = .pointer (some (rd.add (j * 2)))
  s11 : dn 11 = true → val 11 = .pointer (some (rd.add (j * 2)))
  s12 : dn 12 = true → val 12 = .int .i64 nj
  s13 : dn 13 = true → ∃ r, (val 13) = .tuple #[r, .int .i64 g]
  s14 : dn 14 = true → ∃ r, (val 14) = .tuple #[r, .int .i64 g]
  s16 : dn 16 = true → val 16 = .int .i64 g
  s18 : dn 18 = true → val 18 = .int .i64 g
section
variable {V : World} {mv : Value} {gm : Nat} {rd : Addr} {nr c2 i j : Nat} {ni nj g : Int} {dn : Nat → Bool} {val : Nat → Value} {X Y : World}
theorem BsI.op0 (h : BsI V mv gm rd nr c2 i j ni nj g dn val X) : BsI V mv gm rd nr c2 i j ni nj g (andB dn 0) (updV val 0 (mv)) X :=
  ⟨h.bel, (fun _ => rfl), h.s1, h.s2, h.s3, h.s4, h.s5, h.s6, h.s7, h.s8, h.s9, h.s10, h.s11, h.s12, h.s13, h.s14, h.s16, h.s18⟩
theorem BsI.op1 (h : BsI V mv gm rd nr c2 i j ni nj g dn val X) : BsI V mv gm rd nr c2 i j ni nj g (andB dn 1) (updV val 1 (.pointer (some ⟨gm, 1, none⟩))) X :=
  ⟨h.bel, h.s0, (fun _ => rfl), h.s2, h.s3, h.s4, h.s5, h.s6, h.s7, h.s8, h.s9, h.s10, h.s11, h.s12, h.s13, h.s14, h.s16, h.s18⟩
theorem BsI.op2 (h : BsI V mv gm rd nr c2 i j ni nj g dn val X) : BsI V mv gm rd nr c2 i j ni nj g (andB dn 2) (updV val 2 (.slice (some rd) nr c2)) X :=
  ⟨h.bel, h.s0, h.s1, (fun _ => rfl), h.s3, h.s4, h.s5, h.s6, h.s7, h.s8, h.s9, h.s10, h.s11, h.s12, h.s13, h.s14, h.s16, h.s18⟩
theorem BsI.op3 (h : BsI V mv gm rd nr c2 i j ni nj g dn val X) : BsI V mv gm rd nr c2 i j ni nj g (andB dn 3) (updV val 3 (.int .i64 (i : Int))) X :=
  ⟨h.bel, h.s0, h.s1, h.s2, (fun _ => rfl), h.s4, h.s5, h.s6, h.s7, h.s8, h.s9, h.s10, h.s11, h.s12, h.s13, h.s14, h.s16, h.s18⟩
theorem BsI.op4 (h : BsI V mv gm rd nr c2 i j ni nj g dn val X) : BsI V mv gm rd nr c2 i j ni nj g (andB dn 4) (updV val 4 (.pointer (some (rd.add (i * 2))))) X :=
  ⟨h.bel, h.s0, h.s1, h.s2, h.s3, (fun _ => rfl), h.s5, h.s6, h.s7, h.s8, h.s9, h.s10, h.s11, h.s12, h.s13, h.s14, h.s16, h.s18⟩
theorem BsI.op5 (h : BsI V mv gm rd nr c2 i j ni nj g dn val X) : BsI V mv gm rd nr c2 i j ni nj g (andB dn 5) (updV val 5 (.pointer (some (rd.add (i * 2))))) X :=
  ⟨h.bel, h.s0, h.s1, h.s2, h.s3, h.s4, (fun _ => rfl), h.s6, h.s7, h.s8, h.s9, h.s10, h.s11, h.s12, h.s13, h.s14, h.s16, h.s18⟩
theorem BsI.op6 (h : BsI V mv gm rd nr c2 i j ni nj g dn val X) : BsI V mv gm rd nr c2 i j ni nj g (andB dn 6) (updV val 6 (.int .i64 ni)) X :=
  ⟨h.bel, h.s0, h.s1, h.s2, h.s3, h.s4, h.s5, (fun _ => rfl), h.s7, h.s8, h.s9, h.s10, h.s11, h.s12, h.s13, h.s14, h.s16, h.s18⟩
theorem BsI.op7 (h : BsI V mv gm rd nr c2 i j ni nj g dn val X) : BsI V mv gm rd nr c2 i j ni nj g (andB dn 7) (updV val 7 (.pointer (some ⟨gm, 1, none⟩))) X :=
  ⟨h.bel, h.s0, h.s1, h.s2, h.s3, h.s4, h.s5, h.s6, (fun _ => rfl), h.s8, h.s9, h.s10, h.s11, h.s12, h.s13, h.s14, h.s16, h.s18⟩
theorem BsI.op8 (h : BsI V mv gm rd nr c2 i j ni nj g dn val X) : BsI V mv gm rd nr c2 i j ni nj g (andB dn 8) (updV val 8 (.slice (some rd) nr c2)) X :=
  ⟨h.bel, h.s0, h.s1, h.s2, h.s3, h.s4, h.s5, h.s6, h.s7, (fun _ => rfl), h.s9, h.s10, h.s11, h.s12, h.s13, h.s14, h.s16, h.s18⟩
theorem BsI.op9 (h : BsI V mv gm rd nr c2 i j ni nj g dn val X) : BsI V mv gm rd nr c2 i j ni nj g (andB dn 9) (updV val 9 (.int .i64 (j : Int))) X :=
  ⟨h.bel, h.s0, h.s1, h.s2, h.s3, h.s4, h.s5, h.s6, h.s7, h.s8, (fun _ => rfl), h.s10, h.s11, h.s12, h.s13, h.s14, h.s16, h.s18⟩
theorem BsI.op10 (h : BsI V mv gm rd nr c2 i j ni nj g dn val X) : BsI V mv gm rd nr c2 i j ni nj g (andB dn 10) (updV val 10 (.pointer (some (rd.add (j * 2))))) X :=
  ⟨h.bel, h.s0, h.s1, h.s2, h.s3, h.s4, h.s5, h.s6, h.s7, h.s8, h.s9, (fun _ => rfl), h.s11, h.s12, h.s13, h.s14, h.s16, h.s18⟩
theorem BsI.op11 (h : BsI V mv gm rd nr c2 i j ni nj g dn val X) : BsI V mv gm rd nr c2 i j ni nj g (andB dn 11) (updV val 11 (.pointer (some (rd.add (j * 2))))) X :=
  ⟨h.bel, h.s0, h.s1, h.s2, h.s3, h.s4, h.s5, h.s6, h.s7, h.s8, h.s9, h.s10, (fun _ => rfl), h.s12, h.s13, h.s14, h.s16, h.s18⟩
theorem BsI.op12 (h : BsI V mv gm rd nr c2 i j ni nj g dn val X) : BsI V mv gm rd nr c2 i j ni nj g (andB dn 12) (updV val 12 (.int .i64 nj)) X :=
  ⟨h.bel, h.s0, h.s1, h.s2, h.s3, h.s4, h.s5, h.s6, h.s7, h.s8, h.s9, h.s10, h.s11, (fun _ => rfl), h.s13, h.s14, h.s16, h.s18⟩
theorem BsI.op13 (h : BsI V mv gm rd nr c2 i j ni nj g dn val X) {v : Value} (hv : ∃ r, v = .tuple #[r, .int .i64 g]) (hb : Below X.heap.size X Y) : BsI V mv gm rd nr c2 i j ni nj g (andB dn 13) (updV val 13 (v)) Y :=
  ⟨h.bel.trans (hb.mono h.bel.size), h.s0, h.s1, h.s2, h.s3, h.s4, h.s5, h.s6, h.s7, h.s8, h.s9, h.s10, h.s11, h.s12, (fun _ => hv), (fun d => (h.s14 d)), h.s16, h.s18⟩
theorem BsI.op14 (h : BsI V mv gm rd nr c2 i j ni nj g dn val X) {v : Value} (hv : ∃ r, v = .tuple #[r, .int .i64 g]) : BsI V mv gm rd nr c2 i j ni nj g (andB dn 14) (updV val 14 v) X :=
  ⟨h.bel, h.s0, h.s1, h.s2, h.s3, h.s4, h.s5, h.s6, h.s7, h.s8, h.s9, h.s10, h.s11, h.s12, h.s13, (fun _ => hv), h.s16, h.s18⟩
theorem BsI.op15 (h : BsI V mv gm rd nr c2 i j ni nj g dn val X) (v : Value) : BsI V mv gm rd nr c2 i j ni nj g (andB dn 15) (updV val 15 v) X :=
  ⟨h.bel, h.s0, h.s1, h.s2, h.s3, h.s4, h.s5, h.s6, h.s7, h.s8, h.s9, h.s10, h.s11, h.s12, h.s13, h.s14, h.s16, h.s18⟩
theorem BsI.op16 (h : BsI V mv gm rd nr c2 i j ni nj g dn val X) : BsI V mv gm rd nr c2 i j ni nj g (andB dn 16) (updV val 16 (.int .i64 g)) X :=
  ⟨h.bel, h.s0, h.s1, h.s2, h.s3, h.s4, h.s5, h.s6, h.s7, h.s8, h.s9, h.s10, h.s11, h.s12, h.s13, h.s14, (fun _ => rfl), h.s18⟩
theorem BsI.op17 (h : BsI V mv gm rd nr c2 i j ni nj g dn val X) (v : Value) : BsI V mv gm rd nr c2 i j ni nj g (andB dn 17) (updV val 17 v) X :=
  ⟨h.bel, h.s0, h.s1, h.s2, h.s3, h.s4, h.s5, h.s6, h.s7, h.s8, h.s9, h.s10, h.s11, h.s12, h.s13, h.s14, h.s16, h.s18⟩
theorem BsI.op18 (h : BsI V mv gm rd nr c2 i j ni nj g dn val X) : BsI V mv gm rd nr c2 i j ni nj g (andB dn 18) (updV val 18 (.int .i64 g)) X :=
  ⟨h.bel, h.s0, h.s1, h.s2, h.s3, h.s4, h.s5, h.s6, h.s7, h.s8, h.s9, h.s10, h.s11, h.s12, h.s13, h.s14, h.s16, (fun _ => rfl)⟩
end
structure BsJ (V : World) (gm : Nat) (rd lc : Addr) (nr c2 i j nC cC n : Nat) (lv : Value) (ni nj : Int) (dn : Nat → Bool) (val : Nat → Value) (X : World) : Prop where
  bel : Below V.heap.size V X
  s0 : dn 0 = true → val 0 = .int .i64 (n : Int)
  s1 : dn 1 = true → val 1 = .slice (some lc) nC cC
  s2 : dn 2 = true → val 2 = .int .i64 (nC : Int)
  s3 : dn 3 = true → val 3 = .bool false
  s4 : dn 4 = true → val 4 = .bool false
  s5 : dn 5 = true → val 5 = .slice (some lc) nC cC
  s6 : dn 6 = true → val 6 = .int .i64 (n : Int)
  s7 : dn 7 = true → val 7 = .pointer (some (lc.add n))
  s8 : dn 8 = true → val 8 = lv
  s9 : dn 9 = true → val 9 = .pointer (some ⟨gm, 1, none⟩)
  s10 : dn 10 = true → val 10 = .slice (some rd) nr c2
  s11 : dn 11 = true → val 11 = .int .i64 (i : Int)
  s12 : dn 12 = true → val 12 = .pointer (some (rd.add (i * 2)))
  s13 : dn 13 = true → val 13 = .pointer (some (rd.add (i * 2)))
  s14 : dn 14 = true → val 14 = .int .i64 ni
  s15 : dn 15 = true → val 15 = .pointer (some ⟨gm, 1, none⟩)
  s16 : dn 16 = true → val 16 = .slice (some rd) nr c2
  s17 : dn 17 = true → val 17 = .int .i64 (j : Int)
  s18 : dn 18 = true → val 18 = .pointer (some (rd.add (j * 2)))
  s19 : dn 19 = true → val 19 = .pointer (some (rd.add (j * 2)))
  s20 : dn 20 = true → val 20 = .int .i64 nj
  s21 : dn 21 = true → InSl X X.heap.size (val 21) [ni, nj]
  s22 : dn 22 = true → val 22 = .bool true
  s23 : dn 23 = true → val 23 = .bool false
  s24 : dn 24 = true → val 24 = .bool false
section
variable {V : World} {gm : Nat} {rd lc : Addr} {nr c2 i j nC cC n : Nat} {lv : Value} {ni nj : Int} {dn : Nat → Bool} {val : Nat → Value} {X Y : World}
theorem BsJ.op0 (h : BsJ V gm rd lc nr c2 i j nC cC n lv ni nj dn val X) : BsJ V gm rd lc nr c2 i j nC cC n lv ni nj (andB dn 0) (updV val 0 (.int .i64 (n : Int))) X :=
  ⟨h.bel, (fun _ => rfl), h.s1, h.s2, h.s3, h.s4, h.s5, h.s6, h.s7, h.s8, h.s9, h.s10, h.s11, h.s12, h.s13, h.s14, h.s15, h.s16, h.s17, h.s18, h.s19, h.s20, h.s21, h.s22, h.s23, h.s24⟩
theorem BsJ.op1 (h : BsJ V gm rd lc nr c2 i j nC cC n lv ni nj dn val X) : BsJ V gm rd lc nr c2 i j nC cC n lv ni nj (andB dn 1) (updV val 1 (.slice (some lc) nC cC)) X :=
  ⟨h.bel, h.s0, (fun _ => rfl), h.s2, h.s3, h.s4, h.s5, h.s6, h.s7, h.s8, h.s9, h.s10, h.s11, h.s12, h.s13, h.s14, h.s15, h.s16, h.s17, h.s18, h.s19, h.s20, h.s21, h.s22, h.s23, h.s24⟩
theorem BsJ.op2 (h : BsJ V gm rd lc nr c2 i j nC cC n lv ni nj dn val X) : BsJ V gm rd lc nr c2 i j nC cC n lv ni nj (andB dn 2) (updV val 2 (.int .i64 (nC : Int))) X :=
  ⟨h.bel, h.s0, h.s1, (fun _ => rfl), h.s3, h.s4, h.s5, h.s6, h.s7, h.s8, h.s9, h.s10, h.s11, h.s12, h.s13, h.s14, h.s15, h.s16, h.s17, h.s18, h.s19, h.s20, h.s21, h.s22, h.s23, h.s24⟩
theorem BsJ.op3 (h : BsJ V gm rd lc nr c2 i j nC cC n lv ni nj dn val X) : BsJ V gm rd lc nr c2 i j nC cC n lv ni nj (andB dn 3) (updV val 3 (.bool false)) X :=
  ⟨h.bel, h.s0, h.s1, h.s2, (fun _ => rfl), h.s4, h.s5, h.s6, h.s7, h.s8, h.s9, h.s10, h.s11, h.s12, h.s13, h.s14, h.s15, h.s16, h.s17, h.s18, h.s19, h.s20, h.s21, h.s22, h.s23, h.s24⟩
theorem BsJ.op4 (h : BsJ V gm rd lc nr c2 i j nC cC n lv ni nj dn val X) : BsJ V gm rd lc nr c2 i j nC cC n lv ni nj (andB dn 4) (updV val 4 (.bool false)) X :=
  ⟨h.bel, h.s0, h.s1, h.s2, h.s3, (fun _ => rfl), h.s5, h.s6, h.s7, h.s8, h.s9, h.s10, h.s11, h.s12, h.s13, h.s14, h.s15, h.s16, h.s17, h.s18, h.s19, h.s20, h.s21, h.s22, h.s23, h.s24⟩
theorem BsJ.op5 (h : BsJ V gm rd lc nr c2 i j nC cC n lv ni nj dn val X) : BsJ V gm rd lc nr c2 i j nC cC n lv ni nj (andB dn 5) (updV val 5 (.slice (some lc) nC cC)) X :=
  ⟨h.bel, h.s0, h.s1, h.s2, h.s3, h.s4, (fun _ => rfl), h.s6, h.s7, h.s8, h.s9, h.s10, h.s11, h.s12, h.s13, h.s14, h.s15, h.s16, h.s17, h.s18, h.s19, h.s20, h.s21, h.s22, h.s23, h.s24⟩
theorem BsJ.op6 (h : BsJ V gm rd lc nr c2 i j nC cC n lv ni nj dn val X) : BsJ V gm rd lc nr c2 i j nC cC n lv ni nj (andB dn 6) (updV val 6 (.int .i64 (n : Int))) X :=
  ⟨h.bel, h.s0, h.s1, h.s2, h.s3, h.s4, h.s5, (fun _ => rfl), h.s7, h.s8, h.s9, h.s10, h.s11, h.s12, h.s13, h.s14, h.s15, h.s16, h.s17, h.s18, h.s19, h.s20, h.s21, h.s22, h.s23, h.s24⟩
theorem BsJ.op7 (h : BsJ V gm rd lc nr c2 i j nC cC n lv ni nj dn val X) : BsJ V gm rd lc nr c2 i j nC cC n lv ni nj (andB dn 7) (updV val 7 (.pointer (some (lc.add n)))) X :=
  ⟨h.bel, h.s0, h.s1, h.s2, h.s3, h.s4, h.s5, h.s6, (fun _ => rfl), h.s8, h.s9, h.s10, h.s11, h.s12, h.s13, h.s14, h.s15, h.s16, h.s17, h.s18, h.s19, h.s20, h.s21, h.s22, h.s23, h.s24⟩
theorem BsJ.op8 (h : BsJ V gm rd lc nr c2 i j nC cC n lv ni nj dn val X) : BsJ V gm rd lc nr c2 i j nC cC n lv ni nj (andB dn 8) (updV val 8 (lv)) X :=
  ⟨h.bel, h.s0, h.s1, h.s2, h.s3, h.s4, h.s5, h.s6, h.s7, (fun _ => rfl), h.s9, h.s10, h.s11, h.s12, h.s13, h.s14, h.s15, h.s16, h.s17, h.s18, h.s19, h.s20, h.s21, h.s22, h.s23, h.s24⟩
theorem BsJ.op9 (h : BsJ V gm rd lc nr c2 i j nC cC n lv ni nj dn val X) : BsJ V gm rd lc nr c2 i j nC cC n lv ni nj (andB dn 9) (updV val 9 (.pointer (some ⟨gm, 1, none⟩))) X :=
  ⟨h.bel, h.s0, h.s1, h.s2, h.s3, h.s4, h.s5, h.s6, h.s7, h.s8, (fun _ => rfl), h.s10, h.s11, h.s12, h.s13, h.s14, h.s15, h.s16, h.s17, h.s18, h.s19, h.s20, h.s21, h.s22, h.s23, h.s24⟩
theorem BsJ.op10 (h : BsJ V gm rd lc nr c2 i j nC cC n lv ni nj dn val X) : BsJ V gm rd lc nr c2 i j nC cC n lv ni nj (andB dn 10) (updV val 10 (.slice (some rd) nr c2)) X :=
  ⟨h.bel, h.s0, h.s1, h.s2, h.s3, h.s4, h.s5, h.s6, h.s7, h.s8, h.s9, (fun _ => rfl), h.s11, h.s12, h.s13, h.s14, h.s15, h.s16, h.s17, h.s18, h.s19, h.s20, h.s21, h.s22, h.s23, h.s24⟩
theorem BsJ.op11 (h : BsJ V gm rd lc nr c2 i j nC cC n lv ni nj dn val X) : BsJ V gm rd lc nr c2 i j nC cC n lv ni nj (andB dn 11) (updV val 11 (.int .i64 (i : Int))) X :=
  ⟨h.bel, h.s0, h.s1, h.s2, h.s3, h.s4, h.s5, h.s6, h.s7, h.s8, h.s9, h.s10, (fun _ => rfl), h.s12, h.s13, h.s14, h.s15, h.s16, h.s17, h.s18, h.s19, h.s20, h.s21, h.s22, h.s23, h.s24⟩
theorem BsJ.op12 (h : BsJ V gm rd lc nr c2 i j nC cC n lv ni nj dn val X) : BsJ V gm rd lc nr c2 i j nC cC n lv ni nj (andB dn 12) (updV val 12 (.pointer (some (rd.add (i * 2))))) X :=
  ⟨h.bel, h.s0, h.s1, h.s2, h.s3, h.s4, h.s5, h.s6, h.s7, h.s8, h.s9, h.s10, h.s11, (fun _ => rfl), h.s13, h.s14, h.s15, h.s16, h.s17, h.s18, h.s19, h.s20, h.s21, h.s22, h.s23, h.s24⟩
theorem BsJ.op13 (h : BsJ V gm rd lc nr c2 i j nC cC n lv ni nj dn val X) : BsJ V gm rd lc nr c2 i j nC cC n lv ni nj (andB dn 13) (updV val 13 (.pointer (some (rd.add (i * 2))))) X :=
  ⟨h.bel, h.s0, h.s1, h.s2, h.s3, h.s4, h.s5, h.s6, h.s7, h.s8, h.s9, h.s10, h.s11, h.s12, (fun _ => rfl), h.s14, h.s15, h.s16, h.s17, h.s18, h.s19, h.s20, h.s21, h.s22, h.s23, h.s24⟩
theorem BsJ.op14 (h : BsJ V gm rd lc nr c2 i j nC cC n lv ni nj dn val X) : BsJ V gm rd lc nr c2 i j nC cC n lv ni nj (andB dn 14) (updV val 14 (.int .i64 ni)) X :=
  ⟨h.bel, h.s0, h.s1, h.s2, h.s3, h.s4, h.s5, h.s6, h.s7, h.s8, h.s9, h.s10, h.s11, h.s12, h.s13, (fun _ => rfl), h.s15, h.s16, h.s17, h.s18, h.s19, h.s20, h.s21, h.s22, h.s23, h.s24⟩
theorem BsJ.op15 (h : BsJ V gm rd lc nr c2 i j nC cC n lv ni nj dn val X) : BsJ V gm rd lc nr c2 i j nC cC n lv ni nj (andB dn 15) (updV val 15 (.pointer (some ⟨gm, 1, none⟩))) X :=
  ⟨h.bel, h.s0, h.s1, h.s2, h.s3, h.s4, h.s5, h.s6, h.s7, h.s8, h.s9, h.s10, h.s11, h.s12, h.s13, h.s14, (fun _ => rfl), h.s16, h.s17, h.s18, h.s19, h.s20, h.s21, h.s22, h.s23, h.s24⟩
theorem BsJ.op16 (h : BsJ V gm rd lc nr c2 i j nC cC n lv ni nj dn val X) : BsJ V gm rd lc nr c2 i j nC cC n lv ni nj (andB dn 16) (updV val 16 (.slice (some rd) nr c2)) X :=
  ⟨h.bel, h.s0, h.s1, h.s2, h.s3, h.s4, h.s5, h.s6, h.s7, h.s8, h.s9, h.s10, h.s11, h.s12, h.s13, h.s14, h.s15, (fun _ => rfl), h.s17, h.s18, h.s19, h.s20, h.s21, h.s22, h.s23, h.s24⟩
theorem BsJ.op17 (h : BsJ V gm rd lc nr c2 i j nC cC n lv ni nj dn val X) : BsJ V gm rd lc nr c2 i j nC cC n lv ni nj (andB dn 17) (updV val 17 (.int .i64 (j : Int))) X :=
  ⟨h.bel, h.s0, h.s1, h.s2, h.s3, h.s4, h.s5, h.s6, h.s7, h.s8, h.s9, h.s10, h.s11, h.s12, h.s13, h.s14, h.s15, h.s16, (fun _ => rfl), h.s18, h.s19, h.s20, h.s21, h.s22, h.s23, h.s24⟩
theorem BsJ.op18 (h : BsJ V gm rd lc nr c2 i j nC cC n lv ni nj dn val X) : BsJ V gm rd lc nr c2 i j nC cC n lv ni nj (andB dn 18) (updV val 18 (.pointer (some (rd.add (j * 2))))) X :=
  ⟨h.bel, h.s0, h.s1, h.s2, h.s3, h.s4, h.s5, h.s6, h.s7, h.s8, h.s9, h.s10, h.s11, h.s12, h.s13, h.s14, h.s15, h.s16, h.s17, (fun _ => rfl), h.s19, h.s20, h.s21, h.s22, h.s23, h.s24⟩
theorem BsJ.op19 (h : BsJ V gm rd lc nr c2 i j nC cC n lv ni nj dn val X) : BsJ V gm rd lc nr c2 i j nC cC n lv ni nj (andB dn 19) (updV val 19 (.pointer (some (rd.add (j * 2))))) X :=
  ⟨h.bel, h.s0, h.s1, h.s2, h.s3, h.s4, h.s5, h.s6, h.s7, h.s8, h.s9, h.s10, h.s11, h.s12, h.s13, h.s14, h.s15, h.s16, h.s17, h.s18, (fun _ => rfl), h.s20, h.s21, h.s22, h.s23, h.s24⟩
theorem BsJ.op20 (h : BsJ V gm rd lc nr c2 i j nC cC n lv ni nj dn val X) : BsJ V gm rd lc nr c2 i j nC cC n lv ni nj (andB dn 20) (updV val 20 (.int .i64 nj)) X :=
  ⟨h.bel, h.s0, h.s1, h.s2, h.s3, h.s4, h.s5, h.s6, h.s7, h.s8, h.s9, h.s10, h.s11, h.s12, h.s13, h.s14, h.s15, h.s16, h.s17, h.s18, h.s19, (fun _ => rfl), h.s21, h.s22, h.s23, h.s24⟩
theorem BsJ.op21 (h : BsJ V gm rd lc nr c2 i j nC cC n lv ni nj dn val X) {v : Value} (hv : InSl Y Y.heap.size v [ni, nj]) (hb : Below X.heap.size X Y) : BsJ V gm rd lc nr c2 i j nC cC n lv ni nj (andB dn 21) (updV val 21 (v)) Y :=
  ⟨h.bel.trans (hb.mono h.bel.size), h.s0, h.s1, h.s2, h.s3, h.s4, h.s5, h.s6, h.s7, h.s8, h.s9, h.s10, h.s11, h.s12, h.s13, h.s14, h.s15, h.s16, h.s17, h.s18, h.s19, h.s20, (fun _ => hv), h.s22, h.s23, h.s24⟩
theorem BsJ.op22 (h : BsJ V gm rd lc nr c2 i j nC cC n lv ni nj dn val X)  (hb : Below X.heap.size X Y) : BsJ V gm rd lc nr c2 i j nC cC n lv ni nj (andB dn 22) (updV val 22 (.bool true)) Y :=
  ⟨h.bel.trans (hb.mono h.bel.size), h.s0, h.s1, h.s2, h.s3, h.s4, h.s5, h.s6, h.s7, h.s8, h.s9, h.s10, h.s11, h.s12, h.s13, h.s14, h.s15, h.s16, h.s17, h.s18, h.s19, h.s20, (fun d => (h.s21 d).step hb), (fun _ => rfl), h.s23, h.s24⟩
theorem BsJ.op23 (h : BsJ V gm rd lc nr c2 i j nC cC n lv ni nj dn val X) : BsJ V gm rd lc nr c2 i j nC cC n lv ni nj (andB dn 23) (updV val 23 (.bool false)) X :=
  ⟨h.bel, h.s0, h.s1, h.s2, h.s3, h.s4, h.s5, h.s6, h.s7, h.s8, h.s9, h.s10, h.s11, h.s12, h.s13, h.s14, h.s15, h.s16, h.s17, h.s18, h.s19, h.s20, h.s21, h.s22, (fun _ => rfl), h.s24⟩
theorem BsJ.op24 (h : BsJ V gm rd lc nr c2 i j nC cC n lv ni nj dn val X) : BsJ V gm rd lc nr c2 i j nC cC n lv ni nj (andB dn 24) (updV val 24 (.bool false)) X :=
  ⟨h.bel, h.s0, h.s1, h.s2, h.s3, h.s4, h.s5, h.s6, h.s7, h.s8, h.s9, h.s10, h.s11, h.s12, h.s13, h.s14, h.s15, h.s16, h.s17, h.s18, h.s19, h.s20, h.s21, h.s22, h.s23, (fun _ => rfl)⟩
end
end Go.Proofs.YthfegbcbpeedbaaDoor
namespace Go.Proofs.YthfegbcbpeedbaaDoor
open Go.RowKit Go.Nm Go.Ky

set_option maxRecDepth 100000 in
set_option maxHeartbeats 16000000 in
theorem KeysBest_any (v : Value) (m : Mx) (w : World) (hv : MxV w v m) (hT : TabH w) :
    Calls Tryd.prog 12 #[v] w fun e w' => e = .returned (.bool true) ∧ Below w.heap.size w w' := by
  obtain ⟨A1, c1, A2, c2, W0, rfl, hW0, hb0, hM, hS, hR, hX⟩ := mx_box hv
  have hn0 : W0.heap[w.heap.size]? = some (.cells #[.slice A1 m.st.length c1, .slice A2 m.rows.length c2] 25) := by rw [← hW0]; exact World.alloc_heap_new w _
  have HW := Lib.hid hW0
  have HB := Lib.hid hb0
  have HT := Lib.hid (hT.step hb0)
  have HM := Lib.hid (hM W0 (Below.refl _ _))
  have HBx := Lib.hid hn0
  obtain ⟨ns, hns⟩ : ∃ n, m.st.length = n := ⟨_, rfl⟩
  obtain ⟨nr, hnr⟩ : ∃ n, m.rows.length = n := ⟨_, rfl⟩
  rw [hns, hnr] at HW HM HBx
  rw [hns, hnr]
  have HNs := Lib.hid (And.intro hns hnr)
  obtain ⟨k0, k1⟩ := cells_two HBx.out
  clear hv hT hW0 hb0 hM hS hR hX hn0 hns hnr
  go_enter Tryd.func12, Tryd.ntmps12
  go_wp2_with fail
  rw [HW.out]
  (try go_wp2_with fail)
  (with_reducible refine (awake_any _ HT.out).mono ?_)
  rintro e w1 ⟨rfl, hb⟩
  replace HB := Lib.hid (HB.out.trans (hb.mono HB.out.size))
  replace HT := Lib.hid (HT.out.step hb)
  replace HM := Lib.hid (HM.out.step hb)
  replace HBx := Lib.hid ((hb.block _ (Array.getElem?_eq_some_iff.1 HBx.out).1).trans HBx.out)
  clear hb
  clear k0 k1
  obtain ⟨k0, k1⟩ := cells_two HBx.out
  have HFw := Lib.hid (few_any _ m w1 HM.out)
  cases hfw : fewF m with
  | false =>
    rw [hfw] at HFw
    clear hfw
    go_wp2_with fail
    (with_reducible refine HFw.out.mono ?_)
    rintro e w2 ⟨rfl, hb⟩
    replace HB := Lib.hid (HB.out.trans (hb.mono HB.out.size))
    clear hb
    go_wp2_with fail
    go_ret
    exact ⟨rfl, HB.out⟩
  | true =>
  rw [hfw] at HFw
  have HSm := Lib.hid (few_sm hfw)
  have HFe := Lib.hid hfw
  clear hfw
  go_wp2_with fail
  (with_reducible refine HFw.out.mono ?_)
  rintro e w3 ⟨rfl, hb⟩
  replace HB := Lib.hid (HB.out.trans (hb.mono HB.out.size))
  replace HT := Lib.hid (HT.out.step hb)
  replace HM := Lib.hid (HM.out.step hb)
  replace HBx := Lib.hid ((hb.block _ (Array.getElem?_eq_some_iff.1 HBx.out).1).trans HBx.out)
  clear HFw
  clear hb
  clear k0 k1
  obtain ⟨k0, k1⟩ := cells_two HBx.out
  by_cases h5 : (5 : Int) < (ns : Int)
  · by_cases h6 : (ns : Int) ≤ 64
    · go_wp2_with fail
      refine bodyPost_ret (v := .bool true) (by simp [results, Tryd.results12, go_sem]) rfl ?_
      exact And.intro rfl HB.out
    · skip
      have HC := Lib.hid (Build_any _ m w3 HM.out HSm.out)
      rcases build_cs m with h0 | h0 | h0
      · exfalso
        have hc := chr_ok (mx_chr (build_bd h0).mx)
        have h7 := HNs.out.1
        omega
      · skip
        rw [h0] at HC
        clear h0
        obtain ⟨k, hk5⟩ : ∃ k, buildK m = k := ⟨_, rfl⟩
        rw [hk5] at HC
        clear hk5
        go_wp2_with fail
        (with_reducible refine HC.out.mono ?_)
        rintro e w4 ⟨⟨u0, rfl, hk⟩, hb⟩
        replace HB := Lib.hid (HB.out.trans (hb.mono HB.out.size))
        replace HT := Lib.hid (HT.out.step hb)
        replace HM := Lib.hid (HM.out.step hb)
        replace HBx := Lib.hid ((hb.block _ (Array.getElem?_eq_some_iff.1 HBx.out).1).trans HBx.out)
        obtain ⟨D1, e1, D2, e2, W5, rfl, hW5, hb5, hKy5, _, _, _⟩ := ky_box hk
        have hn5 : W5.heap[w4.heap.size]? = some (.cells #[.slice D1 k.nd.length e1, .slice D2 k.lv.length e2] 53) := by rw [← hW5]; exact World.alloc_heap_new w4 _
        have HKy := Lib.hid (hKy5 W5 (Below.refl _ _))
        have HKx := Lib.hid hn5
        clear hb
        clear k0 k1
        obtain ⟨k0, k1⟩ := cells_two HBx.out
        clear k0 k1
        replace HB := Lib.hid (HB.out.trans (hb5.mono HB.out.size))
        replace HT := Lib.hid (HT.out.step hb5)
        replace HM := Lib.hid (HM.out.step hb5)
        replace HBx := Lib.hid ((hb5.block _ (Array.getElem?_eq_some_iff.1 HBx.out).1).trans HBx.out)
        obtain ⟨k0, k1⟩ := cells_two HBx.out
        obtain ⟨j0, j1⟩ := cells_two HKx.out
        clear hk hKy5 hn5 HC hb5
        obtain ⟨nn, hnn⟩ : ∃ n, k.nd.length = n := ⟨_, rfl⟩
        obtain ⟨nl, hnl⟩ : ∃ n, k.lv.length = n := ⟨_, rfl⟩
        rw [hnn] at hW5 j0 HKy HKx
        rw [hnl] at hW5 j1 HKy HKx
        rw [hnn, hnl]
        clear hnn hnl
        go_wp2_with fail
        refine bodyPost_ret (v := .bool true) (by simp [results, Tryd.results12, go_sem]) rfl ?_
        exact And.intro rfl HB.out
      · skip
        rw [h0] at HC
        clear h0
        obtain ⟨k, hk5⟩ : ∃ k, buildK m = k := ⟨_, rfl⟩
        rw [hk5] at HC
        clear hk5
        go_wp2_with fail
        (with_reducible refine HC.out.mono ?_)
        rintro e w5 ⟨⟨u0, rfl, hk⟩, hb⟩
        replace HB := Lib.hid (HB.out.trans (hb.mono HB.out.size))
        replace HT := Lib.hid (HT.out.step hb)
        replace HM := Lib.hid (HM.out.step hb)
        replace HBx := Lib.hid ((hb.block _ (Array.getElem?_eq_some_iff.1 HBx.out).1).trans HBx.out)
        obtain ⟨D1, e1, D2, e2, W5, rfl, hW5, hb5, hKy5, _, _, _⟩ := ky_box hk
        have hn5 : W5.heap[w5.heap.size]? = some (.cells #[.slice D1 k.nd.length e1, .slice D2 k.lv.length e2] 53) := by rw [← hW5]; exact World.alloc_heap_new w5 _
        have HKy := Lib.hid (hKy5 W5 (Below.refl _ _))
        have HKx := Lib.hid hn5
        clear hb
        clear k0 k1
        obtain ⟨k0, k1⟩ := cells_two HBx.out
        clear k0 k1
        replace HB := Lib.hid (HB.out.trans (hb5.mono HB.out.size))
        replace HT := Lib.hid (HT.out.step hb5)
        replace HM := Lib.hid (HM.out.step hb5)
        replace HBx := Lib.hid ((hb5.block _ (Array.getElem?_eq_some_iff.1 HBx.out).1).trans HBx.out)
        obtain ⟨k0, k1⟩ := cells_two HBx.out
        obtain ⟨j0, j1⟩ := cells_two HKx.out
        clear hk hKy5 hn5 HC hb5
        obtain ⟨nn, hnn⟩ : ∃ n, k.nd.length = n := ⟨_, rfl⟩
        obtain ⟨nl, hnl⟩ : ∃ n, k.lv.length = n := ⟨_, rfl⟩
        rw [hnn] at hW5 j0 HKy HKx
        rw [hnl] at hW5 j1 HKy HKx
        rw [hnn, hnl]
        clear hnn hnl
        go_wp2_with fail
        refine bodyPost_ret (v := .bool true) (by simp [results, Tryd.results12, go_sem]) rfl ?_
        exact And.intro rfl HB.out
  · skip
    have HC := Lib.hid (Build_any _ m w3 HM.out HSm.out)
    rcases build_cs m with h0 | h0 | h0
    · have HBd0 := Lib.hid (build_bd h0)
      rw [h0] at HC
      clear h0
      obtain ⟨k, hk5⟩ : ∃ k, buildK m = k := ⟨_, rfl⟩
      rw [hk5] at HC
      rw [hk5] at HBd0
      clear hk5
      go_wp2_with fail
      (with_reducible refine HC.out.mono ?_)
      rintro e w6 ⟨⟨u0, rfl, hk⟩, hb⟩
      replace HB := Lib.hid (HB.out.trans (hb.mono HB.out.size))
      replace HT := Lib.hid (HT.out.step hb)
      replace HM := Lib.hid (HM.out.step hb)
      replace HBx := Lib.hid ((hb.block _ (Array.getElem?_eq_some_iff.1 HBx.out).1).trans HBx.out)
      obtain ⟨D1, e1, D2, e2, W5, rfl, hW5, hb5, hKy5, _, _, _⟩ := ky_box hk
      have hn5 : W5.heap[w6.heap.size]? = some (.cells #[.slice D1 k.nd.length e1, .slice D2 k.lv.length e2] 53) := by rw [← hW5]; exact World.alloc_heap_new w6 _
      have HKy := Lib.hid (hKy5 W5 (Below.refl _ _))
      have HKx := Lib.hid hn5
      clear hb
      clear k0 k1
      obtain ⟨k0, k1⟩ := cells_two HBx.out
      clear k0 k1
      replace HB := Lib.hid (HB.out.trans (hb5.mono HB.out.size))
      replace HT := Lib.hid (HT.out.step hb5)
      replace HM := Lib.hid (HM.out.step hb5)
      replace HBx := Lib.hid ((hb5.block _ (Array.getElem?_eq_some_iff.1 HBx.out).1).trans HBx.out)
      obtain ⟨k0, k1⟩ := cells_two HBx.out
      obtain ⟨j0, j1⟩ := cells_two HKx.out
      clear hk hKy5 hn5 HC hb5
      obtain ⟨nn, hnn⟩ : ∃ n, k.nd.length = n := ⟨_, rfl⟩
      obtain ⟨nl, hnl⟩ : ∃ n, k.lv.length = n := ⟨_, rfl⟩
      rw [hnn] at hW5 j0 HKy HKx
      rw [hnl] at hW5 j1 HKy HKx
      rw [hnn, hnl]
      clear hnn hnl
      go_wp2_with fail
      have hck := bd_ok HBd0.out
      have HKm := Lib.hid (bd_sm HBd0.out HSm.out)
      have hre : rightE m k = 0 := by rw [right_val, bd_right HBd0.out]; rfl
      have HC := Lib.hid (Right_any _ _ m k W5 HM.out HSm.out HKy.out HKm.out)
      rw [bd_right HBd0.out, hre, show decide ((3 : Int) = 3) = true from rfl] at HC
      have HD := Lib.hid (And.intro hck (show confL m k = cntB m m.rows.length from by unfold confL; rw [if_pos hck, bd_conf HBd0.out]))
      clear hre hck hW5
      (with_reducible refine HC.out.mono ?_)
      rintro e w7 ⟨rfl, hb⟩
      replace HB := Lib.hid (HB.out.trans (hb.mono HB.out.size))
      replace HT := Lib.hid (HT.out.step hb)
      replace HM := Lib.hid (HM.out.step hb)
      replace HBx := Lib.hid ((hb.block _ (Array.getElem?_eq_some_iff.1 HBx.out).1).trans HBx.out)
      replace HKy := Lib.hid (HKy.out.step hb)
      replace HKx := Lib.hid ((hb.block _ (Array.getElem?_eq_some_iff.1 HKx.out).1).trans HKx.out)
      clear HC
      clear hb
      clear k0 k1 j0 j1
      obtain ⟨k0, k1⟩ := cells_two HBx.out
      obtain ⟨j0, j1⟩ := cells_two HKx.out
      have HC := Lib.hid (Confused_any _ _ m k w7 HM.out HSm.out HKy.out HKm.out HT.out)
      rw [HD.out.1, HD.out.2] at HC
      obtain ⟨cl, hcl⟩ : ∃ x, cntB m m.rows.length = x := ⟨_, rfl⟩
      have HCe := Lib.hid hcl
      rw [hcl] at HC
      clear hcl
      go_wp2_with fail
      (with_reducible refine HC.out.mono ?_)
      rintro e w8 ⟨⟨u1, rfl, hf⟩, hb⟩
      replace HB := Lib.hid (HB.out.trans (hb.mono HB.out.size))
      replace HT := Lib.hid (HT.out.step hb)
      replace HM := Lib.hid (HM.out.step hb)
      replace HBx := Lib.hid ((hb.block _ (Array.getElem?_eq_some_iff.1 HBx.out).1).trans HBx.out)
      replace HKy := Lib.hid (HKy.out.step hb)
      replace HKx := Lib.hid ((hb.block _ (Array.getElem?_eq_some_iff.1 HKx.out).1).trans HKx.out)
      have H1 := Lib.hid hf
      clear hf HC
      clear hb
      clear k0 k1 j0 j1
      obtain ⟨k0, k1⟩ := cells_two HBx.out
      obtain ⟨j0, j1⟩ := cells_two HKx.out
      obtain ⟨Lc, cC, rfl⟩ := H1.out.form
      have HC := Lib.hid (CheckKey_any _ _ m k w8 HM.out HSm.out HKy.out HKm.out)
      rw [HD.out.1] at HC
      go_wp2_with fail
      (with_reducible refine HC.out.mono ?_)
      rintro e w9 ⟨rfl, hb⟩
      replace HB := Lib.hid (HB.out.trans (hb.mono HB.out.size))
      replace HT := Lib.hid (HT.out.step hb)
      replace HM := Lib.hid (HM.out.step hb)
      replace HBx := Lib.hid ((hb.block _ (Array.getElem?_eq_some_iff.1 HBx.out).1).trans HBx.out)
      replace HKy := Lib.hid (HKy.out.step hb)
      replace HKx := Lib.hid ((hb.block _ (Array.getElem?_eq_some_iff.1 HKx.out).1).trans HKx.out)
      replace H1 := Lib.hid (H1.out.step hb)
      clear HC
      clear hb
      clear k0 k1 j0 j1
      obtain ⟨k0, k1⟩ := cells_two HBx.out
      obtain ⟨j0, j1⟩ := cells_two HKx.out
      obtain ⟨nC, hnC⟩ : ∃ n, cl.length = n := ⟨_, rfl⟩
      have HNC := Lib.hid hnC
      have hnC2 : (nC : Int) < 10000000000 := by
        have h := flat_len (L := keysB k.lv) (F := fun a => (pairB k.lv a).map fun b => [a, b]) (b := 65536) (fun a => by rw [List.length_map]; exact pairB_len _ _)
        have h2 := keysB_len k.lv
        have e : cl.length = ((keysB k.lv).flatMap fun a => (pairB k.lv a).map fun b => [a, b]).length := by rw [← HCe.out, ← bd_conf HBd0.out]; rfl
        have h3 : (keysB k.lv).length * 65536 ≤ 65536 * 65536 := Nat.mul_le_mul_right _ h2
        omega
      rw [hnC] at H1 ⊢
      clear hnC
      have hnr : nr ≤ 1000 := by rw [← HNs.out.2]; exact HSm.out.2.1
      have HMx := Lib.hid HBd0.out.mx
      have HIl := Lib.hid (show IlSl w9 w9.heap.size (.slice A2 nr c2) m.rows from by
        obtain ⟨_, _, e, h1, h2⟩ := HM.out
        cases e
        exact h2)
      have HO := Lib.hid (show ∀ Y, Below w9.heap.size w9 Y → ((Y.heap[w.heap.size]? = some (.cells #[.slice A1 ns c1, .slice A2 nr c2] 25) ∧ Y.cell? ⟨w.heap.size, 1, none⟩ = some (.slice A2 nr c2) ∧ Y.cell? ⟨w.heap.size, 0, none⟩ = some (.slice A1 ns c1)) ∧ MxV Y (.agg #[.slice A1 ns c1, .slice A2 nr c2]) m ∧ VsSl Y Y.heap.size (.slice Lc nC cC) cl ∧ TabH Y) from fun Y h => ⟨⟨(h.block _ (Array.getElem?_eq_some_iff.1 HBx.out).1).trans HBx.out, (cells_two ((h.block _ (Array.getElem?_eq_some_iff.1 HBx.out).1).trans HBx.out)).2, (cells_two ((h.block _ (Array.getElem?_eq_some_iff.1 HBx.out).1).trans HBx.out)).1⟩, HM.out.step h, H1.out.step h, HT.out.step h⟩)
      clear k0 k1 j0 j1
      obtain ⟨⟨_, k1, _⟩, _⟩ := HO.out w9 (Below.refl _ _)
      go_wp2_with fail
      clear k1
      go_loopw [10, 11] (fun nv iv wr => ∃ n i : Nat, nv = .int .i64 (n : Int) ∧ iv = .int .i64 (i : Int) ∧ i ≤ nr ∧ Below w9.heap.size w9 wr ∧ n = (cntB m i).length) (fun _ iv _ => nr - (intOf iv).toNat)
      case atStart => exact ⟨0, 0, rfl, rfl, by omega, Below.refl _ _, rfl⟩
      case round =>
        obtain ⟨n0, i, rfl, rfl, hin, hb, hn0⟩ := hrel
        have HBi := Lib.hid hb
        have HN0 := Lib.hid hn0
        clear hb hn0
        obtain ⟨⟨_, k1, _⟩, _⟩ := HO.out wr HBi.out
        by_cases hir : i < nr
        · have hirI : (i : Int) < (nr : Int) := by omega
          obtain ⟨ri, rd, _, _, hri, rfl, hYi⟩ := HIl.out.at_ hir
          have HRi := Lib.hid hri
          have HRn := Lib.hid (cntB_next hri)
          have HYi := Lib.hid hYi
          clear hri hYi
          go_wp2_with fail
          clear k1
          go_loopw [10, 12] (fun nv jv wr => ∃ n j : Nat, nv = .int .i64 (n : Int) ∧ jv = .int .i64 (j : Int) ∧ i < j ∧ j ≤ nr ∧ Below w9.heap.size w9 wr ∧ n = (cntB m i).length + (rowG m j ri).length) (fun _ jv _ => nr - (intOf jv).toNat)
          case atStart => exact ⟨n0, i + 1, rfl, by go_num, by omega, by omega, HBi.out, by rw [rowG_start HMx.out HRi.out, HN0.out]; rfl⟩
          case round =>
            obtain ⟨n, j, rfl, rfl, hij, hjn, hb, hn1⟩ := hrel
            have HBj := Lib.hid hb
            have HN1 := Lib.hid hn1
            clear hb hn1
            obtain ⟨⟨_, k1, _⟩, _⟩ := HO.out wr HBj.out
            by_cases hjr : j < nr
            · have hjrI : (j : Int) < (nr : Int) := by omega
              obtain ⟨rj, rd2, _, _, hrj, e2, hYj⟩ := HIl.out.at_ hjr
              cases e2
              obtain ⟨ni, hni⟩ : ∃ x, ri.nm = x := ⟨_, rfl⟩
              obtain ⟨nj, hnj⟩ : ∃ x, rj.nm = x := ⟨_, rfl⟩
              have HNm := Lib.hid (show ∀ Y (h : Below w9.heap.size w9 Y), Y.cell? (rd.add (i * 2)) = some (.int .i64 ni) ∧ Y.cell? (rd.add (j * 2)) = some (.int .i64 nj) from fun Y h => by
                rw [← hni, ← hnj]
                exact And.intro (HYi.out Y h).1.1 (hYj Y h).1.1)
              obtain ⟨g, hg⟩ : ∃ x, sameE m ni nj = x := ⟨_, rfl⟩
              have HHit := Lib.hid (show g = 0 → (rowG m (j + 1) ri).length = (rowG m j ri).length + 1 ∧ cl[n]? = some [ni, nj] ∧ n < nC from fun h0 => by
                have h2 := cnt_hit HMx.out HRi.out hrj hij (by rw [hni, hnj, hg]; exact h0)
                rw [HCe.out, HNC.out, ← HN1.out, hni, hnj] at h2
                exact h2)
              have HMis := Lib.hid (show g ≠ 0 → rowG m (j + 1) ri = rowG m j ri from fun h0 => cnt_miss hrj (by rw [hni, hnj, hg]; exact h0))
              have HSa := Lib.hid (fun Y (h : Below w9.heap.size w9 Y) => show Calls Tryd.prog 32 #[.agg #[.slice A1 ns c1, .slice (some rd) nr c2], .int .i64 ni, .int .i64 nj] Y fun e w' => (∃ u, e = .returned (.tuple #[u, .int .i64 g])) ∧ Below Y.heap.size Y w' from by
                have h2 := Same_any _ m ni nj Y (HO.out Y h).2.1 HSm.out (HO.out Y h).2.2.2
                rw [hg] at h2
                refine h2.mono ?_
                rintro e w' ⟨⟨u, rfl, _⟩, h4⟩
                exact ⟨⟨u, rfl⟩, h4⟩)
              clear hrj hni hnj hYj hg
              go_wp2_with fail
              have HBd := Lib.hid (fun X (hI : Below wr.drew.heap.size wr.drew X) => HBj.out.trans (((Below.refl wr.heap.size wr).drew.trans hI).mono HBj.out.size))
              refine wp_opaque ?_
              intro t0 ht0
              have hsz0 : t0.size = 145 := by rw [ht0]; rfl
              have q1 : t0.getD 1 undef = .pointer (some ⟨w.heap.size, 0, none⟩) := by rw [ht0]; rfl
              have q11 : t0.getD 11 undef = .int .i64 (i : Int) := by rw [ht0]; rfl
              have q12 : t0.getD 12 undef = .int .i64 (j : Int) := by rw [ht0]; rfl
              have HT0 := Lib.hid ht0
              clear ht0
              refine wp_region_vals [some 93, some 94, some 95, some 96, some 97, some 98, some 99, some 100, some 101, some 102, some 103, some 104, some 105, some 106, some 92, some 107, some 108, some 13, some 14] (BsI wr.drew (.agg #[.slice A1 ns c1, .slice (some rd) nr c2]) w.heap.size rd nr c2 i j ni nj g) (by kernel_rfl) (by kernel_rfl) rfl rfl (by simp [hsz0]) (by kernel_rfl) ?_ ?_ ?_
              · intro val
                exact ⟨Below.refl _ _, (fun h => nomatch h), (fun h => nomatch h), (fun h => nomatch h), (fun h => nomatch h), (fun h => nomatch h), (fun h => nomatch h), (fun h => nomatch h), (fun h => nomatch h), (fun h => nomatch h), (fun h => nomatch h), (fun h => nomatch h), (fun h => nomatch h), (fun h => nomatch h), (fun h => nomatch h), (fun h => nomatch h), (fun h => nomatch h), (fun h => nomatch h)⟩
              · intro dn q o hi hd hp hc val X a ha hn' hI K hK
                have hq : q < 19 := by
                  have := (Array.getElem?_eq_some_iff.1 hi).1
                  simpa using this
                have hB := HBd.out X hI.bel
                rcases (show q = 0 ∨ q = 1 ∨ q = 2 ∨ q = 3 ∨ q = 4 ∨ q = 5 ∨ q = 6 ∨ q = 7 ∨ q = 8 ∨ q = 9 ∨ q = 10 ∨ q = 11 ∨ q = 12 ∨ q = 13 ∨ q = 14 ∨ q = 15 ∨ q = 16 ∨ q = 17 ∨ q = 18 by omega) with rfl | rfl | rfl | rfl | rfl | rfl | rfl | rfl | rfl | rfl | rfl | rfl | rfl | rfl | rfl | rfl | rfl | rfl | rfl
                · obtain rfl := Option.some.inj hi
                  exact opLdMx 1 _ _ _ rfl ((ha 1).trans q1) (HO.out X hB).1.1 (hK _ _ hI.op0)
                · obtain rfl := Option.some.inj hi
                  exact opFieldMx 1 1 _ (by omega) rfl ((ha 1).trans q1) (hK _ _ hI.op1)
                · obtain rfl := Option.some.inj hi
                  have y1 := hI.s1 (hp ⟨1, .data⟩ (by simp) rfl)
                  exact opLdRs 94 _ _ rfl ((ha 94).trans y1) (HO.out X hB).1.2.1 (hK _ _ hI.op2)
                · obtain rfl := Option.some.inj hi
                  exact opMove 11 _ rfl ((ha 11).trans q11) (hK _ _ hI.op3)
                · obtain rfl := Option.some.inj hi
                  have y2 := hI.s2 (hp ⟨2, .data⟩ (by simp) rfl)
                  have y3 := hI.s3 (hp ⟨3, .data⟩ (by simp) rfl)
                  exact opIxR 95 96 _ _ _ _ rfl ((ha 95).trans y2) ((ha 96).trans y3) hir (hK _ _ hI.op4)
                · obtain rfl := Option.some.inj hi
                  have y4 := hI.s4 (hp ⟨4, .data⟩ (by simp) rfl)
                  exact opFieldR0 97 _ rfl ((ha 97).trans y4) (hK _ _ hI.op5)
                · obtain rfl := Option.some.inj hi
                  have y5 := hI.s5 (hp ⟨5, .data⟩ (by simp) rfl)
                  exact opLd 98 _ _ rfl ((ha 98).trans y5) (HNm.out X hB).1 (hK _ _ hI.op6)
                · obtain rfl := Option.some.inj hi
                  exact opFieldMx 1 1 _ (by omega) rfl ((ha 1).trans q1) (hK _ _ hI.op7)
                · obtain rfl := Option.some.inj hi
                  have y7 := hI.s7 (hp ⟨7, .data⟩ (by simp) rfl)
                  exact opLdRs 100 _ _ rfl ((ha 100).trans y7) (HO.out X hB).1.2.1 (hK _ _ hI.op8)
                · obtain rfl := Option.some.inj hi
                  exact opMove 12 _ rfl ((ha 12).trans q12) (hK _ _ hI.op9)
                · obtain rfl := Option.some.inj hi
                  have y8 := hI.s8 (hp ⟨8, .data⟩ (by simp) rfl)
                  have y9 := hI.s9 (hp ⟨9, .data⟩ (by simp) rfl)
                  exact opIxR 101 102 _ _ _ _ rfl ((ha 101).trans y8) ((ha 102).trans y9) hjr (hK _ _ hI.op10)
                · obtain rfl := Option.some.inj hi
                  have y10 := hI.s10 (hp ⟨10, .data⟩ (by simp) rfl)
                  exact opFieldR0 103 _ rfl ((ha 103).trans y10) (hK _ _ hI.op11)
                · obtain rfl := Option.some.inj hi
                  have y11 := hI.s11 (hp ⟨11, .data⟩ (by simp) rfl)
                  exact opLd 104 _ _ rfl ((ha 104).trans y11) (HNm.out X hB).2 (hK _ _ hI.op12)
                · obtain rfl := Option.some.inj hi
                  have y0 := hI.s0 (hp ⟨0, .data⟩ (by simp) rfl)
                  have y6 := hI.s6 (hp ⟨6, .data⟩ (by simp) rfl)
                  have y12 := hI.s12 (hp ⟨12, .data⟩ (by simp) rfl)
                  refine opCall3 32 _ 93 99 105 _ _ _ _ rfl ((ha 93).trans y0) ((ha 99).trans y6) ((ha 105).trans y12) (by go_simp) (HSa.out X hB) ?_
                  rintro e Y ⟨⟨r, rfl⟩, hb⟩
                  exact ⟨_, rfl, hK _ _ (hI.op13 ⟨r, rfl⟩ hb)⟩
                · obtain rfl := Option.some.inj hi
                  have y13 := hI.s13 (hp ⟨13, .data⟩ (by simp) rfl)
                  obtain ⟨r, e⟩ := y13
                  exact opMove 106 _ rfl ((ha 106).trans e) (hK _ _ (hI.op14 ⟨r, rfl⟩))
                · obtain rfl := Option.some.inj hi
                  have y14 := hI.s14 (hp ⟨14, .data⟩ (by simp) rfl)
                  obtain ⟨r, e⟩ := y14
                  exact opExt0 92 _ _ rfl ((ha 92).trans e) (hK _ _ (hI.op15 _))
                · obtain rfl := Option.some.inj hi
                  have y14 := hI.s14 (hp ⟨14, .data⟩ (by simp) rfl)
                  obtain ⟨r, e⟩ := y14
                  exact opExt1 92 _ _ rfl ((ha 92).trans e) (hK _ _ hI.op16)
                · obtain rfl := Option.some.inj hi
                  exact opAssign 107 _ rfl (ha 107) (hK _ _ (hI.op17 _))
                · obtain rfl := Option.some.inj hi
                  have y16 := hI.s16 (hp ⟨16, .data⟩ (by simp) rfl)
                  exact opAssign 108 _ rfl ((ha 108).trans y16) (hK _ _ hI.op18)
              · intro dn val X hdn hI
                have HBr := Lib.hid (HBd.out X hI.bel)
                have h0 := hI.s0 (hdn 0 (by simp))
                have h1 := hI.s1 (hdn 1 (by simp))
                have h2 := hI.s2 (hdn 2 (by simp))
                have h3 := hI.s3 (hdn 3 (by simp))
                have h4 := hI.s4 (hdn 4 (by simp))
                have h5 := hI.s5 (hdn 5 (by simp))
                have h6 := hI.s6 (hdn 6 (by simp))
                have h7 := hI.s7 (hdn 7 (by simp))
                have h8 := hI.s8 (hdn 8 (by simp))
                have h9 := hI.s9 (hdn 9 (by simp))
                have h10 := hI.s10 (hdn 10 (by simp))
                have h11 := hI.s11 (hdn 11 (by simp))
                have h12 := hI.s12 (hdn 12 (by simp))
                have h13 := hI.s13 (hdn 13 (by simp))
                have h14 := hI.s14 (hdn 14 (by simp))
                have h16 := hI.s16 (hdn 16 (by simp))
                have h18 := hI.s18 (hdn 18 (by simp))
                simp only [wrS, HT0.out]
                simp only [List.setIfInBounds_toArray, List.set_cons_succ, List.set_cons_zero]
                rw [h0, h1, h2, h3, h4, h5, h6, h7, h8, h9, h10, h11, h12, h16, h18]
                (try simp only [Exit.then])
                clear hdn HT0 hsz0 q1 q11 q12
                have HBx2 := Lib.hid HBr.out
                clear hI HBr HBd HSa h0 h1 h2 h3 h4 h5 h6 h7 h8 h9 h10 h11 h12 h13 h14 h16 h18 k1
                generalize val 15 = uu1 at *
                generalize val 17 = uu2 at *
                by_cases hg0 : g = 0
                · subst hg0
                  obtain ⟨hlen, hcn, hnC⟩ := HHit.out rfl
                  have HLe := Lib.hid hlen
                  obtain ⟨lc, lv, M, rfl, _, hM, hcl, hIn⟩ := H1.out.at_ hnC
                  have hM3 : M = [ni, nj] := by rw [hcn] at hM; injection hM with hM; exact hM.symm
                  subst hM3
                  have HLv := Lib.hid (fun X (h : Below w9.heap.size w9 X) => show X.cell? (lc.add n) = some lv ∧ InSl X X.heap.size lv [ni, nj] from ⟨(h.cell (World.block_lt_of_cell? _ _ hcl)).trans hcl, hIn.step h⟩)
                  have HSI := Lib.hid (fun v X (h : Below w9.heap.size w9 X) (hv : InSl X X.heap.size v [ni, nj]) => show Calls Tryd.prog 25 #[lv, v] X fun e w' => e = .returned (.bool true) ∧ Below X.heap.size X w' from by
                    have h2 := SameInts_any lv v [ni, nj] [ni, nj] X (HLv.out X h).2 hv (by simp) (by simp)
                    rw [show decide ([ni, nj] = [ni, nj]) = true from by simp] at h2
                    exact h2)
                  have hnI : (n : Int) < (nC : Int) := by omega
                  clear hM hcl hIn hcn hlen
                  go_wp2_with fail
                  have HBd := Lib.hid (fun Y (hI : Below X.drew.heap.size X.drew Y) => HBx2.out.trans (((Below.refl X.heap.size X).drew.trans hI).mono HBx2.out.size))
                  refine wp_opaque ?_
                  intro t0 ht0
                  have hsz0 : t0.size = 145 := by rw [ht0]; rfl
                  have q1 : t0.getD 1 undef = .pointer (some ⟨w.heap.size, 0, none⟩) := by rw [ht0]; rfl
                  have q8 : t0.getD 8 undef = .slice (some lc) nC cC := by rw [ht0]; rfl
                  have q10 : t0.getD 10 undef = .int .i64 (n : Int) := by rw [ht0]; rfl
                  have q11 : t0.getD 11 undef = .int .i64 (i : Int) := by rw [ht0]; rfl
                  have q12 : t0.getD 12 undef = .int .i64 (j : Int) := by rw [ht0]; rfl
                  have HT0 := Lib.hid ht0
                  clear ht0
                  refine wp_region_valsW [some 111, some 112, some 113, some 114, some 115, some 116, some 117, some 118, some 119, some 120, some 121, some 122, some 123, some 124, some 125, some 126, some 127, some 128, some 129, some 130, some 131, some 132, some 133, some 134, some 135] (BsJ X.drew w.heap.size rd lc nr c2 i j nC cC n lv ni nj) (by kernel_rfl) (by kernel_rfl) rfl rfl (by simp [hsz0]) ?_ ?_ ?_
                  · intro val
                    exact ⟨Below.refl _ _, (fun h => nomatch h), (fun h => nomatch h), (fun h => nomatch h), (fun h => nomatch h), (fun h => nomatch h), (fun h => nomatch h), (fun h => nomatch h), (fun h => nomatch h), (fun h => nomatch h), (fun h => nomatch h), (fun h => nomatch h), (fun h => nomatch h), (fun h => nomatch h), (fun h => nomatch h), (fun h => nomatch h), (fun h => nomatch h), (fun h => nomatch h), (fun h => nomatch h), (fun h => nomatch h), (fun h => nomatch h), (fun h => nomatch h), (fun h => nomatch h), (fun h => nomatch h), (fun h => nomatch h), (fun h => nomatch h)⟩
                  · intro dn q o hi hd hp hc val X a ha hn' hI
                    have hq : q < 25 := by
                      have := (Array.getElem?_eq_some_iff.1 hi).1
                      simpa using this
                    have hB := HBd.out X hI.bel
                    rcases (show q = 0 ∨ q = 1 ∨ q = 2 ∨ q = 3 ∨ q = 4 ∨ q = 5 ∨ q = 6 ∨ q = 7 ∨ q = 8 ∨ q = 9 ∨ q = 10 ∨ q = 11 ∨ q = 12 ∨ q = 13 ∨ q = 14 ∨ q = 15 ∨ q = 16 ∨ q = 17 ∨ q = 18 ∨ q = 19 ∨ q = 20 ∨ q = 21 ∨ q = 22 ∨ q = 23 ∨ q = 24 by omega) with rfl | rfl | rfl | rfl | rfl | rfl | rfl | rfl | rfl | rfl | rfl | rfl | rfl | rfl | rfl | rfl | rfl | rfl | rfl | rfl | rfl | rfl | rfl | rfl | rfl
                    · obtain rfl := Option.some.inj hi
                      refine ⟨rfl, fun K hK => ?_⟩
                      exact opMove 10 _ rfl ((ha 10).trans q10) (hK _ _ hI.op0)
                    · obtain rfl := Option.some.inj hi
                      refine ⟨rfl, fun K hK => ?_⟩
                      exact opMove 8 _ rfl ((ha 8).trans q8) (hK _ _ hI.op1)
                    · obtain rfl := Option.some.inj hi
                      refine ⟨rfl, fun K hK => ?_⟩
                      have y1 := hI.s1 (hp ⟨1, .data⟩ (by simp) rfl)
                      exact opLenT 112 _ _ _ rfl ((ha 112).trans y1) (hK _ _ hI.op2)
                    · obtain rfl := Option.some.inj hi
                      refine ⟨rfl, fun K hK => ?_⟩
                      have y0 := hI.s0 (hp ⟨0, .data⟩ (by simp) rfl)
                      have y2 := hI.s2 (hp ⟨2, .data⟩ (by simp) rfl)
                      exact opGeqF 111 113 _ _ hnC rfl ((ha 111).trans y0) ((ha 113).trans y2) (hK _ _ hI.op3)
                    · obtain rfl := Option.some.inj hi
                      refine ⟨rfl, fun K hK => ?_⟩
                      have y3 := hI.s3 (hp ⟨3, .data⟩ (by simp) rfl)
                      exact opMove 114 _ rfl ((ha 114).trans y3) (hK _ _ hI.op4)
                    · obtain rfl := Option.some.inj hi
                      refine ⟨wanted_of rfl (yielded_of (d := 115) rfl ((ha 115).trans (hI.s4 (hp ⟨4, .guard⟩ (by simp) rfl)))), fun K hK => ?_⟩
                      exact opMove 8 _ rfl ((ha 8).trans q8) (hK _ _ hI.op5)
                    · obtain rfl := Option.some.inj hi
                      refine ⟨wanted_of rfl (yielded_of (d := 115) rfl ((ha 115).trans (hI.s4 (hp ⟨4, .guard⟩ (by simp) rfl)))), fun K hK => ?_⟩
                      exact opMove 10 _ rfl ((ha 10).trans q10) (hK _ _ hI.op6)
                    · obtain rfl := Option.some.inj hi
                      refine ⟨wanted_of rfl (yielded_of (d := 115) rfl ((ha 115).trans (hI.s4 (hp ⟨4, .guard⟩ (by simp) rfl)))), fun K hK => ?_⟩
                      have y5 := hI.s5 (hp ⟨5, .data⟩ (by simp) rfl)
                      have y6 := hI.s6 (hp ⟨6, .data⟩ (by simp) rfl)
                      exact opIxT 116 117 _ _ _ _ rfl ((ha 116).trans y5) ((ha 117).trans y6) hnC (hK _ _ hI.op7)
                    · obtain rfl := Option.some.inj hi
                      refine ⟨wanted_of rfl (yielded_of (d := 115) rfl ((ha 115).trans (hI.s4 (hp ⟨4, .guard⟩ (by simp) rfl)))), fun K hK => ?_⟩
                      have y7 := hI.s7 (hp ⟨7, .data⟩ (by simp) rfl)
                      exact opLdS 118 _ _ rfl ((ha 118).trans y7) (HLv.out X hB).1 (hK _ _ hI.op8)
                    · obtain rfl := Option.some.inj hi
                      refine ⟨wanted_of rfl (yielded_of (d := 115) rfl ((ha 115).trans (hI.s4 (hp ⟨4, .guard⟩ (by simp) rfl)))), fun K hK => ?_⟩
                      exact opFieldMx 1 1 _ (by omega) rfl ((ha 1).trans q1) (hK _ _ hI.op9)
                    · obtain rfl := Option.some.inj hi
                      refine ⟨wanted_of rfl (yielded_of (d := 115) rfl ((ha 115).trans (hI.s4 (hp ⟨4, .guard⟩ (by simp) rfl)))), fun K hK => ?_⟩
                      have y9 := hI.s9 (hp ⟨9, .data⟩ (by simp) rfl)
                      exact opLdRs 120 _ _ rfl ((ha 120).trans y9) (HO.out X hB).1.2.1 (hK _ _ hI.op10)
                    · obtain rfl := Option.some.inj hi
                      refine ⟨wanted_of rfl (yielded_of (d := 115) rfl ((ha 115).trans (hI.s4 (hp ⟨4, .guard⟩ (by simp) rfl)))), fun K hK => ?_⟩
                      exact opMove 11 _ rfl ((ha 11).trans q11) (hK _ _ hI.op11)
                    · obtain rfl := Option.some.inj hi
                      refine ⟨wanted_of rfl (yielded_of (d := 115) rfl ((ha 115).trans (hI.s4 (hp ⟨4, .guard⟩ (by simp) rfl)))), fun K hK => ?_⟩
                      have y10 := hI.s10 (hp ⟨10, .data⟩ (by simp) rfl)
                      have y11 := hI.s11 (hp ⟨11, .data⟩ (by simp) rfl)
                      exact opIxR 121 122 _ _ _ _ rfl ((ha 121).trans y10) ((ha 122).trans y11) hir (hK _ _ hI.op12)
                    · obtain rfl := Option.some.inj hi
                      refine ⟨wanted_of rfl (yielded_of (d := 115) rfl ((ha 115).trans (hI.s4 (hp ⟨4, .guard⟩ (by simp) rfl)))), fun K hK => ?_⟩
                      have y12 := hI.s12 (hp ⟨12, .data⟩ (by simp) rfl)
                      exact opFieldR0 123 _ rfl ((ha 123).trans y12) (hK _ _ hI.op13)
                    · obtain rfl := Option.some.inj hi
                      refine ⟨wanted_of rfl (yielded_of (d := 115) rfl ((ha 115).trans (hI.s4 (hp ⟨4, .guard⟩ (by simp) rfl)))), fun K hK => ?_⟩
                      have y13 := hI.s13 (hp ⟨13, .data⟩ (by simp) rfl)
                      exact opLd 124 _ _ rfl ((ha 124).trans y13) (HNm.out X hB).1 (hK _ _ hI.op14)
                    · obtain rfl := Option.some.inj hi
                      refine ⟨wanted_of rfl (yielded_of (d := 115) rfl ((ha 115).trans (hI.s4 (hp ⟨4, .guard⟩ (by simp) rfl)))), fun K hK => ?_⟩
                      exact opFieldMx 1 1 _ (by omega) rfl ((ha 1).trans q1) (hK _ _ hI.op15)
                    · obtain rfl := Option.some.inj hi
                      refine ⟨wanted_of rfl (yielded_of (d := 115) rfl ((ha 115).trans (hI.s4 (hp ⟨4, .guard⟩ (by simp) rfl)))), fun K hK => ?_⟩
                      have y15 := hI.s15 (hp ⟨15, .data⟩ (by simp) rfl)
                      exact opLdRs 126 _ _ rfl ((ha 126).trans y15) (HO.out X hB).1.2.1 (hK _ _ hI.op16)
                    · obtain rfl := Option.some.inj hi
                      refine ⟨wanted_of rfl (yielded_of (d := 115) rfl ((ha 115).trans (hI.s4 (hp ⟨4, .guard⟩ (by simp) rfl)))), fun K hK => ?_⟩
                      exact opMove 12 _ rfl ((ha 12).trans q12) (hK _ _ hI.op17)
                    · obtain rfl := Option.some.inj hi
                      refine ⟨wanted_of rfl (yielded_of (d := 115) rfl ((ha 115).trans (hI.s4 (hp ⟨4, .guard⟩ (by simp) rfl)))), fun K hK => ?_⟩
                      have y16 := hI.s16 (hp ⟨16, .data⟩ (by simp) rfl)
                      have y17 := hI.s17 (hp ⟨17, .data⟩ (by simp) rfl)
                      exact opIxR 127 128 _ _ _ _ rfl ((ha 127).trans y16) ((ha 128).trans y17) hjr (hK _ _ hI.op18)
                    · obtain rfl := Option.some.inj hi
                      refine ⟨wanted_of rfl (yielded_of (d := 115) rfl ((ha 115).trans (hI.s4 (hp ⟨4, .guard⟩ (by simp) rfl)))), fun K hK => ?_⟩
                      have y18 := hI.s18 (hp ⟨18, .data⟩ (by simp) rfl)
                      exact opFieldR0 129 _ rfl ((ha 129).trans y18) (hK _ _ hI.op19)
                    · obtain rfl := Option.some.inj hi
                      refine ⟨wanted_of rfl (yielded_of (d := 115) rfl ((ha 115).trans (hI.s4 (hp ⟨4, .guard⟩ (by simp) rfl)))), fun K hK => ?_⟩
                      have y19 := hI.s19 (hp ⟨19, .data⟩ (by simp) rfl)
                      exact opLd 130 _ _ rfl ((ha 130).trans y19) (HNm.out X hB).2 (hK _ _ hI.op20)
                    · obtain rfl := Option.some.inj hi
                      refine ⟨wanted_of rfl (yielded_of (d := 115) rfl ((ha 115).trans (hI.s4 (hp ⟨4, .guard⟩ (by simp) rfl)))), fun K hK => ?_⟩
                      have y14 := hI.s14 (hp ⟨14, .data⟩ (by simp) rfl)
                      have y20 := hI.s20 (hp ⟨20, .data⟩ (by simp) rfl)
                      exact opBox2 125 131 _ _ rfl ((ha 125).trans y14) ((ha 131).trans y20) (hK _ _ (hI.op21 (pair_sl (World.alloc_heap_new X _)) (below_new _)))
                    · obtain rfl := Option.some.inj hi
                      refine ⟨wanted_of rfl (yielded_of (d := 115) rfl ((ha 115).trans (hI.s4 (hp ⟨4, .guard⟩ (by simp) rfl)))), fun K hK => ?_⟩
                      have y8 := hI.s8 (hp ⟨8, .data⟩ (by simp) rfl)
                      have y21 := hI.s21 (hp ⟨21, .data⟩ (by simp) rfl)
                      refine opCall2 25 _ 119 132 _ _ _ rfl ((ha 119).trans y8) (ha 132) (by go_simp) (HSI.out _ X hB y21) ?_
                      rintro e Y ⟨rfl, hb⟩
                      exact ⟨_, rfl, hK _ _ (hI.op22 hb)⟩
                    · obtain rfl := Option.some.inj hi
                      refine ⟨wanted_of rfl (yielded_of (d := 115) rfl ((ha 115).trans (hI.s4 (hp ⟨4, .guard⟩ (by simp) rfl)))), fun K hK => ?_⟩
                      have y22 := hI.s22 (hp ⟨22, .data⟩ (by simp) rfl)
                      exact opNotT 133 rfl ((ha 133).trans y22) (hK _ _ hI.op23)
                    · obtain rfl := Option.some.inj hi
                      refine ⟨rfl, fun K hK => ?_⟩
                      have y4 := hI.s4 (hp ⟨4, .data⟩ (by simp) rfl)
                      have y23 := hI.s23 (hp ⟨23, .data⟩ (by simp) rfl)
                      exact opPickF 115 134 _ rfl ((ha 115).trans y4) ((ha 134).trans y23) (hK _ _ hI.op24)
                  · intro dn val X hdn hI
                    have HBr := Lib.hid (HBd.out X hI.bel)
                    have h0 := hI.s0 (hdn 0 (by simp))
                    have h1 := hI.s1 (hdn 1 (by simp))
                    have h2 := hI.s2 (hdn 2 (by simp))
                    have h3 := hI.s3 (hdn 3 (by simp))
                    have h4 := hI.s4 (hdn 4 (by simp))
                    have h5 := hI.s5 (hdn 5 (by simp))
                    have h6 := hI.s6 (hdn 6 (by simp))
                    have h7 := hI.s7 (hdn 7 (by simp))
                    have h8 := hI.s8 (hdn 8 (by simp))
                    have h9 := hI.s9 (hdn 9 (by simp))
                    have h10 := hI.s10 (hdn 10 (by simp))
                    have h11 := hI.s11 (hdn 11 (by simp))
                    have h12 := hI.s12 (hdn 12 (by simp))
                    have h13 := hI.s13 (hdn 13 (by simp))
                    have h14 := hI.s14 (hdn 14 (by simp))
                    have h15 := hI.s15 (hdn 15 (by simp))
                    have h16 := hI.s16 (hdn 16 (by simp))
                    have h17 := hI.s17 (hdn 17 (by simp))
                    have h18 := hI.s18 (hdn 18 (by simp))
                    have h19 := hI.s19 (hdn 19 (by simp))
                    have h20 := hI.s20 (hdn 20 (by simp))
                    have h21 := hI.s21 (hdn 21 (by simp))
                    have h22 := hI.s22 (hdn 22 (by simp))
                    have h23 := hI.s23 (hdn 23 (by simp))
                    have h24 := hI.s24 (hdn 24 (by simp))
                    simp only [wrS, HT0.out]
                    simp only [List.setIfInBounds_toArray, List.set_cons_succ, List.set_cons_zero]
                    rw [h0, h1, h2, h3, h4, h5, h6, h7, h8, h9, h10, h11, h12, h13, h14, h15, h16, h17, h18, h19, h20, h22, h23, h24]
                    (try simp only [Exit.then])
                    clear hdn HT0 hsz0 q1 q8 q10 q11 q12
                    have HBy := Lib.hid HBr.out
                    clear hI HBr HBd HSI HLv h0 h1 h2 h3 h4 h5 h6 h7 h8 h9 h10 h11 h12 h13 h14 h15 h16 h17 h18 h19 h20 h21 h22 h23 h24
                    generalize val 21 = uu3 at *
                    go_wp2_with fail
                    go_roundw
                    case rel => exact ⟨n + 1, j + 1, by go_num, by go_num, by omega, by omega, HBy.out, by rw [HLe.out, HN1.out]; omega⟩
                    case measure => simp [intOf]; omega
                · have hgb : (g == 0) = false := by simpa using hg0
                  have hgc : (g != 0) = true := by simpa using hg0
                  have HMi := Lib.hid (HMis.out hg0)
                  go_wp2_with fail
                  go_roundw
                  case rel => exact ⟨n, j + 1, rfl, by go_num, by omega, by omega, HBx2.out, by rw [HMi.out, HN1.out]⟩
                  case measure => simp [intOf]; omega
            · obtain rfl : nr = j := by omega
              go_wp2_with fail
              go_roundw
              case rel => exact ⟨n, i + 1, rfl, by go_num, by omega, HBj.out, by rw [HRn.out, List.length_append, HN1.out, HNs.out.2]⟩
              case measure => simp [intOf]; omega
        · obtain rfl : nr = i := by omega
          obtain rfl : n0 = nC := by rw [HN0.out, ← HNC.out, ← HCe.out, HNs.out.2]
          go_wp2_with fail
          refine bodyPost_ret (v := .bool true) (by simp [results, Tryd.results12, go_sem]) rfl ?_
          exact And.intro rfl (HB.out.trans (HBi.out.mono HB.out.size))
    · skip
      rw [h0] at HC
      clear h0
      obtain ⟨k, hk5⟩ : ∃ k, buildK m = k := ⟨_, rfl⟩
      rw [hk5] at HC
      clear hk5
      go_wp2_with fail
      (with_reducible refine HC.out.mono ?_)
      rintro e w10 ⟨⟨u0, rfl, hk⟩, hb⟩
      replace HB := Lib.hid (HB.out.trans (hb.mono HB.out.size))
      replace HT := Lib.hid (HT.out.step hb)
      replace HM := Lib.hid (HM.out.step hb)
      replace HBx := Lib.hid ((hb.block _ (Array.getElem?_eq_some_iff.1 HBx.out).1).trans HBx.out)
      obtain ⟨D1, e1, D2, e2, W5, rfl, hW5, hb5, hKy5, _, _, _⟩ := ky_box hk
      have hn5 : W5.heap[w10.heap.size]? = some (.cells #[.slice D1 k.nd.length e1, .slice D2 k.lv.length e2] 53) := by rw [← hW5]; exact World.alloc_heap_new w10 _
      have HKy := Lib.hid (hKy5 W5 (Below.refl _ _))
      have HKx := Lib.hid hn5
      clear hb
      clear k0 k1
      obtain ⟨k0, k1⟩ := cells_two HBx.out
      clear k0 k1
      replace HB := Lib.hid (HB.out.trans (hb5.mono HB.out.size))
      replace HT := Lib.hid (HT.out.step hb5)
      replace HM := Lib.hid (HM.out.step hb5)
      replace HBx := Lib.hid ((hb5.block _ (Array.getElem?_eq_some_iff.1 HBx.out).1).trans HBx.out)
      obtain ⟨k0, k1⟩ := cells_two HBx.out
      obtain ⟨j0, j1⟩ := cells_two HKx.out
      clear hk hKy5 hn5 HC hb5
      obtain ⟨nn, hnn⟩ : ∃ n, k.nd.length = n := ⟨_, rfl⟩
      obtain ⟨nl, hnl⟩ : ∃ n, k.lv.length = n := ⟨_, rfl⟩
      rw [hnn] at hW5 j0 HKy HKx
      rw [hnl] at hW5 j1 HKy HKx
      rw [hnn, hnl]
      clear hnn hnl
      go_wp2_with fail
      refine bodyPost_ret (v := .bool true) (by simp [results, Tryd.results12, go_sem]) rfl ?_
      exact And.intro rfl HB.out
    · skip
      rw [h0] at HC
      clear h0
      obtain ⟨k, hk5⟩ : ∃ k, buildK m = k := ⟨_, rfl⟩
      rw [hk5] at HC
      clear hk5
      go_wp2_with fail
      (with_reducible refine HC.out.mono ?_)
      rintro e w11 ⟨⟨u0, rfl, hk⟩, hb⟩
      replace HB := Lib.hid (HB.out.trans (hb.mono HB.out.size))
      replace HT := Lib.hid (HT.out.step hb)
      replace HM := Lib.hid (HM.out.step hb)
      replace HBx := Lib.hid ((hb.block _ (Array.getElem?_eq_some_iff.1 HBx.out).1).trans HBx.out)
      obtain ⟨D1, e1, D2, e2, W5, rfl, hW5, hb5, hKy5, _, _, _⟩ := ky_box hk
      have hn5 : W5.heap[w11.heap.size]? = some (.cells #[.slice D1 k.nd.length e1, .slice D2 k.lv.length e2] 53) := by rw [← hW5]; exact World.alloc_heap_new w11 _
      have HKy := Lib.hid (hKy5 W5 (Below.refl _ _))
      have HKx := Lib.hid hn5
      clear hb
      clear k0 k1
      obtain ⟨k0, k1⟩ := cells_two HBx.out
      clear k0 k1
      replace HB := Lib.hid (HB.out.trans (hb5.mono HB.out.size))
      replace HT := Lib.hid (HT.out.step hb5)
      replace HM := Lib.hid (HM.out.step hb5)
      replace HBx := Lib.hid ((hb5.block _ (Array.getElem?_eq_some_iff.1 HBx.out).1).trans HBx.out)
      obtain ⟨k0, k1⟩ := cells_two HBx.out
      obtain ⟨j0, j1⟩ := cells_two HKx.out
      clear hk hKy5 hn5 HC hb5
      obtain ⟨nn, hnn⟩ : ∃ n, k.nd.length = n := ⟨_, rfl⟩
      obtain ⟨nl, hnl⟩ : ∃ n, k.lv.length = n := ⟨_, rfl⟩
      rw [hnn] at hW5 j0 HKy HKx
      rw [hnl] at hW5 j1 HKy HKx
      rw [hnn, hnl]
      clear hnn hnl
      go_wp2_with fail
      refine bodyPost_ret (v := .bool true) (by simp [results, Tryd.results12, go_sem]) rfl ?_
      exact And.intro rfl HB.out
end Go.Proofs.YthfegbcbpeedbaaDoor
