/- Wrong and Right of the reference. -/
import Derived.Test.YthfegbcbpeedbaaGreatDoorKzA
import Derived.Test.YthfegbcbpeedbaaGreatDoorKyOv
import Derived.Test.YthfegbcbpeedbaaGreatDoorKyCk
import Derived.Test.YthfegbcbpeedbaaGreatDoorKyPo
namespace Go.Ky
open Go.Nm
theorem find_hit {α : Type} {L : List α} {P : α → Bool} {i : Nat} {r : α} (hi : L[i]? = some r) (hp : P r = true) (hb : ∀ (j : Nat) (s : α), j < i → L[j]? = some s → P s = false) : L.find? P = some r := by
  obtain ⟨h1, h2⟩ := List.getElem?_eq_some_iff.1 hi
  rw [List.find?_eq_some_iff_getElem]
  refine ⟨hp, i, h1, h2, fun j hj => ?_⟩
  rw [hb j _ hj (List.getElem?_eq_getElem (by omega))]
  rfl
theorem find_miss {α : Type} {L : List α} {P : α → Bool} (hb : ∀ (j : Nat) (s : α), j < L.length → L[j]? = some s → P s = false) : L.find? P = none := by
  rw [List.find?_eq_none]
  intro s hs
  obtain ⟨j, hj⟩ := List.getElem?_of_mem hs
  rw [hb j s (List.getElem?_eq_some_iff.1 hj).1 hj]
  simp
end Go.Ky
namespace Go.Proofs.YthfegbcbpeedbaaGreatDoor
open Go.RowKit Go.Nm Go.Ky Go.Maps

section
variable {o : Oper} {a : Act} {w : World} {K : Act → World → Prop} {Q : Exit → Act → World → Prop}
theorem opShr (q r x s : Nat) (y : Int) (ho : o.op = .binOp .shr 3 (.tmp q) (.tmp r) 3) (hq : a.tmps.getD q undef = .int .i64 (x : Int)) (hr : a.tmps.getD r undef = .int .i64 (s : Int)) (hs : s < 64) (hy : (x : Int) / 2 ^ s = y) (h : K (a.put o.dst (.int .i64 y)) w) : o.wp Tryz.prog a w K Q := by
  unfold Oper.wp execOp
  have he : a.eval (.tmp q) = .int .i64 (x : Int) := hq
  have hf : a.eval (.tmp r) = .int .i64 (s : Int) := hr
  have h0 : ¬ (s : Int) < 0 := by omega
  simp only [ho, he, hf]
  go_simp
  exact h
theorem opRem2 (q : Nat) (x y : Int) (ho : o.op = .binOp .rem 3 (.tmp q) (.const (.int .i64 2)) 3) (hq : a.tmps.getD q undef = .int .i64 x) (hy : Int.tmod x 2 = y) (h : K (a.put o.dst (.int .i64 y)) w) : o.wp Tryz.prog a w K Q := by
  unfold Oper.wp execOp
  have he : a.eval (.tmp q) = .int .i64 x := hq
  simp only [ho, he]
  go_simp
  exact h
theorem opEql0 (q : Nat) (ho : o.op = .binOp .eql 3 (.tmp q) (.const (.int .i64 0)) 3) (hq : a.tmps.getD q undef = .int .i64 1) (h : K (a.put o.dst (.bool false)) w) : o.wp Tryz.prog a w K Q := by
  unfold Oper.wp execOp
  have he : a.eval (.tmp q) = .int .i64 1 := hq
  simp only [ho, he]
  go_simp
  exact h
theorem opNotB (q : Nat) (b : Bool) (ho : o.op = .unOp .not 4 (.tmp q)) (hq : a.tmps.getD q undef = .bool b) (h : K (a.put o.dst (.bool (!b))) w) : o.wp Tryz.prog a w K Q := by
  unfold Oper.wp execOp
  have he : a.eval (.tmp q) = .bool b := hq
  simp only [ho, he]
  go_simp
  exact h
end
structure WgJ (V : World) (xd rd : Addr) (n cx c x t q gm nr c2 i : Nat) (kv : Value) (xs2 : List Int) (name : Int) (bb : Bool) (dn : Nat → Bool) (val : Nat → Value) (X : World) : Prop where
  bel : Below V.heap.size V X
  s0 : dn 0 = true → val 0 = .slice (some xd) n cx
  s1 : dn 1 = true → val 1 = .int .i64 (c : Int)
  s2 : dn 2 = true → val 2 = .pointer (some (xd.add c))
  s3 : dn 3 = true → val 3 = .int .i64 (x : Int)
  s4 : dn 4 = true → val 4 = .int .i64 (t : Int)
  s5 : dn 5 = true → val 5 = .int .i64 (q : Int)
  s6 : dn 6 = true → val 6 = .int .i64 1
  s7 : dn 7 = true → val 7 = .bool false
  s8 : dn 8 = true → val 8 = .bool false
  s9 : dn 9 = true → val 9 = kv
  s10 : dn 10 = true → val 10 = .slice (some xd) n cx
  s11 : dn 11 = true → val 11 = .int .i64 (c : Int)
  s12 : dn 12 = true → val 12 = .int .i64 (t : Int)
  s13 : dn 13 = true → InSl X X.heap.size (val 13) xs2
  s14 : dn 14 = true → val 14 = .pointer (some ⟨gm, 1, none⟩)
  s15 : dn 15 = true → val 15 = .slice (some rd) nr c2
  s16 : dn 16 = true → val 16 = .int .i64 (i : Int)
  s17 : dn 17 = true → val 17 = .pointer (some (rd.add (i * 2)))
  s18 : dn 18 = true → val 18 = .pointer (some (rd.add (i * 2)))
  s19 : dn 19 = true → val 19 = .int .i64 name
  s20 : dn 20 = true → val 20 = .bool bb
  s21 : dn 21 = true → val 21 = .bool (!bb)
  s22 : dn 22 = true → val 22 = .bool (!bb)
section
variable {V : World} {xd rd : Addr} {n cx c x t q gm nr c2 i : Nat} {kv : Value} {xs2 : List Int} {name : Int} {bb : Bool} {dn : Nat → Bool} {val : Nat → Value} {X Y : World}
theorem WgJ.op0 (h : WgJ V xd rd n cx c x t q gm nr c2 i kv xs2 name bb dn val X) : WgJ V xd rd n cx c x t q gm nr c2 i kv xs2 name bb (andB dn 0) (updV val 0 (.slice (some xd) n cx)) X :=
  ⟨h.bel, (fun _ => rfl), h.s1, h.s2, h.s3, h.s4, h.s5, h.s6, h.s7, h.s8, h.s9, h.s10, h.s11, h.s12, h.s13, h.s14, h.s15, h.s16, h.s17, h.s18, h.s19, h.s20, h.s21, h.s22⟩
theorem WgJ.op1 (h : WgJ V xd rd n cx c x t q gm nr c2 i kv xs2 name bb dn val X) : WgJ V xd rd n cx c x t q gm nr c2 i kv xs2 name bb (andB dn 1) (updV val 1 (.int .i64 (c : Int))) X :=
  ⟨h.bel, h.s0, (fun _ => rfl), h.s2, h.s3, h.s4, h.s5, h.s6, h.s7, h.s8, h.s9, h.s10, h.s11, h.s12, h.s13, h.s14, h.s15, h.s16, h.s17, h.s18, h.s19, h.s20, h.s21, h.s22⟩
theorem WgJ.op2 (h : WgJ V xd rd n cx c x t q gm nr c2 i kv xs2 name bb dn val X) : WgJ V xd rd n cx c x t q gm nr c2 i kv xs2 name bb (andB dn 2) (updV val 2 (.pointer (some (xd.add c)))) X :=
  ⟨h.bel, h.s0, h.s1, (fun _ => rfl), h.s3, h.s4, h.s5, h.s6, h.s7, h.s8, h.s9, h.s10, h.s11, h.s12, h.s13, h.s14, h.s15, h.s16, h.s17, h.s18, h.s19, h.s20, h.s21, h.s22⟩
theorem WgJ.op3 (h : WgJ V xd rd n cx c x t q gm nr c2 i kv xs2 name bb dn val X) : WgJ V xd rd n cx c x t q gm nr c2 i kv xs2 name bb (andB dn 3) (updV val 3 (.int .i64 (x : Int))) X :=
  ⟨h.bel, h.s0, h.s1, h.s2, (fun _ => rfl), h.s4, h.s5, h.s6, h.s7, h.s8, h.s9, h.s10, h.s11, h.s12, h.s13, h.s14, h.s15, h.s16, h.s17, h.s18, h.s19, h.s20, h.s21, h.s22⟩
theorem WgJ.op4 (h : WgJ V xd rd n cx c x t q gm nr c2 i kv xs2 name bb dn val X) : WgJ V xd rd n cx c x t q gm nr c2 i kv xs2 name bb (andB dn 4) (updV val 4 (.int .i64 (t : Int))) X :=
  ⟨h.bel, h.s0, h.s1, h.s2, h.s3, (fun _ => rfl), h.s5, h.s6, h.s7, h.s8, h.s9, h.s10, h.s11, h.s12, h.s13, h.s14, h.s15, h.s16, h.s17, h.s18, h.s19, h.s20, h.s21, h.s22⟩
theorem WgJ.op5 (h : WgJ V xd rd n cx c x t q gm nr c2 i kv xs2 name bb dn val X) : WgJ V xd rd n cx c x t q gm nr c2 i kv xs2 name bb (andB dn 5) (updV val 5 (.int .i64 (q : Int))) X :=
  ⟨h.bel, h.s0, h.s1, h.s2, h.s3, h.s4, (fun _ => rfl), h.s6, h.s7, h.s8, h.s9, h.s10, h.s11, h.s12, h.s13, h.s14, h.s15, h.s16, h.s17, h.s18, h.s19, h.s20, h.s21, h.s22⟩
theorem WgJ.op6 (h : WgJ V xd rd n cx c x t q gm nr c2 i kv xs2 name bb dn val X) : WgJ V xd rd n cx c x t q gm nr c2 i kv xs2 name bb (andB dn 6) (updV val 6 (.int .i64 1)) X :=
  ⟨h.bel, h.s0, h.s1, h.s2, h.s3, h.s4, h.s5, (fun _ => rfl), h.s7, h.s8, h.s9, h.s10, h.s11, h.s12, h.s13, h.s14, h.s15, h.s16, h.s17, h.s18, h.s19, h.s20, h.s21, h.s22⟩
theorem WgJ.op7 (h : WgJ V xd rd n cx c x t q gm nr c2 i kv xs2 name bb dn val X) : WgJ V xd rd n cx c x t q gm nr c2 i kv xs2 name bb (andB dn 7) (updV val 7 (.bool false)) X :=
  ⟨h.bel, h.s0, h.s1, h.s2, h.s3, h.s4, h.s5, h.s6, (fun _ => rfl), h.s8, h.s9, h.s10, h.s11, h.s12, h.s13, h.s14, h.s15, h.s16, h.s17, h.s18, h.s19, h.s20, h.s21, h.s22⟩
theorem WgJ.op8 (h : WgJ V xd rd n cx c x t q gm nr c2 i kv xs2 name bb dn val X) : WgJ V xd rd n cx c x t q gm nr c2 i kv xs2 name bb (andB dn 8) (updV val 8 (.bool false)) X :=
  ⟨h.bel, h.s0, h.s1, h.s2, h.s3, h.s4, h.s5, h.s6, h.s7, (fun _ => rfl), h.s9, h.s10, h.s11, h.s12, h.s13, h.s14, h.s15, h.s16, h.s17, h.s18, h.s19, h.s20, h.s21, h.s22⟩
theorem WgJ.op9 (h : WgJ V xd rd n cx c x t q gm nr c2 i kv xs2 name bb dn val X) : WgJ V xd rd n cx c x t q gm nr c2 i kv xs2 name bb (andB dn 9) (updV val 9 (kv)) X :=
  ⟨h.bel, h.s0, h.s1, h.s2, h.s3, h.s4, h.s5, h.s6, h.s7, h.s8, (fun _ => rfl), h.s10, h.s11, h.s12, h.s13, h.s14, h.s15, h.s16, h.s17, h.s18, h.s19, h.s20, h.s21, h.s22⟩
theorem WgJ.op10 (h : WgJ V xd rd n cx c x t q gm nr c2 i kv xs2 name bb dn val X) : WgJ V xd rd n cx c x t q gm nr c2 i kv xs2 name bb (andB dn 10) (updV val 10 (.slice (some xd) n cx)) X :=
  ⟨h.bel, h.s0, h.s1, h.s2, h.s3, h.s4, h.s5, h.s6, h.s7, h.s8, h.s9, (fun _ => rfl), h.s11, h.s12, h.s13, h.s14, h.s15, h.s16, h.s17, h.s18, h.s19, h.s20, h.s21, h.s22⟩
theorem WgJ.op11 (h : WgJ V xd rd n cx c x t q gm nr c2 i kv xs2 name bb dn val X) : WgJ V xd rd n cx c x t q gm nr c2 i kv xs2 name bb (andB dn 11) (updV val 11 (.int .i64 (c : Int))) X :=
  ⟨h.bel, h.s0, h.s1, h.s2, h.s3, h.s4, h.s5, h.s6, h.s7, h.s8, h.s9, h.s10, (fun _ => rfl), h.s12, h.s13, h.s14, h.s15, h.s16, h.s17, h.s18, h.s19, h.s20, h.s21, h.s22⟩
theorem WgJ.op12 (h : WgJ V xd rd n cx c x t q gm nr c2 i kv xs2 name bb dn val X) : WgJ V xd rd n cx c x t q gm nr c2 i kv xs2 name bb (andB dn 12) (updV val 12 (.int .i64 (t : Int))) X :=
  ⟨h.bel, h.s0, h.s1, h.s2, h.s3, h.s4, h.s5, h.s6, h.s7, h.s8, h.s9, h.s10, h.s11, (fun _ => rfl), h.s13, h.s14, h.s15, h.s16, h.s17, h.s18, h.s19, h.s20, h.s21, h.s22⟩
theorem WgJ.op13 (h : WgJ V xd rd n cx c x t q gm nr c2 i kv xs2 name bb dn val X) {v : Value} (hv : InSl Y Y.heap.size v xs2) (hb : Below X.heap.size X Y) : WgJ V xd rd n cx c x t q gm nr c2 i kv xs2 name bb (andB dn 13) (updV val 13 (v)) Y :=
  ⟨h.bel.trans (hb.mono h.bel.size), h.s0, h.s1, h.s2, h.s3, h.s4, h.s5, h.s6, h.s7, h.s8, h.s9, h.s10, h.s11, h.s12, (fun _ => hv), h.s14, h.s15, h.s16, h.s17, h.s18, h.s19, h.s20, h.s21, h.s22⟩
theorem WgJ.op14 (h : WgJ V xd rd n cx c x t q gm nr c2 i kv xs2 name bb dn val X) : WgJ V xd rd n cx c x t q gm nr c2 i kv xs2 name bb (andB dn 14) (updV val 14 (.pointer (some ⟨gm, 1, none⟩))) X :=
  ⟨h.bel, h.s0, h.s1, h.s2, h.s3, h.s4, h.s5, h.s6, h.s7, h.s8, h.s9, h.s10, h.s11, h.s12, h.s13, (fun _ => rfl), h.s15, h.s16, h.s17, h.s18, h.s19, h.s20, h.s21, h.s22⟩
theorem WgJ.op15 (h : WgJ V xd rd n cx c x t q gm nr c2 i kv xs2 name bb dn val X) : WgJ V xd rd n cx c x t q gm nr c2 i kv xs2 name bb (andB dn 15) (updV val 15 (.slice (some rd) nr c2)) X :=
  ⟨h.bel, h.s0, h.s1, h.s2, h.s3, h.s4, h.s5, h.s6, h.s7, h.s8, h.s9, h.s10, h.s11, h.s12, h.s13, h.s14, (fun _ => rfl), h.s16, h.s17, h.s18, h.s19, h.s20, h.s21, h.s22⟩
theorem WgJ.op16 (h : WgJ V xd rd n cx c x t q gm nr c2 i kv xs2 name bb dn val X) : WgJ V xd rd n cx c x t q gm nr c2 i kv xs2 name bb (andB dn 16) (updV val 16 (.int .i64 (i : Int))) X :=
  ⟨h.bel, h.s0, h.s1, h.s2, h.s3, h.s4, h.s5, h.s6, h.s7, h.s8, h.s9, h.s10, h.s11, h.s12, h.s13, h.s14, h.s15, (fun _ => rfl), h.s17, h.s18, h.s19, h.s20, h.s21, h.s22⟩
theorem WgJ.op17 (h : WgJ V xd rd n cx c x t q gm nr c2 i kv xs2 name bb dn val X) : WgJ V xd rd n cx c x t q gm nr c2 i kv xs2 name bb (andB dn 17) (updV val 17 (.pointer (some (rd.add (i * 2))))) X :=
  ⟨h.bel, h.s0, h.s1, h.s2, h.s3, h.s4, h.s5, h.s6, h.s7, h.s8, h.s9, h.s10, h.s11, h.s12, h.s13, h.s14, h.s15, h.s16, (fun _ => rfl), h.s18, h.s19, h.s20, h.s21, h.s22⟩
theorem WgJ.op18 (h : WgJ V xd rd n cx c x t q gm nr c2 i kv xs2 name bb dn val X) : WgJ V xd rd n cx c x t q gm nr c2 i kv xs2 name bb (andB dn 18) (updV val 18 (.pointer (some (rd.add (i * 2))))) X :=
  ⟨h.bel, h.s0, h.s1, h.s2, h.s3, h.s4, h.s5, h.s6, h.s7, h.s8, h.s9, h.s10, h.s11, h.s12, h.s13, h.s14, h.s15, h.s16, h.s17, (fun _ => rfl), h.s19, h.s20, h.s21, h.s22⟩
theorem WgJ.op19 (h : WgJ V xd rd n cx c x t q gm nr c2 i kv xs2 name bb dn val X) : WgJ V xd rd n cx c x t q gm nr c2 i kv xs2 name bb (andB dn 19) (updV val 19 (.int .i64 name)) X :=
  ⟨h.bel, h.s0, h.s1, h.s2, h.s3, h.s4, h.s5, h.s6, h.s7, h.s8, h.s9, h.s10, h.s11, h.s12, h.s13, h.s14, h.s15, h.s16, h.s17, h.s18, (fun _ => rfl), h.s20, h.s21, h.s22⟩
theorem WgJ.op20 (h : WgJ V xd rd n cx c x t q gm nr c2 i kv xs2 name bb dn val X)  (hb : Below X.heap.size X Y) : WgJ V xd rd n cx c x t q gm nr c2 i kv xs2 name bb (andB dn 20) (updV val 20 (.bool bb)) Y :=
  ⟨h.bel.trans (hb.mono h.bel.size), h.s0, h.s1, h.s2, h.s3, h.s4, h.s5, h.s6, h.s7, h.s8, h.s9, h.s10, h.s11, h.s12, (fun d => (h.s13 d).step hb), h.s14, h.s15, h.s16, h.s17, h.s18, h.s19, (fun _ => rfl), h.s21, h.s22⟩
theorem WgJ.op21 (h : WgJ V xd rd n cx c x t q gm nr c2 i kv xs2 name bb dn val X) : WgJ V xd rd n cx c x t q gm nr c2 i kv xs2 name bb (andB dn 21) (updV val 21 (.bool (!bb))) X :=
  ⟨h.bel, h.s0, h.s1, h.s2, h.s3, h.s4, h.s5, h.s6, h.s7, h.s8, h.s9, h.s10, h.s11, h.s12, h.s13, h.s14, h.s15, h.s16, h.s17, h.s18, h.s19, h.s20, (fun _ => rfl), h.s22⟩
theorem WgJ.op22 (h : WgJ V xd rd n cx c x t q gm nr c2 i kv xs2 name bb dn val X) : WgJ V xd rd n cx c x t q gm nr c2 i kv xs2 name bb (andB dn 22) (updV val 22 (.bool (!bb))) X :=
  ⟨h.bel, h.s0, h.s1, h.s2, h.s3, h.s4, h.s5, h.s6, h.s7, h.s8, h.s9, h.s10, h.s11, h.s12, h.s13, h.s14, h.s15, h.s16, h.s17, h.s18, h.s19, h.s20, h.s21, (fun _ => rfl)⟩
end
set_option maxRecDepth 100000 in
set_option maxHeartbeats 16000000 in
theorem rWrong_any (v u : Value) (m : Mx) (k : Kx) (w : World) (hv : MxV w v m) (hs : MSm m) (hu : KyV w u k) (hk : KSm k) :
    Calls Tryz.prog 10 #[v, u] w fun e w' => (∃ x, e = .returned (.tuple #[.int .i64 (wrongN m k), x, .int .i64 (wrongE m k)]) ∧ Fr w.heap.size w' x (wrongL m k)) ∧ Below w.heap.size w w' := by
  obtain ⟨A1, c1, A2, c2, W0, rfl, hW0, hb0, hM, hS, hR, hX⟩ := mx_box hv
  have hz : W0.heap.size = w.heap.size + 1 := by rw [← hW0]; simp
  obtain ⟨B1, d1, B2, d2, W1, rfl, hW1, hb1, hK, hNd, hV, hX1⟩ := ky_box (hu.step hb0)
  rw [hz] at hX1
  have hn1 : W1.heap[w.heap.size + 1]? = some (.cells #[.slice B1 k.nd.length d1, .slice B2 k.lv.length d2] 29) := by rw [← hW1, ← hz]; exact World.alloc_heap_new W0 _
  have HKb := Lib.hid (fun Y (h : Below W1.heap.size W1 Y) => (h.block _ (Array.getElem?_eq_some_iff.1 hn1).1).trans hn1)
  have HW := Lib.hid (And.intro hW0 hW1)
  have hB1 := hb0.trans (hb1.mono hb0.size)
  have HB1 := Lib.hid hB1
  have HX := Lib.hid (fun Y (h : Below W1.heap.size W1 Y) => And.intro (hX Y (hb1.trans (h.mono hb1.size))) (hX1 Y h))
  have HC := Lib.hid (rCheckKey_any _ _ m k W1 (hM W1 hb1) hs (hK W1 (Below.refl _ _)) hk)
  have HRw := Lib.hid (hR W1 hb1)
  have HFl := Lib.hid (fun (h : ckE m k = 0) Y (hY : Below W1.heap.size W1 Y) (xv : Value) (xs : List Int) (name : Int) (hx : InSl Y Y.heap.size xv xs) (hlen : xs.length = m.st.length) (hr : ∀ (i : Nat) (x : Int), xs[i]? = some x → 0 ≤ x ∧ x ≤ 65535) => rfails_any _ xv k xs m.st name Y (hK Y hY) hx hk (ck_ok h).2.2 hlen (leaves_one (ck_ok h).2.1) hr)
  have HRow := Lib.hid (fun (h : ckE m k = 0) (r : Rw) (hr : r ∈ m.rows) => show r.may.length = m.st.length ∧ ∀ (i : Nat) (x : Int), r.may[i]? = some x → 1 ≤ x ∧ x ≤ 65535 from ⟨sets_len (may_sets (ck_ok h).1 hr), fun i x hx => sets_range (ck_ok h).1 (may_sets (ck_ok h).1 hr) hx⟩)
  have HBm := Lib.hid (fun (h : ckE m k = 0) (r : Rw) (hr : r ∈ m.rows) => show badF k r.may r.nm = misF k r.nm r.may from bad_mis (ck_ok h).2.2 (sets_len (may_sets (ck_ok h).1 hr)) (fun i x hx => by have := sets_range (ck_ok h).1 (may_sets (ck_ok h).1 hr) hx; omega) (leaves_one (ck_ok h).2.1) r.nm)
  have HNx := Lib.hid (fun (h : ckE m k = 0) (r : Rw) (hr : r ∈ m.rows) (hmis : misF k r.nm r.may = true) (c : Nat) (hc : c < r.may.length) => And.intro (fms_next (ck_ok h).2.2 (no_twice h) (leaves_one (ck_ok h).2.1) (sets_len (may_sets (ck_ok h).1 hr)) (fun i x hx => sets_range (ck_ok h).1 (may_sets (ck_ok h).1 hr) hx) hmis hc)
    (xs_rng (ck_ok h).2.2 (no_twice h) (leaves_one (ck_ok h).2.1) (sets_len (may_sets (ck_ok h).1 hr)) (fun i x hx => sets_range (ck_ok h).1 (may_sets (ck_ok h).1 hr) hx) hmis (Nat.le_of_lt hc)))
  have HE := Lib.hid (show wrongE m k = (if ckE m k = 0 then (if (wrongR m k).isSome = true then 0 else 3) else ckE m k) ∧ wrongN m k = (if wrongE m k = 0 then ((wrongR m k).getD ⟨0, []⟩).nm else 0) ∧ wrongL m k = (if wrongE m k = 0 then firstF k ((wrongR m k).getD ⟨0, []⟩) else []) ∧ wrongR m k = m.rows.find? (fun r => misF k r.nm r.may) from ⟨rfl, rfl, rfl, rfl⟩)
  have HCk := Lib.hid (ck_cases m k)
  have HSt := Lib.hid (fun h : ckE m k = 0 => show m.st.length ≤ 64 from (ck_ok h).2.2.len)
  obtain ⟨ce, hce⟩ : ∃ c, ckE m k = c := ⟨_, rfl⟩
  obtain ⟨we, hwe⟩ : ∃ c, wrongE m k = c := ⟨_, rfl⟩
  obtain ⟨wn, hwn⟩ : ∃ c, wrongN m k = c := ⟨_, rfl⟩
  obtain ⟨wl, hwl⟩ : ∃ c, wrongL m k = c := ⟨_, rfl⟩
  rw [hce] at HC HE HCk HFl HRow HBm HNx HSt
  rw [hwe, hwn, hwl] at HE
  rw [hwe, hwn, hwl]
  obtain ⟨ns, hns⟩ : ∃ n, m.st.length = n := ⟨_, rfl⟩
  obtain ⟨nr, hnr⟩ : ∃ n, m.rows.length = n := ⟨_, rfl⟩
  have hnr2 : nr ≤ 1000 := by rw [← hnr]; have := hs.2.1; omega
  have HN := Lib.hid hnr
  rw [hns, hnr] at HW HX HC
  rw [hns] at HFl HRow HSt
  rw [hnr] at HRw
  rw [hns, hnr]
  obtain ⟨⟨k0, k1⟩, k2, k3⟩ := HX.out W1 (Below.refl _ _)
  generalize k.nd.length = n at *
  generalize k.lv.length = nl at *
  clear hn1 hv hu hs hk hW0 hb0 hM hS hR hX hz hW1 hb1 hK hNd hV hX1 hce hwe hwn hwl hns hnr hB1
  go_enter Tryz.func10, Tryz.ntmps10
  go_wp2_with fail
  rw [HW.out.1, HW.out.2]
  (try go_wp2_with fail)
  (with_reducible refine HC.out.mono ?_)
  rintro e y1 ⟨rfl, hb⟩
  have HB2 := Lib.hid hb
  clear k0 k1 k2 k3 HC hb
  obtain ⟨⟨k0, k1⟩, k2, k3⟩ := HX.out y1 HB2.out
  have bad : ∀ z : Int, ce = z → z ≠ 0 → we = z ∧ wn = 0 ∧ wl = [] := fun z h h0 => by
    have h1 : we = z := by rw [HE.out.1, h, if_neg h0]
    exact ⟨h1, by rw [HE.out.2.1, h1, if_neg h0], by rw [HE.out.2.2.1, h1, if_neg h0]⟩
  rcases HCk.out with h0 | h0 | h0
  rotate_left
  · subst h0
    have HF := Lib.hid (bad 30 rfl (by decide))
    clear bad HE HCk HFl HRow HBm HNx HSt
    go_wp2_with fail
    refine bodyPost_ret (v := .tuple #[.int .i64 0, .slice none 0 0, .int .i64 30]) (by simp [results, Tryz.results10, go_sem]) rfl ?_
    exact ⟨⟨_, by rw [HF.out.1, HF.out.2.1], by rw [HF.out.2.2]; exact Fr.nil _ _⟩, HB1.out.trans (HB2.out.mono HB1.out.size)⟩
  · subst h0
    have HF := Lib.hid (bad 31 rfl (by decide))
    clear bad HE HCk HFl HRow HBm HNx HSt
    go_wp2_with fail
    refine bodyPost_ret (v := .tuple #[.int .i64 0, .slice none 0 0, .int .i64 31]) (by simp [results, Tryz.results10, go_sem]) rfl ?_
    exact ⟨⟨_, by rw [HF.out.1, HF.out.2.1], by rw [HF.out.2.2]; exact Fr.nil _ _⟩, HB1.out.trans (HB2.out.mono HB1.out.size)⟩
  subst h0
  have HFl2 := Lib.hid (HFl.out rfl)
  have HRow2 := Lib.hid (HRow.out rfl)
  have HBm2 := Lib.hid (HBm.out rfl)
  have HNx2 := Lib.hid (HNx.out rfl)
  have hns64 := HSt.out rfl
  have HF := Lib.hid (fun (r : Rw) (h : m.rows.find? (fun r => misF k r.nm r.may) = some r) => show we = 0 ∧ wn = r.nm ∧ wl = firstF k r from by
    have h1 : we = 0 := by rw [HE.out.1, HE.out.2.2.2, h]; rfl
    exact ⟨h1, by rw [HE.out.2.1, h1, if_pos rfl, HE.out.2.2.2, h]; rfl, by rw [HE.out.2.2.1, h1, if_pos rfl, HE.out.2.2.2, h]; rfl⟩)
  have HG := Lib.hid (fun (h : m.rows.find? (fun r => misF k r.nm r.may) = none) => show we = 3 ∧ wn = 0 ∧ wl = [] from by
    have h1 : we = 3 := by rw [HE.out.1, HE.out.2.2.2, h]; rfl
    exact ⟨h1, by rw [HE.out.2.1, h1]; rfl, by rw [HE.out.2.2.1, h1]; rfl⟩)
  clear bad HE HCk HFl HRow HBm HNx HSt
  go_wp2_with fail
  go_loopw [8, 9, 10, 11, 12] (fun iv _ _ _ _ wr => ∃ i : Nat, iv = .int .i64 (i : Int) ∧ i ≤ nr ∧ Below y1.heap.size y1 wr ∧ ∀ (j : Nat) (s : Rw), j < i → m.rows[j]? = some s → misF k s.nm s.may = false) (fun iv _ _ _ _ _ => nr - (intOf iv).toNat)
  case atStart => exact ⟨0, rfl, by omega, Below.refl _ _, fun j s h => by omega⟩
  case round =>
    obtain ⟨i, rfl, hin, hb, hall⟩ := hrel
    have HBi := Lib.hid hb
    have HAll := Lib.hid hall
    have HBw := Lib.hid (HB2.out.trans (hb.mono HB2.out.size))
    clear hb hall k0 k1 k2 k3
    obtain ⟨⟨k0, k1⟩, k2, k3⟩ := HX.out wr HBw.out
    by_cases hlt : i < nr
    · have his : (i : Int) < (nr : Int) := by omega
      have hi0 : ¬ (i : Int) < 0 := by omega
      obtain ⟨r, ad, Am, cm, hr, rfl, hY⟩ := HRw.out.at_ hlt
      have hmr := List.mem_of_getElem? hr
      obtain ⟨hlen, hrng⟩ := HRow2.out r hmr
      have HRl := Lib.hid hlen
      have HRg := Lib.hid hrng
      have HBr := Lib.hid (HBm2.out r hmr)
      have HNr := Lib.hid (HNx2.out r hmr)
      have HRr := Lib.hid hr
      rw [hlen] at hY HNr
      obtain ⟨name, hname⟩ : ∃ x, r.nm = x := ⟨_, rfl⟩
      have HNm := Lib.hid hname
      rw [hname] at hY HBr HNr
      have HY := Lib.hid hY
      obtain ⟨⟨n0, n1⟩, hmy⟩ := hY wr HBw.out
      have hlit := OwN.lit wr
      have HBl := Lib.hid (HBw.out.trans (hlit.bel.mono HBw.out.size))
      have HMl := Lib.hid (hmy.step hlit.bel)
      have HL0 := Lib.hid hlit
      have HLe := Lib.hid (show ([] : List Int).length + r.may.length ≤ 3000000 from by rw [HRl.out]; simp; omega)
      obtain ⟨⟨_, k1b⟩, _⟩ := HX.out _ HBl.out
      obtain ⟨⟨n0b, n1b⟩, _⟩ := hY _ HBl.out
      clear hr hmr hlen hrng hname hY hmy hlit
      go_wp2_with (at_builtin; refine wpList_appN rfl _ _ rfl HL0.out rfl rfl HMl.out HLe.out ?_; intro v6 w6 hI6 _; rw [List.nil_append] at hI6; obtain ⟨A6, c6, e6, _⟩ := hI6.sl.form; subst e6; have HI6 := Lib.hid hI6; clear hI6)
      have HB6 := Lib.hid (HBw.out.trans (HI6.out.bel.mono HBw.out.size))
      clear HL0 HMl HLe HBl k0 k1 k2 k3 n0 n1 k1b n0b n1b
      obtain ⟨⟨k0, k1⟩, k2, k3⟩ := HX.out w6 HB6.out
      obtain ⟨⟨n0, n1⟩, _⟩ := HY.out w6 HB6.out
      have HFz := Lib.hid (fun z : Wb w6 => HFl2.out z.v (HB6.out.trans (z.h.mono HB6.out.size)) (.slice A6 r.may.length c6) r.may name (HI6.out.sl.step z.h) HRl.out (fun i x hx => by have := HRg.out i x hx; omega))
      rw [HBr.out, HRl.out] at HFz
      rw [HRl.out]
      obtain ⟨b, hb⟩ : ∃ b, misF k name r.may = b := ⟨_, rfl⟩
      rw [hb] at HFz
      have HMb := Lib.hid hb
      have ss := fun p : Wb w6 => And.intro (And.intro (Wb.cell k1 p) (Wb.cell n0 p)) (And.intro (Wb.cell k2 p) (Wb.cell k3 p))
      clear hb
      go_wp2_with fail
      refine wp_region_wb (by kernel_rfl) (by kernel_rfl) ?_; (repeat ((with_reducible refine wpQuiet_step ?_); intro K hK; go_simp; (try (refine ite_neg_of (by simp [undef]) ?_)); first | (with_reducible refine hK _ ?_; clear hK K) | (apply Exists.intro; (with_reducible refine ⟨fun _ => ?_, hK _ ?_⟩); ((go_at_call 31; exact Calls.wb (HFz.out _))); clear hK K))); (with_reducible refine wpQuiet_nil ?_); rintro w1 ⟨⟨_, hb1⟩, rfl⟩; (try dsimp only)
      have HB7 := Lib.hid (HB6.out.trans (hb1.mono HB6.out.size))
      have HXs := Lib.hid ((HI6.out.sl.step hb1))
      rw [HRl.out] at HXs
      have HB67 := Lib.hid hb1
      clear hb1 ss HFz k0 k1 k2 k3 n0 n1
      cases b with
      | false =>
        go_wp2_with fail
        go_roundw
        case rel => exact ⟨i + 1, by go_num, by omega, HBi.out.trans ((HI6.out.bel.trans (HB67.out.mono HI6.out.bel.size)).mono HBi.out.size), fun j s hj hs => by
          by_cases e : j = i
          · subst e
            rw [HRr.out] at hs; injection hs with hs; subst hs
            rw [HNm.out]; exact HMb.out
          · exact HAll.out j s (by omega) hs⟩
        case measure => simp [intOf]; omega
      | true =>
        have HF2 := Lib.hid (HF.out r (find_hit HRr.out (by show misF k r.nm r.may = true; rw [HNm.out]; exact HMb.out) (fun j s hj hs => HAll.out j s hj hs)))
        have HNr2 := Lib.hid (HNr.out HMb.out)
        have HS0 := Lib.hid (show OwN w1 (.slice none 0 0) (spF k r 0) w1 from OwN.start w1)
        have HX0 := Lib.hid (show InSl w1 w1.heap.size (.slice A6 ns c6) (xsF k r 0) from by rw [xs_zero]; exact HXs.out)
        clear HNr HAll HXs
        go_wp2_with fail
        go_loopw [9, 10, 11, 12] (fun xv sv cv tv wr => ∃ (c : Nat) (Ax : Option Addr) (cx : Nat) (As : Option Addr) (cs : Nat), xv = .slice Ax ns cx ∧ sv = .slice As c cs ∧ cv = .int .i64 (c : Int) ∧ c ≤ ns ∧ InSl wr wr.heap.size (.slice Ax ns cx) (xsF k r c) ∧ OwN w1 (.slice As c cs) (spF k r c) wr) (fun _ _ cv _ _ => ns - (intOf cv).toNat)
        case atStart => exact ⟨0, A6, c6, none, 0, rfl, rfl, rfl, by omega, HX0.out, HS0.out⟩
        case round =>
          clear HX0 HS0
          obtain ⟨c, Ax, cx, As, cs, rfl, rfl, rfl, hcl, hxs, hsp⟩ := hrel
          have HXs := Lib.hid hxs
          have HSp := Lib.hid hsp
          have HBc := Lib.hid (HB7.out.trans (hsp.bel.mono HB7.out.size))
          clear hxs hsp
          obtain ⟨wc, hwc⟩ : ∃ z, z = wr := ⟨_, rfl⟩
          subst hwc
          by_cases hcn : c < ns
          · obtain ⟨⟨s, x, hs16, hx65, hxc, hbit, hbad, hmin, hxs2, hsp2⟩, hrng⟩ := HNr2.out c hcn
            have hcs : (c : Int) < (ns : Int) := by omega
            have hc0 : ¬ (c : Int) < 0 := by omega
            have HBb := Lib.hid (And.intro hbad hmin)
            have HNx := Lib.hid (And.intro hxs2 hsp2)
            have HRn := Lib.hid hrng
            have HBit := Lib.hid hbit
            have HXl := Lib.hid (show (xsF k r c).length = ns from by rw [xs_len]; exact HRl.out)
            have HAlo := Lib.hid (fun (t : Nat) (ht : t < 16) Y (h : Below wc.heap.size wc Y) => ralone_any (.slice Ax ns cx) (xsF k r c) c t Y (HXs.out.step h) (by rw [HXl.out]; exact hcn) ht (by rw [HXl.out]; omega))
            obtain ⟨x1, xd, hx1, e1, _, hcx⟩ := (show InA wc wc.heap.size Ax (xsF k r c) from by obtain ⟨_, _, e, _, _, h⟩ := HXs.out; cases e; exact h).at_ HXl.out hcn
            rw [hxc] at hx1
            injection hx1 with hx1
            subst hx1
            subst e1
            have HCx := Lib.hid hcx
            clear hbad hmin hxs2 hsp2 hrng hbit hxc hcx
            go_wp2_with fail
            go_loopw [12] (fun tv wr => ∃ t : Nat, tv = .int .i64 (t : Int) ∧ t ≤ s ∧ Below wc.heap.size wc wr) (fun tv _ => s - (intOf tv).toNat)
            case atStart => exact ⟨0, rfl, by omega, Below.refl _ _⟩
            case round =>
              obtain ⟨t, rfl, hts, hbt⟩ := hrel
              have HBt := Lib.hid hbt
              have HBq := Lib.hid (HBc.out.trans (hbt.mono HBc.out.size))
              clear hbt
              have ht0 : ¬ (t : Int) < 0 := by omega
              have ht64 : t < 64 := by omega
              have ht16 : t < 16 := by omega
              obtain ⟨q, hq⟩ : ∃ q, x / 2 ^ t = q := ⟨_, rfl⟩
              have hqi : (x : Int) / 2 ^ t = (q : Int) := by rw [← hq]; simp
              have hcx : wr.cell? (xd.add c) = some (.int .i64 (x : Int)) := (HBt.out.cell (World.block_lt_of_cell? _ _ HCx.out)).trans HCx.out
              rcases Nat.mod_two_eq_zero_or_one q with hr | hr
              · have hne : t ≠ s := fun e => by subst e; have := HBit.out; rw [hq] at this; omega
                have hrm : (q : Int) % 2 = 0 := by omega
                have hrt : Int.tmod (q : Int) 2 = 0 := by rw [Int.tmod_eq_emod_of_nonneg (by omega)]; exact hrm
                have ss := fun p : Wb wr => Wb.cell hcx p
                clear hq hr
                go_wp2_with fail
                refine wp_region_wb (by kernel_rfl) (by kernel_rfl) ?_; (repeat ((with_reducible refine wpQuiet_step ?_); intro K hK; go_simp; (try (refine ite_neg_of (by simp [undef]) ?_)); first | (with_reducible refine hK _ ?_; clear hK K) | (apply Exists.intro; (with_reducible refine ⟨fun _ => ?_, hK _ ?_⟩); (fail); clear hK K))); (with_reducible refine wpQuiet_nil ?_); rintro w1 ⟨⟨_, hb1⟩, rfl⟩; (try dsimp only)
                have HB8 := Lib.hid (HBt.out.trans (hb1.mono HBt.out.size))
                clear hb1 ss
                go_wp2_with fail
                go_roundw
                case rel => exact ⟨t + 1, by go_num, by omega, HB8.out⟩
                case measure => simp [intOf]; omega
              · have hrm : (q : Int) % 2 = 1 := by omega
                have hrt : Int.tmod (q : Int) 2 = 1 := by rw [Int.tmod_eq_emod_of_nonneg (by omega)]; exact hrm
                have HQi := Lib.hid hqi
                have HRt := Lib.hid hrt
                have hbt : x / 2 ^ t % 2 = 1 := by rw [hq]; exact hr
                obtain ⟨bb, hbb⟩ : ∃ b, badF k ((xsF k r c).set c (2 ^ t)) name = b := ⟨_, rfl⟩
                have HBz := Lib.hid (show bb = decide (t = s) from by
                  rw [← hbb]
                  by_cases e : t = s
                  · subst e; rw [HBb.out.1]; simp
                  · rw [HBb.out.2 t (by omega) hbt]; simp [e])
                have HXc := Lib.hid (fun X (h : Below wr.heap.size wr X) => show X.cell? (xd.add c) = some (.int .i64 (x : Int)) from (h.cell (World.block_lt_of_cell? _ _ hcx)).trans hcx)
                have HO := Lib.hid (fun X (h : Below wr.heap.size wr X) => And.intro (HKb.out X (HBq.out.trans (h.mono HBq.out.size))) (And.intro (HX.out X (HBq.out.trans (h.mono HBq.out.size))).1.2 (HY.out X (HBq.out.trans (h.mono HBq.out.size))).1.1))
                have HAl := Lib.hid (fun X (h : Below wr.heap.size wr X) => HAlo.out t ht16 X (HBt.out.trans (h.mono HBt.out.size)))
                have HFb := Lib.hid (fun v X (h : Below wr.heap.size wr X) (hv : InSl X X.heap.size v ((xsF k r c).set c (2 ^ t))) => show Calls Tryz.prog 31 #[.agg #[.slice B1 n d1, .slice B2 nl d2], v, .int .i64 name] X fun e w' => e = .returned (.bool bb) ∧ Below X.heap.size X w' from by
                  rw [← hbb]
                  exact HFl2.out X (HBq.out.trans (h.mono HBq.out.size)) v _ name hv (by rw [List.length_set]; exact HXl.out) (set_rng HRn.out ht16))
                obtain ⟨xs2, hxs2⟩ : ∃ l, (xsF k r c).set c (2 ^ t) = l := ⟨_, rfl⟩
                have HX2 := Lib.hid hxs2
                have HX2l := Lib.hid (show xs2.length = ns from by rw [← hxs2, List.length_set]; exact HXl.out)
                rw [hxs2] at HAl HFb
                clear hxs2 hq hr hbt hbb hcx hqi hrt hrm
                go_wp2_with fail
                have HBd := Lib.hid (fun X (hI : Below wr.drew.heap.size wr.drew X) => (Below.refl wr.heap.size wr).drew.trans hI)
                replace HXc := Lib.hid (fun X (h : Below wr.heap.size wr X) => HXc.out X h)
                refine wp_opaque ?_
                intro t0 ht0
                have hsz0 : t0.size = 90 := by rw [ht0]; rfl
                have q2 : t0.getD 2 undef = .pointer (some ⟨w.heap.size, 0, none⟩) := by rw [ht0]; rfl
                have q3 : t0.getD 3 undef = .pointer (some ⟨w.heap.size + 1, 0, none⟩) := by rw [ht0]; rfl
                have q8 : t0.getD 8 undef = .int .i64 (i : Int) := by rw [ht0]; rfl
                have q9 : t0.getD 9 undef = .slice (some xd) ns cx := by rw [ht0]; rfl
                have q11 : t0.getD 11 undef = .int .i64 (c : Int) := by rw [ht0]; rfl
                have q12 : t0.getD 12 undef = .int .i64 (t : Int) := by rw [ht0]; rfl
                have HT0 := Lib.hid ht0
                clear ht0
                refine wp_region_valsW [some 50, some 51, some 52, some 53, some 54, some 55, some 56, some 57, some 58, some 59, some 60, some 61, some 62, some 63, some 64, some 65, some 66, some 67, some 68, some 69, some 70, some 71, some 72] (WgJ wr.drew xd ad ns cx c x t q w.heap.size nr c2 i (.agg #[.slice B1 n d1, .slice B2 nl d2]) xs2 name bb) (by kernel_rfl) (by kernel_rfl) rfl rfl (by simp [hsz0]) ?_ ?_ ?_
                · intro val
                  exact ⟨Below.refl _ _, (fun h => nomatch h), (fun h => nomatch h), (fun h => nomatch h), (fun h => nomatch h), (fun h => nomatch h), (fun h => nomatch h), (fun h => nomatch h), (fun h => nomatch h), (fun h => nomatch h), (fun h => nomatch h), (fun h => nomatch h), (fun h => nomatch h), (fun h => nomatch h), (fun h => nomatch h), (fun h => nomatch h), (fun h => nomatch h), (fun h => nomatch h), (fun h => nomatch h), (fun h => nomatch h), (fun h => nomatch h), (fun h => nomatch h), (fun h => nomatch h), (fun h => nomatch h)⟩
                · intro dn q o hi hd hp hc val X a ha hn' hI
                  have hq : q < 23 := by
                    have := (Array.getElem?_eq_some_iff.1 hi).1
                    simpa using this
                  have hB := HBd.out X hI.bel
                  rcases (show q = 0 ∨ q = 1 ∨ q = 2 ∨ q = 3 ∨ q = 4 ∨ q = 5 ∨ q = 6 ∨ q = 7 ∨ q = 8 ∨ q = 9 ∨ q = 10 ∨ q = 11 ∨ q = 12 ∨ q = 13 ∨ q = 14 ∨ q = 15 ∨ q = 16 ∨ q = 17 ∨ q = 18 ∨ q = 19 ∨ q = 20 ∨ q = 21 ∨ q = 22 by omega) with rfl | rfl | rfl | rfl | rfl | rfl | rfl | rfl | rfl | rfl | rfl | rfl | rfl | rfl | rfl | rfl | rfl | rfl | rfl | rfl | rfl | rfl | rfl
                  · obtain rfl := Option.some.inj hi
                    refine ⟨rfl, fun K hK => ?_⟩
                    exact opMove 9 _ rfl ((ha 9).trans q9) (hK _ _ hI.op0)
                  · obtain rfl := Option.some.inj hi
                    refine ⟨rfl, fun K hK => ?_⟩
                    exact opMove 11 _ rfl ((ha 11).trans q11) (hK _ _ hI.op1)
                  · obtain rfl := Option.some.inj hi
                    refine ⟨rfl, fun K hK => ?_⟩
                    have y0 := hI.s0 (hp ⟨0, .data⟩ (by simp) rfl)
                    have y1 := hI.s1 (hp ⟨1, .data⟩ (by simp) rfl)
                    exact opIx 50 51 _ _ _ _ rfl ((ha 50).trans y0) ((ha 51).trans y1) hcn (hK _ _ hI.op2)
                  · obtain rfl := Option.some.inj hi
                    refine ⟨rfl, fun K hK => ?_⟩
                    have y2 := hI.s2 (hp ⟨2, .data⟩ (by simp) rfl)
                    exact opLd 52 _ _ rfl ((ha 52).trans y2) (HXc.out X hB) (hK _ _ hI.op3)
                  · obtain rfl := Option.some.inj hi
                    refine ⟨rfl, fun K hK => ?_⟩
                    exact opMove 12 _ rfl ((ha 12).trans q12) (hK _ _ hI.op4)
                  · obtain rfl := Option.some.inj hi
                    refine ⟨rfl, fun K hK => ?_⟩
                    have y3 := hI.s3 (hp ⟨3, .data⟩ (by simp) rfl)
                    have y4 := hI.s4 (hp ⟨4, .data⟩ (by simp) rfl)
                    exact opShr 53 54 _ _ _ rfl ((ha 53).trans y3) ((ha 54).trans y4) ht64 HQi.out (hK _ _ hI.op5)
                  · obtain rfl := Option.some.inj hi
                    refine ⟨rfl, fun K hK => ?_⟩
                    have y5 := hI.s5 (hp ⟨5, .data⟩ (by simp) rfl)
                    exact opRem2 55 _ _ rfl ((ha 55).trans y5) HRt.out (hK _ _ hI.op6)
                  · obtain rfl := Option.some.inj hi
                    refine ⟨rfl, fun K hK => ?_⟩
                    have y6 := hI.s6 (hp ⟨6, .data⟩ (by simp) rfl)
                    exact opEql0 56 rfl ((ha 56).trans y6) (hK _ _ hI.op7)
                  · obtain rfl := Option.some.inj hi
                    refine ⟨rfl, fun K hK => ?_⟩
                    have y7 := hI.s7 (hp ⟨7, .data⟩ (by simp) rfl)
                    exact opMove 57 _ rfl ((ha 57).trans y7) (hK _ _ hI.op8)
                  · obtain rfl := Option.some.inj hi
                    refine ⟨wanted_of rfl (yielded_of (d := 58) rfl ((ha 58).trans (hI.s8 (hp ⟨8, .guard⟩ (by simp) rfl)))), fun K hK => ?_⟩
                    exact opLdKey 3 _ _ _ rfl ((ha 3).trans q3) (HO.out X hB).1 (hK _ _ hI.op9)
                  · obtain rfl := Option.some.inj hi
                    refine ⟨wanted_of rfl (yielded_of (d := 58) rfl ((ha 58).trans (hI.s8 (hp ⟨8, .guard⟩ (by simp) rfl)))), fun K hK => ?_⟩
                    exact opMove 9 _ rfl ((ha 9).trans q9) (hK _ _ hI.op10)
                  · obtain rfl := Option.some.inj hi
                    refine ⟨wanted_of rfl (yielded_of (d := 58) rfl ((ha 58).trans (hI.s8 (hp ⟨8, .guard⟩ (by simp) rfl)))), fun K hK => ?_⟩
                    exact opMove 11 _ rfl ((ha 11).trans q11) (hK _ _ hI.op11)
                  · obtain rfl := Option.some.inj hi
                    refine ⟨wanted_of rfl (yielded_of (d := 58) rfl ((ha 58).trans (hI.s8 (hp ⟨8, .guard⟩ (by simp) rfl)))), fun K hK => ?_⟩
                    exact opMove 12 _ rfl ((ha 12).trans q12) (hK _ _ hI.op12)
                  · obtain rfl := Option.some.inj hi
                    refine ⟨wanted_of rfl (yielded_of (d := 58) rfl ((ha 58).trans (hI.s8 (hp ⟨8, .guard⟩ (by simp) rfl)))), fun K hK => ?_⟩
                    have y10 := hI.s10 (hp ⟨10, .data⟩ (by simp) rfl)
                    have y11 := hI.s11 (hp ⟨11, .data⟩ (by simp) rfl)
                    have y12 := hI.s12 (hp ⟨12, .data⟩ (by simp) rfl)
                    refine opCall3 32 _ 60 61 62 _ _ _ _ rfl ((ha 60).trans y10) ((ha 61).trans y11) ((ha 62).trans y12) (by go_simp) (HAl.out X hB) ?_
                    rintro e Y ⟨⟨r, rfl, hF⟩, hb⟩
                    exact ⟨r, rfl, hK _ _ (hI.op13 hF.1 hb)⟩
                  · obtain rfl := Option.some.inj hi
                    refine ⟨wanted_of rfl (yielded_of (d := 58) rfl ((ha 58).trans (hI.s8 (hp ⟨8, .guard⟩ (by simp) rfl)))), fun K hK => ?_⟩
                    exact opFieldMx 1 2 _ (by omega) rfl ((ha 2).trans q2) (hK _ _ hI.op14)
                  · obtain rfl := Option.some.inj hi
                    refine ⟨wanted_of rfl (yielded_of (d := 58) rfl ((ha 58).trans (hI.s8 (hp ⟨8, .guard⟩ (by simp) rfl)))), fun K hK => ?_⟩
                    have y14 := hI.s14 (hp ⟨14, .data⟩ (by simp) rfl)
                    exact opLdRs 64 _ _ rfl ((ha 64).trans y14) (HO.out X hB).2.1 (hK _ _ hI.op15)
                  · obtain rfl := Option.some.inj hi
                    refine ⟨wanted_of rfl (yielded_of (d := 58) rfl ((ha 58).trans (hI.s8 (hp ⟨8, .guard⟩ (by simp) rfl)))), fun K hK => ?_⟩
                    exact opMove 8 _ rfl ((ha 8).trans q8) (hK _ _ hI.op16)
                  · obtain rfl := Option.some.inj hi
                    refine ⟨wanted_of rfl (yielded_of (d := 58) rfl ((ha 58).trans (hI.s8 (hp ⟨8, .guard⟩ (by simp) rfl)))), fun K hK => ?_⟩
                    have y15 := hI.s15 (hp ⟨15, .data⟩ (by simp) rfl)
                    have y16 := hI.s16 (hp ⟨16, .data⟩ (by simp) rfl)
                    exact opIxR 65 66 _ _ _ _ rfl ((ha 65).trans y15) ((ha 66).trans y16) hlt (hK _ _ hI.op17)
                  · obtain rfl := Option.some.inj hi
                    refine ⟨wanted_of rfl (yielded_of (d := 58) rfl ((ha 58).trans (hI.s8 (hp ⟨8, .guard⟩ (by simp) rfl)))), fun K hK => ?_⟩
                    have y17 := hI.s17 (hp ⟨17, .data⟩ (by simp) rfl)
                    exact opFieldR0 67 _ rfl ((ha 67).trans y17) (hK _ _ hI.op18)
                  · obtain rfl := Option.some.inj hi
                    refine ⟨wanted_of rfl (yielded_of (d := 58) rfl ((ha 58).trans (hI.s8 (hp ⟨8, .guard⟩ (by simp) rfl)))), fun K hK => ?_⟩
                    have y18 := hI.s18 (hp ⟨18, .data⟩ (by simp) rfl)
                    exact opLd 68 _ _ rfl ((ha 68).trans y18) (HO.out X hB).2.2 (hK _ _ hI.op19)
                  · obtain rfl := Option.some.inj hi
                    refine ⟨wanted_of rfl (yielded_of (d := 58) rfl ((ha 58).trans (hI.s8 (hp ⟨8, .guard⟩ (by simp) rfl)))), fun K hK => ?_⟩
                    have y9 := hI.s9 (hp ⟨9, .data⟩ (by simp) rfl)
                    have y13 := hI.s13 (hp ⟨13, .data⟩ (by simp) rfl)
                    have y19 := hI.s19 (hp ⟨19, .data⟩ (by simp) rfl)
                    refine opCall3 31 _ 59 63 69 _ _ _ _ rfl ((ha 59).trans y9) (ha 63) ((ha 69).trans y19) (by go_simp) (HFb.out _ X hB y13) ?_
                    rintro e Y ⟨rfl, hb⟩
                    exact ⟨_, rfl, hK _ _ (hI.op20 hb)⟩
                  · obtain rfl := Option.some.inj hi
                    refine ⟨wanted_of rfl (yielded_of (d := 58) rfl ((ha 58).trans (hI.s8 (hp ⟨8, .guard⟩ (by simp) rfl)))), fun K hK => ?_⟩
                    have y20 := hI.s20 (hp ⟨20, .data⟩ (by simp) rfl)
                    exact opNotB 70 _ rfl ((ha 70).trans y20) (hK _ _ hI.op21)
                  · obtain rfl := Option.some.inj hi
                    refine ⟨rfl, fun K hK => ?_⟩
                    have y8 := hI.s8 (hp ⟨8, .data⟩ (by simp) rfl)
                    have y21 := hI.s21 (hp ⟨21, .data⟩ (by simp) rfl)
                    exact opPickF 58 71 _ rfl ((ha 58).trans y8) ((ha 71).trans y21) (hK _ _ hI.op22)
                · intro dn val X hdn hI
                  have HBr := Lib.hid (HBd.out X hI.bel)
                  have h0 := hI.s0 (hdn 0 (by simp))
                  have h1 := hI.s1 (hdn 1 (by simp))
                  have h2 := hI.s2 (hdn 2 (by simp))
                  have h3 := hI.s3 (hdn 3 (by simp))
                  have h4 := hI.s4 (hdn 4 (by simp))
                  have h5 := hI.s5 (hdn 5 (by simp))
                  have h6 := hI.s6 (hdn 6 (by simp))
                  have h7 := hI.s7 (hdn 7 (by simp))
                  have h8 := hI.s8 (hdn 8 (by simp))
                  have h9 := hI.s9 (hdn 9 (by simp))
                  have h10 := hI.s10 (hdn 10 (by simp))
                  have h11 := hI.s11 (hdn 11 (by simp))
                  have h12 := hI.s12 (hdn 12 (by simp))
                  have h13 := hI.s13 (hdn 13 (by simp))
                  have h14 := hI.s14 (hdn 14 (by simp))
                  have h15 := hI.s15 (hdn 15 (by simp))
                  have h16 := hI.s16 (hdn 16 (by simp))
                  have h17 := hI.s17 (hdn 17 (by simp))
                  have h18 := hI.s18 (hdn 18 (by simp))
                  have h19 := hI.s19 (hdn 19 (by simp))
                  have h20 := hI.s20 (hdn 20 (by simp))
                  have h21 := hI.s21 (hdn 21 (by simp))
                  have h22 := hI.s22 (hdn 22 (by simp))
                  simp only [wrS, HT0.out]
                  simp only [List.setIfInBounds_toArray, List.set_cons_succ, List.set_cons_zero]
                  rw [h0, h1, h2, h3, h4, h5, h6, h7, h8, h9, h10, h11, h12, h14, h15, h16, h17, h18, h19, h20, h21, h22]
                  (try simp only [Exit.then])
                  clear hdn HT0 hsz0 q2 q3 q8 q9 q11 q12
                  have HB8 := Lib.hid (HBt.out.trans (HBr.out.mono HBt.out.size))
                  clear hI HBr HBd HAl HFb HO HXc h0 h1 h2 h3 h4 h5 h6 h7 h8 h9 h10 h11 h12 h13 h14 h15 h16 h17 h18 h19 h20 h21 h22
                  generalize val 13 = uu3 at *
                  cases bb with
                  | false =>
                    go_wp2_with fail
                    go_roundw
                    case rel => exact ⟨t + 1, by go_num, (by have h := HBz.out; have h2 : ¬ t = s := (by simpa using h.symm); omega), HB8.out⟩
                    case measure => simp [intOf]; have h := HBz.out; have h2 : ¬ t = s := (by simpa using h.symm); omega
                  | true =>
                    obtain rfl : t = s := by simpa using HBz.out
                    have hA2 := HAlo.out t ht16 X HB8.out
                    rw [HX2.out] at hA2
                    have HA2 := Lib.hid hA2
                    clear hA2
                    go_wp2_with fail
                    (with_reducible refine HA2.out.mono ?_)
                    rintro e w4 ⟨⟨rv, rfl, hr⟩, hb⟩
                    obtain ⟨Ar, cr, er, _⟩ := hr.1.form
                    rw [HX2l.out] at er
                    subst er
                    have HB9 := Lib.hid (HB8.out.trans (hb.mono HB8.out.size))
                    have HO4 := Lib.hid (HSp.out.step HB9.out)
                    have HR4 := Lib.hid hr.1
                    have HRo := Lib.hid (fun g (e : Value.ownBlock (.slice Ar ns cr) = some g) => show Value.ownBlock (.slice As c cs) ≠ some g ∧ g < w4.heap.size from ⟨fun e2 => by
                      have h1 := (hr.2 g e).1
                      have h2 := (HSp.out.own.lt g e2).2
                      have h3 := HB8.out.size
                      omega, (hr.2 g e).2⟩)
                    have HLq := Lib.hid (show (spF k r c).length + [(t : Int)].length ≤ 3000000 from by rw [sp_len]; simp; omega)
                    clear hr hb HA2
                    go_wp2_with (at_builtin; refine wpList_appN rfl _ _ rfl (HO4.out.step (below_new _)) rfl rfl (box_sl (y := (t : Int)) (World.alloc_heap_new _ _)) HLq.out ?_; intro v5 w5 hI5 hg5; obtain ⟨A5, c5, e5, _⟩ := hI5.sl.form; rw [show (spF k r c ++ [(t : Int)]).length = c + 1 from by rw [List.length_append, sp_len]; rfl] at e5; subst e5; have HI5 := Lib.hid hI5; have HG5 := Lib.hid hg5; clear hI5 hg5)
                    refine ⟨?_, ?measure⟩
                    (repeat apply Exists.intro)
                    refine ⟨?rel, rfl⟩
                    case rel =>
                      refine ⟨c + 1, Ar, cr, A5, c5, rfl, rfl, by go_num, by omega, ?_, by rw [HNx.out.2]; exact HI5.out⟩
                      rw [HNx.out.1, HX2.out]
                      have hz5 := HG5.out.size
                      have ha : (w4.alloc (.cells #[.int .i64 (t : Int)] 3)).heap.size = w4.heap.size + 1 := by simp
                      exact ((HR4.out.step (below_new _)).keepOwn fun p hp => World.cell?_of_block (HG5.out.block _ (by
                        have := (HRo.out _ hp).2
                        omega) fun e => (HRo.out _ hp).1 e.symm)).mono HG5.out.size
                    case measure => simp [intOf]; omega
          · obtain rfl : ns = c := by omega
            obtain ⟨⟨k0, k1⟩, k2, k3⟩ := HX.out wc HBc.out
            obtain ⟨⟨n0, n1⟩, _⟩ := HY.out wc HBc.out
            have HFr := Lib.hid (show Fr w.heap.size wc (.slice As ns cs) wl from by
              rw [HF2.out.2.2, ← sp_all, HRl.out]
              exact HSp.out.fr.low (Nat.le_trans HB1.out.size HB7.out.size))
            go_wp2_with fail
            refine bodyPost_ret (v := .tuple #[.int .i64 name, .slice As ns cs, .int .i64 0]) (by simp [results, Tryz.results10, go_sem]) rfl ?_
            exact ⟨⟨_, by rw [HF2.out.1, HF2.out.2.1, HNm.out], HFr.out⟩, HB1.out.trans (HBc.out.mono HB1.out.size)⟩
    · obtain rfl : nr = i := by omega
      have HF2 := Lib.hid (HG.out (find_miss fun j s h1 h2 => HAll.out j s (by rw [HN.out] at h1; exact h1) h2))
      go_wp2_with fail
      refine bodyPost_ret (v := .tuple #[.int .i64 0, .slice none 0 0, .int .i64 3]) (by simp [results, Tryz.results10, go_sem]) rfl ?_
      exact ⟨⟨_, by rw [HF2.out.1, HF2.out.2.1], by rw [HF2.out.2.2]; exact Fr.nil _ _⟩, HB1.out.trans (HBw.out.mono HB1.out.size)⟩
set_option maxRecDepth 100000 in
set_option maxHeartbeats 8000000 in
theorem rRight_any (v u : Value) (m : Mx) (k : Kx) (w : World) (hv : MxV w v m) (hs : MSm m) (hu : KyV w u k) (hk : KSm k) :
    Calls Tryz.prog 8 #[v, u] w fun e w' => e = .returned (.tuple #[.bool (decide (wrongE m k = 3)), .int .i64 (rightE m k)]) ∧ Below w.heap.size w w' := by
  obtain ⟨A1, c1, A2, c2, W0, rfl, hW0, hb0, hM, hS, hR, hX⟩ := mx_box hv
  have hz : W0.heap.size = w.heap.size + 1 := by rw [← hW0]; simp
  obtain ⟨B1, d1, B2, d2, W1, rfl, hW1, hb1, hK, hNd, hV, hX1⟩ := ky_box (hu.step hb0)
  have HW := Lib.hid (And.intro hW0 hW1)
  have HB1 := Lib.hid (hb0.trans (hb1.mono hb0.size))
  have HC := Lib.hid (rWrong_any _ _ m k W1 (hM W1 hb1) hs (hK W1 (Below.refl _ _)) hk)
  have HE := Lib.hid (show rightE m k = if wrongE m k = 3 then 0 else wrongE m k from rfl)
  have HCs := Lib.hid (wrong_cases m k)
  rw [HE.out]
  obtain ⟨we, hwe⟩ : ∃ c, wrongE m k = c := ⟨_, rfl⟩
  rw [hwe] at HC HCs ⊢
  generalize k.nd.length = n at *
  generalize k.lv.length = nl at *
  generalize m.st.length = ns at *
  generalize m.rows.length = nr at *
  generalize wrongN m k = wn at *
  clear hv hu hs hk hW0 hb0 hM hS hR hX hz hW1 hb1 hK hNd hV hX1 hwe HE
  go_enter Tryz.func8, Tryz.ntmps8
  go_wp2_with fail
  rw [HW.out.1, HW.out.2]
  (try go_wp2_with fail)
  (with_reducible refine HC.out.mono ?_)
  rintro e w1 ⟨⟨x, rfl, hx⟩, hb⟩
  have HB2 := Lib.hid (HB1.out.trans (hb.mono HB1.out.size))
  obtain ⟨Ax, cx, rfl, _⟩ := hx.1.form
  generalize (wrongL m k).length = wll at *
  clear hx hb HC
  rcases HCs.out with rfl | rfl | rfl | rfl
  · go_wp2_with fail
    go_ret2
    exact ⟨by simp, HB2.out⟩
  · go_wp2_with fail
    go_ret2
    exact ⟨by simp, HB2.out⟩
  · go_wp2_with fail
    go_ret2
    exact ⟨by simp, HB2.out⟩
  · go_wp2_with fail
    go_ret2
    exact ⟨by simp, HB2.out⟩
end Go.Proofs.YthfegbcbpeedbaaGreatDoor
