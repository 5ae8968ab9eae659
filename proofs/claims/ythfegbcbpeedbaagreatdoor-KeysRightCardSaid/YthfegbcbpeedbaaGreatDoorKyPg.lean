
/- The reference: Both. -/
import Derived.Test.YthfegbcbpeedbaaGreatDoorKyZ
namespace Go.Ky
open Go.Nm
def tlT (CL : List Int) (i : Nat) : List Int := ((List.range i).filter fun c => decide (CL.getD c 1 = 0)).map fun c => ((c : Nat) : Int)
def tellL (m : Mx) (a b : Int) : List Int := if comE m a b = 0 then tlT (comL m a b) m.st.length else []
theorem tlT_yes {CL : List Int} {i : Nat} (h : CL[i]? = some 0) : tlT CL (i + 1) = tlT CL i ++ [(i : Int)] := by
  unfold tlT
  rw [List.range_succ, List.filter_append, List.map_append]
  simp [h]
theorem tlT_no {CL : List Int} {i : Nat} {z : Int} (h : CL[i]? = some z) (hz : z ≠ 0) : tlT CL (i + 1) = tlT CL i := by
  unfold tlT
  rw [List.range_succ, List.filter_append, List.map_append]
  simp [h, hz]
theorem tlT_len (CL : List Int) (i : Nat) : (tlT CL i).length ≤ i := by
  unfold tlT
  rw [List.length_map]
  have := List.length_filter_le (fun c => decide (CL.getD c 1 = 0)) (List.range i)
  rwa [List.length_range] at this
end Go.Ky
namespace Go.Proofs.YthfegbcbpeedbaaGreatDoor
open Go.RowKit Go.Nm Go.Ky

theorem com_cases (m : Mx) (a b : Int) : comE m a b = 0 ∨ comE m a b = 1 ∨ comE m a b = 30 := by
  unfold comE
  rcases row_all m a with ⟨h1, _⟩ | ⟨h1, _⟩
  · rw [if_pos h1]
    rcases row_all m b with ⟨h2, _⟩ | ⟨h2, _⟩ <;> omega
  · rw [if_neg (by omega)]; omega
end Go.Proofs.YthfegbcbpeedbaaGreatDoor
namespace Go.Proofs.YthfegbcbpeedbaaGreatDoor
open Go.RowKit Go.Nm Go.Ky

end Go.Proofs.YthfegbcbpeedbaaGreatDoor
namespace Go.Proofs.YthfegbcbpeedbaaGreatDoor
open Go.RowKit Go.Nm Go.Ky

theorem com_get {m : Mx} {a b : Int} {i : Nat} {x y : Int} (hx : (rowF m a).may[i]? = some x) (hy : (rowF m b).may[i]? = some y) : (comL m a b)[i]? = some (meetF x y) := by
  unfold comL
  rw [List.getElem?_zipWith, hx, hy]
end Go.Proofs.YthfegbcbpeedbaaGreatDoor
namespace Go.Ky
theorem tz_low {x i : Nat} (h0 : 0 < x) (h : x < 65536) (hi : i < tzN x) : x / 2 ^ i % 2 = 0 := by
  have h1 := (tz_ok h0 h).2.2
  obtain ⟨t, ht⟩ : ∃ t, tzN x = t := ⟨_, rfl⟩
  rw [ht] at h1 hi
  obtain ⟨q, hq⟩ := Nat.dvd_of_mod_eq_zero h1
  obtain ⟨d, rfl⟩ : ∃ d, t = i + 1 + d := ⟨t - (i + 1), by omega⟩
  have e : x = 2 ^ i * (2 * (2 ^ d * q)) := by
    conv => lhs; rw [hq, Nat.pow_add, Nat.pow_succ]
    simp only [Nat.mul_assoc]
  rw [e, Nat.mul_div_cancel_left _ (Nat.two_pow_pos i)]
  exact Nat.mul_mod_right 2 _
theorem tz_one {x : Nat} (h0 : 0 < x) (h : x < 65536) : x / 2 ^ tzN x % 2 = 1 := by
  have h1 := (tz_ok h0 h).2.1
  rw [Nat.testBit_eq_decide_div_mod_eq] at h1
  exact of_decide_eq_true h1
end Go.Ky
namespace Go.Proofs.YthfegbcbpeedbaaGreatDoor
open Go.RowKit Go.Nm Go.Ky

end Go.Proofs.YthfegbcbpeedbaaGreatDoor
namespace Go.Ky
open Go.Nm
theorem zip_all : ∀ (a b : List Int), ((a.zip b).all fun p => decide (meetF p.1 p.2 ≠ 0)) = (List.zipWith meetF a b).all fun z => decide (z ≠ 0)
  | [], _ => by simp
  | _ :: _, [] => by simp
  | x :: a, y :: b => by simp only [List.zip_cons_cons, List.all_cons, List.zipWith_cons_cons, zip_all a b]
theorem com_all (m : Mx) (a b : Int) : fitsF (rowF m a).may (rowF m b).may = (comL m a b).all fun z => decide (z ≠ 0) := zip_all _ _
end Go.Ky
namespace Go.Proofs.YthfegbcbpeedbaaGreatDoor
open Go.RowKit Go.Nm Go.Ky

structure SaI (V W : World) (ad bd : Addr) (ov : Value) (i n n2 cx cy : Nat) (x y z t : Int) (M : List Int) (dn : Nat → Bool) (val : Nat → Value) (X : World) : Prop where
  s0 : dn 0 = true → val 0 = ov
  s1 : dn 1 = true → val 1 = .slice (some ad) n cx
  s2 : dn 2 = true → val 2 = .int .i64 (i : Int)
  s3 : dn 3 = true → val 3 = .pointer (some (ad.add i))
  s4 : dn 4 = true → val 4 = .int .i64 x
  s5 : dn 5 = true → val 5 = .slice (some bd) n2 cy
  s6 : dn 6 = true → val 6 = .int .i64 (i : Int)
  s7 : dn 7 = true → val 7 = .pointer (some (bd.add i))
  s8 : dn 8 = true → val 8 = .int .i64 y
  s9 : dn 9 = true → val 9 = .int .i64 z
  s10 : dn 10 = true → val 10 = .int .i64 t
  bel : dn 12 = false → Below V.heap.size V X
  eB : dn 11 = true → dn 12 = false → ∃ g, val 11 = .slice (some ⟨g, 0, none⟩) 1 1 ∧ X.heap[g]? = some (.cells #[.int .i64 t] 3)
  eA : dn 12 = true → OwN W (val 12) M X
  eZ : dn 13 = true → dn 12 = true ∧ val 13 = val 12
section
variable {V W : World} {ad bd : Addr} {ov : Value} {i n n2 cx cy : Nat} {x y z t : Int} {M : List Int} {dn : Nat → Bool} {val : Nat → Value} {X Y : World}
theorem SaI.op0 (h : SaI V W ad bd ov i n n2 cx cy x y z t M dn val X) : SaI V W ad bd ov i n n2 cx cy x y z t M (andB dn 0) (updV val 0 (ov)) X :=
  ⟨(fun _ => rfl), h.s1, h.s2, h.s3, h.s4, h.s5, h.s6, h.s7, h.s8, h.s9, h.s10, h.bel, h.eB, h.eA, h.eZ⟩
theorem SaI.op1 (h : SaI V W ad bd ov i n n2 cx cy x y z t M dn val X) : SaI V W ad bd ov i n n2 cx cy x y z t M (andB dn 1) (updV val 1 (.slice (some ad) n cx)) X :=
  ⟨h.s0, (fun _ => rfl), h.s2, h.s3, h.s4, h.s5, h.s6, h.s7, h.s8, h.s9, h.s10, h.bel, h.eB, h.eA, h.eZ⟩
theorem SaI.op2 (h : SaI V W ad bd ov i n n2 cx cy x y z t M dn val X) : SaI V W ad bd ov i n n2 cx cy x y z t M (andB dn 2) (updV val 2 (.int .i64 (i : Int))) X :=
  ⟨h.s0, h.s1, (fun _ => rfl), h.s3, h.s4, h.s5, h.s6, h.s7, h.s8, h.s9, h.s10, h.bel, h.eB, h.eA, h.eZ⟩
theorem SaI.op3 (h : SaI V W ad bd ov i n n2 cx cy x y z t M dn val X) : SaI V W ad bd ov i n n2 cx cy x y z t M (andB dn 3) (updV val 3 (.pointer (some (ad.add i)))) X :=
  ⟨h.s0, h.s1, h.s2, (fun _ => rfl), h.s4, h.s5, h.s6, h.s7, h.s8, h.s9, h.s10, h.bel, h.eB, h.eA, h.eZ⟩
theorem SaI.op4 (h : SaI V W ad bd ov i n n2 cx cy x y z t M dn val X) : SaI V W ad bd ov i n n2 cx cy x y z t M (andB dn 4) (updV val 4 (.int .i64 x)) X :=
  ⟨h.s0, h.s1, h.s2, h.s3, (fun _ => rfl), h.s5, h.s6, h.s7, h.s8, h.s9, h.s10, h.bel, h.eB, h.eA, h.eZ⟩
theorem SaI.op5 (h : SaI V W ad bd ov i n n2 cx cy x y z t M dn val X) : SaI V W ad bd ov i n n2 cx cy x y z t M (andB dn 5) (updV val 5 (.slice (some bd) n2 cy)) X :=
  ⟨h.s0, h.s1, h.s2, h.s3, h.s4, (fun _ => rfl), h.s6, h.s7, h.s8, h.s9, h.s10, h.bel, h.eB, h.eA, h.eZ⟩
theorem SaI.op6 (h : SaI V W ad bd ov i n n2 cx cy x y z t M dn val X) : SaI V W ad bd ov i n n2 cx cy x y z t M (andB dn 6) (updV val 6 (.int .i64 (i : Int))) X :=
  ⟨h.s0, h.s1, h.s2, h.s3, h.s4, h.s5, (fun _ => rfl), h.s7, h.s8, h.s9, h.s10, h.bel, h.eB, h.eA, h.eZ⟩
theorem SaI.op7 (h : SaI V W ad bd ov i n n2 cx cy x y z t M dn val X) : SaI V W ad bd ov i n n2 cx cy x y z t M (andB dn 7) (updV val 7 (.pointer (some (bd.add i)))) X :=
  ⟨h.s0, h.s1, h.s2, h.s3, h.s4, h.s5, h.s6, (fun _ => rfl), h.s8, h.s9, h.s10, h.bel, h.eB, h.eA, h.eZ⟩
theorem SaI.op8 (h : SaI V W ad bd ov i n n2 cx cy x y z t M dn val X) : SaI V W ad bd ov i n n2 cx cy x y z t M (andB dn 8) (updV val 8 (.int .i64 y)) X :=
  ⟨h.s0, h.s1, h.s2, h.s3, h.s4, h.s5, h.s6, h.s7, (fun _ => rfl), h.s9, h.s10, h.bel, h.eB, h.eA, h.eZ⟩
theorem SaI.op9 (h : SaI V W ad bd ov i n n2 cx cy x y z t M dn val X) : SaI V W ad bd ov i n n2 cx cy x y z t M (andB dn 9) (updV val 9 (.int .i64 z)) X :=
  ⟨h.s0, h.s1, h.s2, h.s3, h.s4, h.s5, h.s6, h.s7, h.s8, (fun _ => rfl), h.s10, h.bel, h.eB, h.eA, h.eZ⟩
theorem SaI.op10 (h : SaI V W ad bd ov i n n2 cx cy x y z t M dn val X) : SaI V W ad bd ov i n n2 cx cy x y z t M (andB dn 10) (updV val 10 (.int .i64 t)) X :=
  ⟨h.s0, h.s1, h.s2, h.s3, h.s4, h.s5, h.s6, h.s7, h.s8, h.s9, (fun _ => rfl), h.bel, h.eB, h.eA, h.eZ⟩
theorem SaI.op11 (h : SaI V W ad bd ov i n n2 cx cy x y z t M dn val X) (nA : dn 12 = false) : SaI V W ad bd ov i n n2 cx cy x y z t M (andB dn 11) (updV val 11 (.slice (some ⟨X.heap.size, 0, none⟩) 1 1)) (X.alloc (.cells #[.int .i64 t] 3)) :=
  ⟨h.s0, h.s1, h.s2, h.s3, h.s4, h.s5, h.s6, h.s7, h.s8, h.s9, h.s10, (fun n => (h.bel n).alloc (h.bel n).size _), (fun _ _ => ⟨_, rfl, World.alloc_heap_new X _⟩), (fun d => f_t nA d), h.eZ⟩
theorem SaI.op12 (h : SaI V W ad bd ov i n n2 cx cy x y z t M dn val X) (nZ : dn 13 = false) {v : Value} (hO : OwN W v M Y) : SaI V W ad bd ov i n n2 cx cy x y z t M (andB dn 12) (updV val 12 (v)) (Y) :=
  ⟨h.s0, h.s1, h.s2, h.s3, h.s4, h.s5, h.s6, h.s7, h.s8, h.s9, h.s10, (fun n => nomatch n), (fun _ n => nomatch n), (fun _ => hO), (fun d => f_t nZ d)⟩
theorem SaI.op13 (h : SaI V W ad bd ov i n n2 cx cy x y z t M dn val X) (yA : dn 12 = true) : SaI V W ad bd ov i n n2 cx cy x y z t M (andB dn 13) (updV val 13 (val 12)) (X) :=
  ⟨h.s0, h.s1, h.s2, h.s3, h.s4, h.s5, h.s6, h.s7, h.s8, h.s9, h.s10, h.bel, h.eB, h.eA, (fun _ => ⟨yA, rfl⟩)⟩
end
structure BoI (V W : World) (ad bd : Addr) (ov : Value) (i n n2 cx cy : Nat) (x y z t : Int) (M : List Int) (dn : Nat → Bool) (val : Nat → Value) (X : World) : Prop where
  s0 : dn 0 = true → val 0 = ov
  s1 : dn 1 = true → val 1 = .slice (some ad) n cx
  s2 : dn 2 = true → val 2 = .int .i64 (i : Int)
  s3 : dn 3 = true → val 3 = .pointer (some (ad.add i))
  s4 : dn 4 = true → val 4 = .int .i64 x
  s5 : dn 5 = true → val 5 = .slice (some bd) n2 cy
  s6 : dn 6 = true → val 6 = .int .i64 (i : Int)
  s7 : dn 7 = true → val 7 = .pointer (some (bd.add i))
  s8 : dn 8 = true → val 8 = .int .i64 y
  s9 : dn 9 = true → val 9 = .int .i64 z
  bel : dn 11 = false → Below V.heap.size V X
  eB : dn 10 = true → dn 11 = false → ∃ g, val 10 = .slice (some ⟨g, 0, none⟩) 1 1 ∧ X.heap[g]? = some (.cells #[.int .i64 t] 3)
  eA : dn 11 = true → OwN W (val 11) M X
  eZ : dn 12 = true → dn 11 = true ∧ val 12 = val 11
section
variable {V W : World} {ad bd : Addr} {ov : Value} {i n n2 cx cy : Nat} {x y z t : Int} {M : List Int} {dn : Nat → Bool} {val : Nat → Value} {X Y : World}
theorem BoI.op0 (h : BoI V W ad bd ov i n n2 cx cy x y z t M dn val X) : BoI V W ad bd ov i n n2 cx cy x y z t M (andB dn 0) (updV val 0 (ov)) X :=
  ⟨(fun _ => rfl), h.s1, h.s2, h.s3, h.s4, h.s5, h.s6, h.s7, h.s8, h.s9, h.bel, h.eB, h.eA, h.eZ⟩
theorem BoI.op1 (h : BoI V W ad bd ov i n n2 cx cy x y z t M dn val X) : BoI V W ad bd ov i n n2 cx cy x y z t M (andB dn 1) (updV val 1 (.slice (some ad) n cx)) X :=
  ⟨h.s0, (fun _ => rfl), h.s2, h.s3, h.s4, h.s5, h.s6, h.s7, h.s8, h.s9, h.bel, h.eB, h.eA, h.eZ⟩
theorem BoI.op2 (h : BoI V W ad bd ov i n n2 cx cy x y z t M dn val X) : BoI V W ad bd ov i n n2 cx cy x y z t M (andB dn 2) (updV val 2 (.int .i64 (i : Int))) X :=
  ⟨h.s0, h.s1, (fun _ => rfl), h.s3, h.s4, h.s5, h.s6, h.s7, h.s8, h.s9, h.bel, h.eB, h.eA, h.eZ⟩
theorem BoI.op3 (h : BoI V W ad bd ov i n n2 cx cy x y z t M dn val X) : BoI V W ad bd ov i n n2 cx cy x y z t M (andB dn 3) (updV val 3 (.pointer (some (ad.add i)))) X :=
  ⟨h.s0, h.s1, h.s2, (fun _ => rfl), h.s4, h.s5, h.s6, h.s7, h.s8, h.s9, h.bel, h.eB, h.eA, h.eZ⟩
theorem BoI.op4 (h : BoI V W ad bd ov i n n2 cx cy x y z t M dn val X) : BoI V W ad bd ov i n n2 cx cy x y z t M (andB dn 4) (updV val 4 (.int .i64 x)) X :=
  ⟨h.s0, h.s1, h.s2, h.s3, (fun _ => rfl), h.s5, h.s6, h.s7, h.s8, h.s9, h.bel, h.eB, h.eA, h.eZ⟩
theorem BoI.op5 (h : BoI V W ad bd ov i n n2 cx cy x y z t M dn val X) : BoI V W ad bd ov i n n2 cx cy x y z t M (andB dn 5) (updV val 5 (.slice (some bd) n2 cy)) X :=
  ⟨h.s0, h.s1, h.s2, h.s3, h.s4, (fun _ => rfl), h.s6, h.s7, h.s8, h.s9, h.bel, h.eB, h.eA, h.eZ⟩
theorem BoI.op6 (h : BoI V W ad bd ov i n n2 cx cy x y z t M dn val X) : BoI V W ad bd ov i n n2 cx cy x y z t M (andB dn 6) (updV val 6 (.int .i64 (i : Int))) X :=
  ⟨h.s0, h.s1, h.s2, h.s3, h.s4, h.s5, (fun _ => rfl), h.s7, h.s8, h.s9, h.bel, h.eB, h.eA, h.eZ⟩
theorem BoI.op7 (h : BoI V W ad bd ov i n n2 cx cy x y z t M dn val X) : BoI V W ad bd ov i n n2 cx cy x y z t M (andB dn 7) (updV val 7 (.pointer (some (bd.add i)))) X :=
  ⟨h.s0, h.s1, h.s2, h.s3, h.s4, h.s5, h.s6, (fun _ => rfl), h.s8, h.s9, h.bel, h.eB, h.eA, h.eZ⟩
theorem BoI.op8 (h : BoI V W ad bd ov i n n2 cx cy x y z t M dn val X) : BoI V W ad bd ov i n n2 cx cy x y z t M (andB dn 8) (updV val 8 (.int .i64 y)) X :=
  ⟨h.s0, h.s1, h.s2, h.s3, h.s4, h.s5, h.s6, h.s7, (fun _ => rfl), h.s9, h.bel, h.eB, h.eA, h.eZ⟩
theorem BoI.op9 (h : BoI V W ad bd ov i n n2 cx cy x y z t M dn val X) : BoI V W ad bd ov i n n2 cx cy x y z t M (andB dn 9) (updV val 9 (.int .i64 z)) X :=
  ⟨h.s0, h.s1, h.s2, h.s3, h.s4, h.s5, h.s6, h.s7, h.s8, (fun _ => rfl), h.bel, h.eB, h.eA, h.eZ⟩
theorem BoI.op10 (h : BoI V W ad bd ov i n n2 cx cy x y z t M dn val X) (nA : dn 11 = false) : BoI V W ad bd ov i n n2 cx cy x y z t M (andB dn 10) (updV val 10 (.slice (some ⟨X.heap.size, 0, none⟩) 1 1)) (X.alloc (.cells #[.int .i64 t] 3)) :=
  ⟨h.s0, h.s1, h.s2, h.s3, h.s4, h.s5, h.s6, h.s7, h.s8, h.s9, (fun n => (h.bel n).alloc (h.bel n).size _), (fun _ _ => ⟨_, rfl, World.alloc_heap_new X _⟩), (fun d => f_t nA d), h.eZ⟩
theorem BoI.op11 (h : BoI V W ad bd ov i n n2 cx cy x y z t M dn val X) (nZ : dn 12 = false) {v : Value} (hO : OwN W v M Y) : BoI V W ad bd ov i n n2 cx cy x y z t M (andB dn 11) (updV val 11 (v)) (Y) :=
  ⟨h.s0, h.s1, h.s2, h.s3, h.s4, h.s5, h.s6, h.s7, h.s8, h.s9, (fun n => nomatch n), (fun _ n => nomatch n), (fun _ => hO), (fun d => f_t nZ d)⟩
theorem BoI.op12 (h : BoI V W ad bd ov i n n2 cx cy x y z t M dn val X) (yA : dn 11 = true) : BoI V W ad bd ov i n n2 cx cy x y z t M (andB dn 12) (updV val 12 (val 11)) (X) :=
  ⟨h.s0, h.s1, h.s2, h.s3, h.s4, h.s5, h.s6, h.s7, h.s8, h.s9, h.bel, h.eB, h.eA, (fun _ => ⟨yA, rfl⟩)⟩
end
section
variable {o : Oper} {a : Act} {w : World} {K : Act → World → Prop} {Q : Exit → Act → World → Prop}
theorem opAndI (q r : Nat) (x y z : Int) (hz : bits BinOp.and IntKind.i64 x y = z) (ho : o.op = .binOp .and 3 (.tmp q) (.tmp r) 3) (hq : a.tmps.getD q undef = .int .i64 x) (hr : a.tmps.getD r undef = .int .i64 y) (h : K (a.put o.dst (.int .i64 z)) w) : o.wp Tryz.prog a w K Q := by
  unfold Oper.wp execOp
  have he : a.eval (.tmp q) = .int .i64 x := hq
  have he2 : a.eval (.tmp r) = .int .i64 y := hr
  simp only [ho, he, he2]
  go_simp
  exact h
end
end Go.Proofs.YthfegbcbpeedbaaGreatDoor
namespace Go.Ky
open Go.Nm
def bothE (m : Mx) (a b : List Int) : Int := if seenE m [a, b] = 0 then (if fitsF a b = true then 0 else 3) else seenE m [a, b]
def bothL (m : Mx) (a b : List Int) : List Int := if bothE m a b = 0 then List.zipWith meetF a b else []
theorem seen2 {m : Mx} {a b : List Int} (h : mxF m = true) : seenE m [a, b] = if setsF m.st a = true ∧ setsF m.st b = true then 0 else 32 := by
  rw [seenE_ok h]
  simp
theorem both_bad {m : Mx} {a b : List Int} (h : seenE m [a, b] ≠ 0) : bothE m a b = seenE m [a, b] ∧ bothL m a b = [] := by
  have h1 : bothE m a b = seenE m [a, b] := by unfold bothE; rw [if_neg h]
  exact ⟨h1, by unfold bothL; rw [h1, if_neg h]⟩
theorem both_no {m : Mx} {a b : List Int} (h : seenE m [a, b] = 0) (hf : fitsF a b = false) : bothE m a b = 3 ∧ bothL m a b = [] := by
  have h1 : bothE m a b = 3 := by unfold bothE; rw [if_pos h, hf]; rfl
  exact ⟨h1, by unfold bothL; rw [h1]; rfl⟩
theorem both_yes {m : Mx} {a b : List Int} (h : seenE m [a, b] = 0) (hf : fitsF a b = true) : bothE m a b = 0 ∧ bothL m a b = List.zipWith meetF a b := by
  have h1 : bothE m a b = 0 := by unfold bothE; rw [if_pos h, hf]; rfl
  exact ⟨h1, by unfold bothL; rw [h1]; rfl⟩
end Go.Ky
namespace Go.Proofs.YthfegbcbpeedbaaGreatDoor
open Go.RowKit Go.Nm Go.Ky

end Go.Proofs.YthfegbcbpeedbaaGreatDoor
