/- KeysConfusion: the law. -/
import Derived.Test.YthfegbcbpeedbaaDoorKyCi
import Derived.Test.YthfegbcbpeedbaaDoorKyCl
import Derived.Test.YthfegbcbpeedbaaDoorKyCk
import Derived.Test.YthfegbcbpeedbaaDoorKyAs
import Derived.Test.YthfegbcbpeedbaaDoorKySh
import Derived.Test.YthfegbcbpeedbaaDoorKyRg
import Derived.Test.YthfegbcbpeedbaaDoorKyFm
namespace Go.Ky
open Go.Nm
theorem conf_two {lv : List (List Int)} : ∀ M ∈ confF lv, M.length = 2 := fun M hM => by
  unfold confF at hM
  rw [List.mem_flatMap] at hM
  obtain ⟨a, _, h⟩ := hM
  obtain ⟨b, _, rfl⟩ := List.mem_map.1 h
  rfl
theorem mem_take_next {L : List (List Int)} {n : Nat} {M x : List Int} (h : L[n]? = some M) : decide (x ∈ L.take (n + 1)) = (decide (x ∈ L.take n) || decide (M = x)) := by
  rw [show L.take (n + 1) = L.take n ++ [M] from by rw [List.take_add_one, h]; rfl, Bool.eq_iff_iff]
  simp only [decide_eq_true_eq, Bool.or_eq_true, List.mem_append, List.mem_singleton]
  constructor
  · rintro (h | h)
    · exact .inl h
    · exact .inr h.symm
  · rintro (h | h)
    · exact .inl h
    · exact .inr h.symm
end Go.Ky
namespace Go.Proofs.YthfegbcbpeedbaaDoor
open Go.RowKit Go.Nm Go.Ky
structure CoI (V : World) (mv : Value) (gm : Nat) (rd : Addr) (nr c2 i j : Nat) (ni nj g : Int) (dn : Nat → Bool) (val : Nat → Value) (X : World) : Prop where
  bel : Below V.heap.size V X
  s0 : dn 0 = true → val 0 = mv
  s1 : dn 1 = true → val 1 = .pointer (some ⟨gm, 1, none⟩)
  s2 : dn 2 = true → val 2 = .slice (some rd) nr c2
  s3 : dn 3 = true → val 3 = .int .i64 (i : Int)
  s4 : dn 4 = true → val 4 = .pointer (some (rd.add (i * 2)))
  s5 : dn 5 = true → val 5 = .pointer (some (rd.add (i * 2)))
  s6 : dn 6 = true → val 6 = .int .i64 ni
  s7 : dn 7 = true → val 7 = .pointer (some ⟨gm, 1, none⟩)
  s8 : dn 8 = true → val 8 = .slice (some rd) nr c2
  s9 : dn 9 = true → val 9 = .int .i64 (j : Int)
  s10 : dn 10 = true → val 10 = .pointer (some (rd.add (j * 2)))
  s11 : dn 11 = true → val 11 = .pointer (some (rd.add (j * 2)))
  s12 : dn 12 = true → val 12 = .int .i64 nj
  s13 : dn 13 = true → ∃ r, (val 13) = .tuple #[r, .int .i64 g]
  s14 : dn 14 = true → ∃ r, (val 14) = .tuple #[r, .int .i64 g]
  s16 : dn 16 = true → val 16 = .int .i64 g
  s18 : dn 18 = true → val 18 = .int .i64 g
section
variable {V : World} {mv : Value} {gm : Nat} {rd : Addr} {nr c2 i j : Nat} {ni nj g : Int} {dn : Nat → Bool} {val : Nat → Value} {X Y : World}
theorem CoI.op0 (h : CoI V mv gm rd nr c2 i j ni nj g dn val X) : CoI V mv gm rd nr c2 i j ni nj g (andB dn 0) (updV val 0 (mv)) X :=
  ⟨h.bel, (fun _ => rfl), h.s1, h.s2, h.s3, h.s4, h.s5, h.s6, h.s7, h.s8, h.s9, h.s10, h.s11, h.s12, h.s13, h.s14, h.s16, h.s18⟩
theorem CoI.op1 (h : CoI V mv gm rd nr c2 i j ni nj g dn val X) : CoI V mv gm rd nr c2 i j ni nj g (andB dn 1) (updV val 1 (.pointer (some ⟨gm, 1, none⟩))) X :=
  ⟨h.bel, h.s0, (fun _ => rfl), h.s2, h.s3, h.s4, h.s5, h.s6, h.s7, h.s8, h.s9, h.s10, h.s11, h.s12, h.s13, h.s14, h.s16, h.s18⟩
theorem CoI.op2 (h : CoI V mv gm rd nr c2 i j ni nj g dn val X) : CoI V mv gm rd nr c2 i j ni nj g (andB dn 2) (updV val 2 (.slice (some rd) nr c2)) X :=
  ⟨h.bel, h.s0, h.s1, (fun _ => rfl), h.s3, h.s4, h.s5, h.s6, h.s7, h.s8, h.s9, h.s10, h.s11, h.s12, h.s13, h.s14, h.s16, h.s18⟩
theorem CoI.op3 (h : CoI V mv gm rd nr c2 i j ni nj g dn val X) : CoI V mv gm rd nr c2 i j ni nj g (andB dn 3) (updV val 3 (.int .i64 (i : Int))) X :=
  ⟨h.bel, h.s0, h.s1, h.s2, (fun _ => rfl), h.s4, h.s5, h.s6, h.s7, h.s8, h.s9, h.s10, h.s11, h.s12, h.s13, h.s14, h.s16, h.s18⟩
theorem CoI.op4 (h : CoI V mv gm rd nr c2 i j ni nj g dn val X) : CoI V mv gm rd nr c2 i j ni nj g (andB dn 4) (updV val 4 (.pointer (some (rd.add (i * 2))))) X :=
  ⟨h.bel, h.s0, h.s1, h.s2, h.s3, (fun _ => rfl), h.s5, h.s6, h.s7, h.s8, h.s9, h.s10, h.s11, h.s12, h.s13, h.s14, h.s16, h.s18⟩
theorem CoI.op5 (h : CoI V mv gm rd nr c2 i j ni nj g dn val X) : CoI V mv gm rd nr c2 i j ni nj g (andB dn 5) (updV val 5 (.pointer (some (rd.add (i * 2))))) X :=
  ⟨h.bel, h.s0, h.s1, h.s2, h.s3, h.s4, (fun _ => rfl), h.s6, h.s7, h.s8, h.s9, h.s10, h.s11, h.s12, h.s13, h.s14, h.s16, h.s18⟩
theorem CoI.op6 (h : CoI V mv gm rd nr c2 i j ni nj g dn val X) : CoI V mv gm rd nr c2 i j ni nj g (andB dn 6) (updV val 6 (.int .i64 ni)) X :=
  ⟨h.bel, h.s0, h.s1, h.s2, h.s3, h.s4, h.s5, (fun _ => rfl), h.s7, h.s8, h.s9, h.s10, h.s11, h.s12, h.s13, h.s14, h.s16, h.s18⟩
theorem CoI.op7 (h : CoI V mv gm rd nr c2 i j ni nj g dn val X) : CoI V mv gm rd nr c2 i j ni nj g (andB dn 7) (updV val 7 (.pointer (some ⟨gm, 1, none⟩))) X :=
  ⟨h.bel, h.s0, h.s1, h.s2, h.s3, h.s4, h.s5, h.s6, (fun _ => rfl), h.s8, h.s9, h.s10, h.s11, h.s12, h.s13, h.s14, h.s16, h.s18⟩
theorem CoI.op8 (h : CoI V mv gm rd nr c2 i j ni nj g dn val X) : CoI V mv gm rd nr c2 i j ni nj g (andB dn 8) (updV val 8 (.slice (some rd) nr c2)) X :=
  ⟨h.bel, h.s0, h.s1, h.s2, h.s3, h.s4, h.s5, h.s6, h.s7, (fun _ => rfl), h.s9, h.s10, h.s11, h.s12, h.s13, h.s14, h.s16, h.s18⟩
theorem CoI.op9 (h : CoI V mv gm rd nr c2 i j ni nj g dn val X) : CoI V mv gm rd nr c2 i j ni nj g (andB dn 9) (updV val 9 (.int .i64 (j : Int))) X :=
  ⟨h.bel, h.s0, h.s1, h.s2, h.s3, h.s4, h.s5, h.s6, h.s7, h.s8, (fun _ => rfl), h.s10, h.s11, h.s12, h.s13, h.s14, h.s16, h.s18⟩
theorem CoI.op10 (h : CoI V mv gm rd nr c2 i j ni nj g dn val X) : CoI V mv gm rd nr c2 i j ni nj g (andB dn 10) (updV val 10 (.pointer (some (rd.add (j * 2))))) X :=
  ⟨h.bel, h.s0, h.s1, h.s2, h.s3, h.s4, h.s5, h.s6, h.s7, h.s8, h.s9, (fun _ => rfl), h.s11, h.s12, h.s13, h.s14, h.s16, h.s18⟩
theorem CoI.op11 (h : CoI V mv gm rd nr c2 i j ni nj g dn val X) : CoI V mv gm rd nr c2 i j ni nj g (andB dn 11) (updV val 11 (.pointer (some (rd.add (j * 2))))) X :=
  ⟨h.bel, h.s0, h.s1, h.s2, h.s3, h.s4, h.s5, h.s6, h.s7, h.s8, h.s9, h.s10, (fun _ => rfl), h.s12, h.s13, h.s14, h.s16, h.s18⟩
theorem CoI.op12 (h : CoI V mv gm rd nr c2 i j ni nj g dn val X) : CoI V mv gm rd nr c2 i j ni nj g (andB dn 12) (updV val 12 (.int .i64 nj)) X :=
  ⟨h.bel, h.s0, h.s1, h.s2, h.s3, h.s4, h.s5, h.s6, h.s7, h.s8, h.s9, h.s10, h.s11, (fun _ => rfl), h.s13, h.s14, h.s16, h.s18⟩
theorem CoI.op13 (h : CoI V mv gm rd nr c2 i j ni nj g dn val X) {v : Value} (hv : ∃ r, v = .tuple #[r, .int .i64 g]) (hb : Below X.heap.size X Y) : CoI V mv gm rd nr c2 i j ni nj g (andB dn 13) (updV val 13 (v)) Y :=
  ⟨h.bel.trans (hb.mono h.bel.size), h.s0, h.s1, h.s2, h.s3, h.s4, h.s5, h.s6, h.s7, h.s8, h.s9, h.s10, h.s11, h.s12, (fun _ => hv), (fun d => (h.s14 d)), h.s16, h.s18⟩
theorem CoI.op14 (h : CoI V mv gm rd nr c2 i j ni nj g dn val X) {v : Value} (hv : ∃ r, v = .tuple #[r, .int .i64 g]) : CoI V mv gm rd nr c2 i j ni nj g (andB dn 14) (updV val 14 v) X :=
  ⟨h.bel, h.s0, h.s1, h.s2, h.s3, h.s4, h.s5, h.s6, h.s7, h.s8, h.s9, h.s10, h.s11, h.s12, h.s13, (fun _ => hv), h.s16, h.s18⟩
theorem CoI.op15 (h : CoI V mv gm rd nr c2 i j ni nj g dn val X) (v : Value) : CoI V mv gm rd nr c2 i j ni nj g (andB dn 15) (updV val 15 v) X :=
  ⟨h.bel, h.s0, h.s1, h.s2, h.s3, h.s4, h.s5, h.s6, h.s7, h.s8, h.s9, h.s10, h.s11, h.s12, h.s13, h.s14, h.s16, h.s18⟩
theorem CoI.op16 (h : CoI V mv gm rd nr c2 i j ni nj g dn val X) : CoI V mv gm rd nr c2 i j ni nj g (andB dn 16) (updV val 16 (.int .i64 g)) X :=
  ⟨h.bel, h.s0, h.s1, h.s2, h.s3, h.s4, h.s5, h.s6, h.s7, h.s8, h.s9, h.s10, h.s11, h.s12, h.s13, h.s14, (fun _ => rfl), h.s18⟩
theorem CoI.op17 (h : CoI V mv gm rd nr c2 i j ni nj g dn val X) (v : Value) : CoI V mv gm rd nr c2 i j ni nj g (andB dn 17) (updV val 17 v) X :=
  ⟨h.bel, h.s0, h.s1, h.s2, h.s3, h.s4, h.s5, h.s6, h.s7, h.s8, h.s9, h.s10, h.s11, h.s12, h.s13, h.s14, h.s16, h.s18⟩
theorem CoI.op18 (h : CoI V mv gm rd nr c2 i j ni nj g dn val X) : CoI V mv gm rd nr c2 i j ni nj g (andB dn 18) (updV val 18 (.int .i64 g)) X :=
  ⟨h.bel, h.s0, h.s1, h.s2, h.s3, h.s4, h.s5, h.s6, h.s7, h.s8, h.s9, h.s10, h.s11, h.s12, h.s13, h.s14, h.s16, (fun _ => rfl)⟩
end
structure CoJ (V : World) (gm : Nat) (rd lc : Addr) (nr c2 i j nC cC n : Nat) (lv : Value) (ni nj : Int) (bb : Bool) (dn : Nat → Bool) (val : Nat → Value) (X : World) : Prop where
  bel : Below V.heap.size V X
  s0 : dn 0 = true → val 0 = .bool false
  s1 : dn 1 = true → val 1 = .bool false
  s2 : dn 2 = true → val 2 = .slice (some lc) nC cC
  s3 : dn 3 = true → val 3 = .int .i64 (n : Int)
  s4 : dn 4 = true → val 4 = .pointer (some (lc.add n))
  s5 : dn 5 = true → val 5 = lv
  s6 : dn 6 = true → val 6 = .pointer (some ⟨gm, 1, none⟩)
  s7 : dn 7 = true → val 7 = .slice (some rd) nr c2
  s8 : dn 8 = true → val 8 = .int .i64 (i : Int)
  s9 : dn 9 = true → val 9 = .pointer (some (rd.add (i * 2)))
  s10 : dn 10 = true → val 10 = .pointer (some (rd.add (i * 2)))
  s11 : dn 11 = true → val 11 = .int .i64 ni
  s12 : dn 12 = true → val 12 = .pointer (some ⟨gm, 1, none⟩)
  s13 : dn 13 = true → val 13 = .slice (some rd) nr c2
  s14 : dn 14 = true → val 14 = .int .i64 (j : Int)
  s15 : dn 15 = true → val 15 = .pointer (some (rd.add (j * 2)))
  s16 : dn 16 = true → val 16 = .pointer (some (rd.add (j * 2)))
  s17 : dn 17 = true → val 17 = .int .i64 nj
  s18 : dn 18 = true → InSl X X.heap.size (val 18) [ni, nj]
  s19 : dn 19 = true → val 19 = .bool bb
  s20 : dn 20 = true → val 20 = .bool bb
  s21 : dn 21 = true → val 21 = .bool bb
section
variable {V : World} {gm : Nat} {rd lc : Addr} {nr c2 i j nC cC n : Nat} {lv : Value} {ni nj : Int} {bb : Bool} {dn : Nat → Bool} {val : Nat → Value} {X Y : World}
theorem CoJ.op0 (h : CoJ V gm rd lc nr c2 i j nC cC n lv ni nj bb dn val X) : CoJ V gm rd lc nr c2 i j nC cC n lv ni nj bb (andB dn 0) (updV val 0 (.bool false)) X :=
  ⟨h.bel, (fun _ => rfl), h.s1, h.s2, h.s3, h.s4, h.s5, h.s6, h.s7, h.s8, h.s9, h.s10, h.s11, h.s12, h.s13, h.s14, h.s15, h.s16, h.s17, h.s18, h.s19, h.s20, h.s21⟩
theorem CoJ.op1 (h : CoJ V gm rd lc nr c2 i j nC cC n lv ni nj bb dn val X) : CoJ V gm rd lc nr c2 i j nC cC n lv ni nj bb (andB dn 1) (updV val 1 (.bool false)) X :=
  ⟨h.bel, h.s0, (fun _ => rfl), h.s2, h.s3, h.s4, h.s5, h.s6, h.s7, h.s8, h.s9, h.s10, h.s11, h.s12, h.s13, h.s14, h.s15, h.s16, h.s17, h.s18, h.s19, h.s20, h.s21⟩
theorem CoJ.op2 (h : CoJ V gm rd lc nr c2 i j nC cC n lv ni nj bb dn val X) : CoJ V gm rd lc nr c2 i j nC cC n lv ni nj bb (andB dn 2) (updV val 2 (.slice (some lc) nC cC)) X :=
  ⟨h.bel, h.s0, h.s1, (fun _ => rfl), h.s3, h.s4, h.s5, h.s6, h.s7, h.s8, h.s9, h.s10, h.s11, h.s12, h.s13, h.s14, h.s15, h.s16, h.s17, h.s18, h.s19, h.s20, h.s21⟩
theorem CoJ.op3 (h : CoJ V gm rd lc nr c2 i j nC cC n lv ni nj bb dn val X) : CoJ V gm rd lc nr c2 i j nC cC n lv ni nj bb (andB dn 3) (updV val 3 (.int .i64 (n : Int))) X :=
  ⟨h.bel, h.s0, h.s1, h.s2, (fun _ => rfl), h.s4, h.s5, h.s6, h.s7, h.s8, h.s9, h.s10, h.s11, h.s12, h.s13, h.s14, h.s15, h.s16, h.s17, h.s18, h.s19, h.s20, h.s21⟩
theorem CoJ.op4 (h : CoJ V gm rd lc nr c2 i j nC cC n lv ni nj bb dn val X) : CoJ V gm rd lc nr c2 i j nC cC n lv ni nj bb (andB dn 4) (updV val 4 (.pointer (some (lc.add n)))) X :=
  ⟨h.bel, h.s0, h.s1, h.s2, h.s3, (fun _ => rfl), h.s5, h.s6, h.s7, h.s8, h.s9, h.s10, h.s11, h.s12, h.s13, h.s14, h.s15, h.s16, h.s17, h.s18, h.s19, h.s20, h.s21⟩
theorem CoJ.op5 (h : CoJ V gm rd lc nr c2 i j nC cC n lv ni nj bb dn val X) : CoJ V gm rd lc nr c2 i j nC cC n lv ni nj bb (andB dn 5) (updV val 5 (lv)) X :=
  ⟨h.bel, h.s0, h.s1, h.s2, h.s3, h.s4, (fun _ => rfl), h.s6, h.s7, h.s8, h.s9, h.s10, h.s11, h.s12, h.s13, h.s14, h.s15, h.s16, h.s17, h.s18, h.s19, h.s20, h.s21⟩
theorem CoJ.op6 (h : CoJ V gm rd lc nr c2 i j nC cC n lv ni nj bb dn val X) : CoJ V gm rd lc nr c2 i j nC cC n lv ni nj bb (andB dn 6) (updV val 6 (.pointer (some ⟨gm, 1, none⟩))) X :=
  ⟨h.bel, h.s0, h.s1, h.s2, h.s3, h.s4, h.s5, (fun _ => rfl), h.s7, h.s8, h.s9, h.s10, h.s11, h.s12, h.s13, h.s14, h.s15, h.s16, h.s17, h.s18, h.s19, h.s20, h.s21⟩
theorem CoJ.op7 (h : CoJ V gm rd lc nr c2 i j nC cC n lv ni nj bb dn val X) : CoJ V gm rd lc nr c2 i j nC cC n lv ni nj bb (andB dn 7) (updV val 7 (.slice (some rd) nr c2)) X :=
  ⟨h.bel, h.s0, h.s1, h.s2, h.s3, h.s4, h.s5, h.s6, (fun _ => rfl), h.s8, h.s9, h.s10, h.s11, h.s12, h.s13, h.s14, h.s15, h.s16, h.s17, h.s18, h.s19, h.s20, h.s21⟩
theorem CoJ.op8 (h : CoJ V gm rd lc nr c2 i j nC cC n lv ni nj bb dn val X) : CoJ V gm rd lc nr c2 i j nC cC n lv ni nj bb (andB dn 8) (updV val 8 (.int .i64 (i : Int))) X :=
  ⟨h.bel, h.s0, h.s1, h.s2, h.s3, h.s4, h.s5, h.s6, h.s7, (fun _ => rfl), h.s9, h.s10, h.s11, h.s12, h.s13, h.s14, h.s15, h.s16, h.s17, h.s18, h.s19, h.s20, h.s21⟩
theorem CoJ.op9 (h : CoJ V gm rd lc nr c2 i j nC cC n lv ni nj bb dn val X) : CoJ V gm rd lc nr c2 i j nC cC n lv ni nj bb (andB dn 9) (updV val 9 (.pointer (some (rd.add (i * 2))))) X :=
  ⟨h.bel, h.s0, h.s1, h.s2, h.s3, h.s4, h.s5, h.s6, h.s7, h.s8, (fun _ => rfl), h.s10, h.s11, h.s12, h.s13, h.s14, h.s15, h.s16, h.s17, h.s18, h.s19, h.s20, h.s21⟩
theorem CoJ.op10 (h : CoJ V gm rd lc nr c2 i j nC cC n lv ni nj bb dn val X) : CoJ V gm rd lc nr c2 i j nC cC n lv ni nj bb (andB dn 10) (updV val 10 (.pointer (some (rd.add (i * 2))))) X :=
  ⟨h.bel, h.s0, h.s1, h.s2, h.s3, h.s4, h.s5, h.s6, h.s7, h.s8, h.s9, (fun _ => rfl), h.s11, h.s12, h.s13, h.s14, h.s15, h.s16, h.s17, h.s18, h.s19, h.s20, h.s21⟩
theorem CoJ.op11 (h : CoJ V gm rd lc nr c2 i j nC cC n lv ni nj bb dn val X) : CoJ V gm rd lc nr c2 i j nC cC n lv ni nj bb (andB dn 11) (updV val 11 (.int .i64 ni)) X :=
  ⟨h.bel, h.s0, h.s1, h.s2, h.s3, h.s4, h.s5, h.s6, h.s7, h.s8, h.s9, h.s10, (fun _ => rfl), h.s12, h.s13, h.s14, h.s15, h.s16, h.s17, h.s18, h.s19, h.s20, h.s21⟩
theorem CoJ.op12 (h : CoJ V gm rd lc nr c2 i j nC cC n lv ni nj bb dn val X) : CoJ V gm rd lc nr c2 i j nC cC n lv ni nj bb (andB dn 12) (updV val 12 (.pointer (some ⟨gm, 1, none⟩))) X :=
  ⟨h.bel, h.s0, h.s1, h.s2, h.s3, h.s4, h.s5, h.s6, h.s7, h.s8, h.s9, h.s10, h.s11, (fun _ => rfl), h.s13, h.s14, h.s15, h.s16, h.s17, h.s18, h.s19, h.s20, h.s21⟩
theorem CoJ.op13 (h : CoJ V gm rd lc nr c2 i j nC cC n lv ni nj bb dn val X) : CoJ V gm rd lc nr c2 i j nC cC n lv ni nj bb (andB dn 13) (updV val 13 (.slice (some rd) nr c2)) X :=
  ⟨h.bel, h.s0, h.s1, h.s2, h.s3, h.s4, h.s5, h.s6, h.s7, h.s8, h.s9, h.s10, h.s11, h.s12, (fun _ => rfl), h.s14, h.s15, h.s16, h.s17, h.s18, h.s19, h.s20, h.s21⟩
theorem CoJ.op14 (h : CoJ V gm rd lc nr c2 i j nC cC n lv ni nj bb dn val X) : CoJ V gm rd lc nr c2 i j nC cC n lv ni nj bb (andB dn 14) (updV val 14 (.int .i64 (j : Int))) X :=
  ⟨h.bel, h.s0, h.s1, h.s2, h.s3, h.s4, h.s5, h.s6, h.s7, h.s8, h.s9, h.s10, h.s11, h.s12, h.s13, (fun _ => rfl), h.s15, h.s16, h.s17, h.s18, h.s19, h.s20, h.s21⟩
theorem CoJ.op15 (h : CoJ V gm rd lc nr c2 i j nC cC n lv ni nj bb dn val X) : CoJ V gm rd lc nr c2 i j nC cC n lv ni nj bb (andB dn 15) (updV val 15 (.pointer (some (rd.add (j * 2))))) X :=
  ⟨h.bel, h.s0, h.s1, h.s2, h.s3, h.s4, h.s5, h.s6, h.s7, h.s8, h.s9, h.s10, h.s11, h.s12, h.s13, h.s14, (fun _ => rfl), h.s16, h.s17, h.s18, h.s19, h.s20, h.s21⟩
theorem CoJ.op16 (h : CoJ V gm rd lc nr c2 i j nC cC n lv ni nj bb dn val X) : CoJ V gm rd lc nr c2 i j nC cC n lv ni nj bb (andB dn 16) (updV val 16 (.pointer (some (rd.add (j * 2))))) X :=
  ⟨h.bel, h.s0, h.s1, h.s2, h.s3, h.s4, h.s5, h.s6, h.s7, h.s8, h.s9, h.s10, h.s11, h.s12, h.s13, h.s14, h.s15, (fun _ => rfl), h.s17, h.s18, h.s19, h.s20, h.s21⟩
theorem CoJ.op17 (h : CoJ V gm rd lc nr c2 i j nC cC n lv ni nj bb dn val X) : CoJ V gm rd lc nr c2 i j nC cC n lv ni nj bb (andB dn 17) (updV val 17 (.int .i64 nj)) X :=
  ⟨h.bel, h.s0, h.s1, h.s2, h.s3, h.s4, h.s5, h.s6, h.s7, h.s8, h.s9, h.s10, h.s11, h.s12, h.s13, h.s14, h.s15, h.s16, (fun _ => rfl), h.s18, h.s19, h.s20, h.s21⟩
theorem CoJ.op18 (h : CoJ V gm rd lc nr c2 i j nC cC n lv ni nj bb dn val X) {v : Value} (hv : InSl Y Y.heap.size v [ni, nj]) (hb : Below X.heap.size X Y) : CoJ V gm rd lc nr c2 i j nC cC n lv ni nj bb (andB dn 18) (updV val 18 (v)) Y :=
  ⟨h.bel.trans (hb.mono h.bel.size), h.s0, h.s1, h.s2, h.s3, h.s4, h.s5, h.s6, h.s7, h.s8, h.s9, h.s10, h.s11, h.s12, h.s13, h.s14, h.s15, h.s16, h.s17, (fun _ => hv), h.s19, h.s20, h.s21⟩
theorem CoJ.op19 (h : CoJ V gm rd lc nr c2 i j nC cC n lv ni nj bb dn val X)  (hb : Below X.heap.size X Y) : CoJ V gm rd lc nr c2 i j nC cC n lv ni nj bb (andB dn 19) (updV val 19 (.bool bb)) Y :=
  ⟨h.bel.trans (hb.mono h.bel.size), h.s0, h.s1, h.s2, h.s3, h.s4, h.s5, h.s6, h.s7, h.s8, h.s9, h.s10, h.s11, h.s12, h.s13, h.s14, h.s15, h.s16, h.s17, (fun d => (h.s18 d).step hb), (fun _ => rfl), h.s20, h.s21⟩
theorem CoJ.op20 (h : CoJ V gm rd lc nr c2 i j nC cC n lv ni nj bb dn val X) : CoJ V gm rd lc nr c2 i j nC cC n lv ni nj bb (andB dn 20) (updV val 20 (.bool bb)) X :=
  ⟨h.bel, h.s0, h.s1, h.s2, h.s3, h.s4, h.s5, h.s6, h.s7, h.s8, h.s9, h.s10, h.s11, h.s12, h.s13, h.s14, h.s15, h.s16, h.s17, h.s18, h.s19, (fun _ => rfl), h.s21⟩
theorem CoJ.op21 (h : CoJ V gm rd lc nr c2 i j nC cC n lv ni nj bb dn val X) : CoJ V gm rd lc nr c2 i j nC cC n lv ni nj bb (andB dn 21) (updV val 21 (.bool bb)) X :=
  ⟨h.bel, h.s0, h.s1, h.s2, h.s3, h.s4, h.s5, h.s6, h.s7, h.s8, h.s9, h.s10, h.s11, h.s12, h.s13, h.s14, h.s15, h.s16, h.s17, h.s18, h.s19, h.s20, (fun _ => rfl)⟩
end
end Go.Proofs.YthfegbcbpeedbaaDoor
namespace Go.Proofs.YthfegbcbpeedbaaDoor
open Go.RowKit Go.Nm Go.Ky

set_option maxRecDepth 100000 in
set_option maxHeartbeats 16000000 in
theorem KeysConfusion_any (v kv : Value) (m : Mx) (k : Kx) (w : World) (hv : MxV w v m) (hk : KyV w kv k) (hT : TabH w) :
    Calls Tryd.prog 13 #[v, kv] w fun e w' => e = .returned (.bool true) ∧ Below w.heap.size w w' := by
  obtain ⟨A1, c1, A2, c2, W0, rfl, hW0, hb0, hM, hS, hR, hX⟩ := mx_box hv
  have hz : W0.heap.size = w.heap.size + 1 := by rw [← hW0]; simp
  have hn0 : W0.heap[w.heap.size]? = some (.cells #[.slice A1 m.st.length c1, .slice A2 m.rows.length c2] 25) := by rw [← hW0]; exact World.alloc_heap_new w _
  obtain ⟨D1, e1, D2, e2, W1, rfl, hW1, hb1, hKy, hNd, hLv, hX1⟩ := ky_box (hk.step hb0)
  have hz1 : W1.heap.size = W0.heap.size + 1 := by rw [← hW1]; simp
  have hn1 : W1.heap[W0.heap.size]? = some (.cells #[.slice D1 k.nd.length e1, .slice D2 k.lv.length e2] 53) := by rw [← hW1]; exact World.alloc_heap_new W0 _
  have hb01 := hb0.trans (hb1.mono hb0.size)
  rw [hz] at hn1
  have HW := Lib.hid (And.intro hW0 hW1)
  have HB := Lib.hid hb01
  have HT := Lib.hid ((hT.step hb0).step hb1)
  have HM := Lib.hid (hM W1 hb1)
  have HKy := Lib.hid (hKy W1 (Below.refl _ _))
  have HBx := Lib.hid ((hb1.block _ (by omega)).trans hn0)
  have HKx := Lib.hid hn1
  obtain ⟨ns, hns⟩ : ∃ n, m.st.length = n := ⟨_, rfl⟩
  obtain ⟨nr, hnr⟩ : ∃ n, m.rows.length = n := ⟨_, rfl⟩
  obtain ⟨nn, hnn⟩ : ∃ n, k.nd.length = n := ⟨_, rfl⟩
  obtain ⟨nl, hnl⟩ : ∃ n, k.lv.length = n := ⟨_, rfl⟩
  rw [hns, hnr] at HW HM HBx
  rw [hnn, hnl] at HW HKy HKx
  rw [hns, hnr, hnn, hnl]
  have HNs := Lib.hid (And.intro hns hnr)
  have HNk := Lib.hid (And.intro hnn hnl)
  obtain ⟨k0, k1⟩ := cells_two HBx.out
  obtain ⟨j0, j1⟩ := cells_two HKx.out
  clear hv hk hT hW0 hb0 hM hS hR hX hz hn0 hW1 hb1 hKy hNd hLv hX1 hz1 hn1 hb01 hns hnr hnn hnl
  go_enter Tryd.func13, Tryd.ntmps13
  go_wp2_with fail
  rw [HW.out.1, HW.out.2]
  (try go_wp2_with fail)
  (with_reducible refine (awake_any _ HT.out).mono ?_)
  rintro e w1 ⟨rfl, hb⟩
  replace HB := Lib.hid (HB.out.trans (hb.mono HB.out.size))
  replace HT := Lib.hid (HT.out.step hb)
  replace HM := Lib.hid (HM.out.step hb)
  replace HKy := Lib.hid (HKy.out.step hb)
  replace HBx := Lib.hid ((hb.block _ (Array.getElem?_eq_some_iff.1 HBx.out).1).trans HBx.out)
  replace HKx := Lib.hid ((hb.block _ (Array.getElem?_eq_some_iff.1 HKx.out).1).trans HKx.out)
  clear hb
  clear k0 k1 j0 j1
  obtain ⟨k0, k1⟩ := cells_two HBx.out
  obtain ⟨j0, j1⟩ := cells_two HKx.out
  have HFw := Lib.hid (few_any _ m w1 HM.out)
  cases hfw : fewF m with
  | false =>
    rw [hfw] at HFw
    clear hfw
    go_wp2_with fail
    (with_reducible refine HFw.out.mono ?_)
    rintro e w2 ⟨rfl, hb⟩
    replace HB := Lib.hid (HB.out.trans (hb.mono HB.out.size))
    clear hb
    go_wp2_with fail
    go_ret
    exact ⟨rfl, HB.out⟩
  | true =>
  rw [hfw] at HFw
  have HSm := Lib.hid (few_sm hfw)
  have HFe := Lib.hid hfw
  clear hfw
  go_wp2_with fail
  (with_reducible refine HFw.out.mono ?_)
  rintro e w3 ⟨rfl, hb⟩
  replace HB := Lib.hid (HB.out.trans (hb.mono HB.out.size))
  replace HT := Lib.hid (HT.out.step hb)
  replace HM := Lib.hid (HM.out.step hb)
  replace HKy := Lib.hid (HKy.out.step hb)
  replace HBx := Lib.hid ((hb.block _ (Array.getElem?_eq_some_iff.1 HBx.out).1).trans HBx.out)
  replace HKx := Lib.hid ((hb.block _ (Array.getElem?_eq_some_iff.1 HKx.out).1).trans HKx.out)
  clear HFw
  clear hb
  clear k0 k1 j0 j1
  obtain ⟨k0, k1⟩ := cells_two HBx.out
  obtain ⟨j0, j1⟩ := cells_two HKx.out
  have HSh := Lib.hid (short_any _ k w3 HKy.out)
  cases hsh : shortF k with
  | false =>
    rw [hsh] at HSh
    clear hsh
    go_wp2_with fail
    (with_reducible refine HSh.out.mono ?_)
    rintro e w4 ⟨rfl, hb⟩
    replace HB := Lib.hid (HB.out.trans (hb.mono HB.out.size))
    clear hb
    go_wp2_with fail
    go_ret
    exact ⟨rfl, HB.out⟩
  | true =>
  rw [hsh] at HSh
  have HKm := Lib.hid (short_sm hsh)
  have HShe := Lib.hid hsh
  clear hsh
  go_wp2_with fail
  (with_reducible refine HSh.out.mono ?_)
  rintro e w5 ⟨rfl, hb⟩
  replace HB := Lib.hid (HB.out.trans (hb.mono HB.out.size))
  replace HT := Lib.hid (HT.out.step hb)
  replace HM := Lib.hid (HM.out.step hb)
  replace HKy := Lib.hid (HKy.out.step hb)
  replace HBx := Lib.hid ((hb.block _ (Array.getElem?_eq_some_iff.1 HBx.out).1).trans HBx.out)
  replace HKx := Lib.hid ((hb.block _ (Array.getElem?_eq_some_iff.1 HKx.out).1).trans HKx.out)
  clear HSh
  clear hb
  clear k0 k1 j0 j1
  obtain ⟨k0, k1⟩ := cells_two HBx.out
  obtain ⟨j0, j1⟩ := cells_two HKx.out
  have HWc := Lib.hid (wrong_cs m k)
  obtain ⟨we, hwe⟩ : ∃ x, wrongE m k = x := ⟨_, rfl⟩
  have HRs := Lib.hid hwe
  have HRv := Lib.hid (show rightE m k = if we = 3 then 0 else we from by rw [← hwe]; exact right_val m k)
  rw [hwe] at HWc
  clear hwe
  rcases HWc.out with h0 | h0 | h0 | h0
  · subst h0
    have hre : rightE m k = 0 := by rw [HRv.out]; rfl
    have HC := Lib.hid (Right_any _ _ m k w5 HM.out HSm.out HKy.out HKm.out)
    rw [HRs.out, hre] at HC
    rw [show decide ((0 : Int) = 3) = false from rfl] at HC
    clear hre HWc HRv
    go_wp2_with fail
    (with_reducible refine HC.out.mono ?_)
    rintro e w6 ⟨rfl, hb⟩
    replace HB := Lib.hid (HB.out.trans (hb.mono HB.out.size))
    replace HT := Lib.hid (HT.out.step hb)
    replace HM := Lib.hid (HM.out.step hb)
    replace HKy := Lib.hid (HKy.out.step hb)
    replace HBx := Lib.hid ((hb.block _ (Array.getElem?_eq_some_iff.1 HBx.out).1).trans HBx.out)
    replace HKx := Lib.hid ((hb.block _ (Array.getElem?_eq_some_iff.1 HKx.out).1).trans HKx.out)
    clear HC
    clear hb
    clear k0 k1 j0 j1
    obtain ⟨k0, k1⟩ := cells_two HBx.out
    obtain ⟨j0, j1⟩ := cells_two HKx.out
    go_wp2_with fail
    refine bodyPost_ret (v := .bool true) (by simp [results, Tryd.results13, go_sem]) rfl ?_
    exact And.intro rfl HB.out
  · subst h0
    have hre : rightE m k = 0 := by rw [HRv.out]; rfl
    have HC := Lib.hid (Right_any _ _ m k w5 HM.out HSm.out HKy.out HKm.out)
    rw [HRs.out, hre] at HC
    rw [show decide ((3 : Int) = 3) = true from rfl] at HC
    clear hre HWc HRv
    go_wp2_with fail
    (with_reducible refine HC.out.mono ?_)
    rintro e w7 ⟨rfl, hb⟩
    replace HB := Lib.hid (HB.out.trans (hb.mono HB.out.size))
    replace HT := Lib.hid (HT.out.step hb)
    replace HM := Lib.hid (HM.out.step hb)
    replace HKy := Lib.hid (HKy.out.step hb)
    replace HBx := Lib.hid ((hb.block _ (Array.getElem?_eq_some_iff.1 HBx.out).1).trans HBx.out)
    replace HKx := Lib.hid ((hb.block _ (Array.getElem?_eq_some_iff.1 HKx.out).1).trans HKx.out)
    clear HC
    clear hb
    clear k0 k1 j0 j1
    obtain ⟨k0, k1⟩ := cells_two HBx.out
    obtain ⟨j0, j1⟩ := cells_two HKx.out
    have hck := wrong_ck (.inr HRs.out)
    have HCL := Lib.hid (show confL m k = confF k.lv from by unfold confL; rw [if_pos hck])
    have HC := Lib.hid (Confused_any _ _ m k w7 HM.out HSm.out HKy.out HKm.out HT.out)
    rw [hck, HCL.out] at HC
    clear hck
    obtain ⟨cl, hcl⟩ : ∃ x, confF k.lv = x := ⟨_, rfl⟩
    have HCe := Lib.hid hcl
    rw [hcl] at HC
    clear hcl
    go_wp2_with fail
    (with_reducible refine HC.out.mono ?_)
    rintro e w8 ⟨⟨u1, rfl, hf⟩, hb⟩
    replace HB := Lib.hid (HB.out.trans (hb.mono HB.out.size))
    replace HT := Lib.hid (HT.out.step hb)
    replace HM := Lib.hid (HM.out.step hb)
    replace HKy := Lib.hid (HKy.out.step hb)
    replace HBx := Lib.hid ((hb.block _ (Array.getElem?_eq_some_iff.1 HBx.out).1).trans HBx.out)
    replace HKx := Lib.hid ((hb.block _ (Array.getElem?_eq_some_iff.1 HKx.out).1).trans HKx.out)
    have H1 := Lib.hid hf
    clear hf HC
    clear hb
    clear k0 k1 j0 j1
    obtain ⟨k0, k1⟩ := cells_two HBx.out
    obtain ⟨j0, j1⟩ := cells_two HKx.out
    obtain ⟨Lc, cC, rfl⟩ := H1.out.form
    obtain ⟨nC, hnC⟩ : ∃ n, cl.length = n := ⟨_, rfl⟩
    have HNC := Lib.hid hnC
    have hnC2 : (nC : Int) < 10000000000 := by
      have h := flat_len (L := keysB k.lv) (F := fun a => (pairB k.lv a).map fun b => [a, b]) (b := 65536) (fun a => by rw [List.length_map]; exact pairB_len _ _)
      have h2 := keysB_len k.lv
      have e : cl.length = ((keysB k.lv).flatMap fun a => (pairB k.lv a).map fun b => [a, b]).length := by rw [← HCe.out]; rfl
      have h3 : (keysB k.lv).length * 65536 ≤ 65536 * 65536 := Nat.mul_le_mul_right _ h2
      omega
    rw [hnC] at H1 ⊢
    clear hnC
    have hnr : nr ≤ 1000 := by rw [← HNs.out.2]; exact HSm.out.2.1
    have HIl := Lib.hid (show IlSl w8 w8.heap.size (.slice A2 nr c2) m.rows from by
      obtain ⟨_, _, e, h1, h2⟩ := HM.out
      cases e
      exact h2)
    have HO := Lib.hid (show ∀ Y, Below w8.heap.size w8 Y → ((Y.heap[w.heap.size]? = some (.cells #[.slice A1 ns c1, .slice A2 nr c2] 25) ∧ Y.cell? ⟨w.heap.size, 1, none⟩ = some (.slice A2 nr c2) ∧ Y.cell? ⟨w.heap.size, 0, none⟩ = some (.slice A1 ns c1)) ∧ MxV Y (.agg #[.slice A1 ns c1, .slice A2 nr c2]) m ∧ VsSl Y Y.heap.size (.slice Lc nC cC) cl ∧ TabH Y) from fun Y h => ⟨⟨(h.block _ (Array.getElem?_eq_some_iff.1 HBx.out).1).trans HBx.out, (cells_two ((h.block _ (Array.getElem?_eq_some_iff.1 HBx.out).1).trans HBx.out)).2, (cells_two ((h.block _ (Array.getElem?_eq_some_iff.1 HBx.out).1).trans HBx.out)).1⟩, HM.out.step h, H1.out.step h, HT.out.step h⟩)
    clear k0 k1 j0 j1
    obtain ⟨⟨_, k1, _⟩, _⟩ := HO.out w8 (Below.refl _ _)
    go_wp2_with fail
    clear k1
    go_loopw [10] (fun iv wr => ∃ i : Nat, iv = .int .i64 (i : Int) ∧ i ≤ nr ∧ Below w8.heap.size w8 wr) (fun iv _ => nr - (intOf iv).toNat)
    case atStart => exact ⟨0, rfl, by omega, Below.refl _ _⟩
    case round =>
      obtain ⟨i, rfl, hin, hb⟩ := hrel
      have HBi := Lib.hid hb
      clear hb
      obtain ⟨⟨_, k1, _⟩, _⟩ := HO.out wr HBi.out
      by_cases hir : i < nr
      · have hirI : (i : Int) < (nr : Int) := by omega
        go_wp2_with fail
        clear k1
        go_loopw [11] (fun jv wr => ∃ j : Nat, jv = .int .i64 (j : Int) ∧ i < j ∧ j ≤ nr ∧ Below w8.heap.size w8 wr) (fun jv _ => nr - (intOf jv).toNat)
        case atStart => exact ⟨i + 1, by go_num, by omega, by omega, HBi.out⟩
        case round =>
          obtain ⟨j, rfl, hij, hjn, hb⟩ := hrel
          have HBj := Lib.hid hb
          clear hb
          obtain ⟨⟨_, k1, _⟩, _⟩ := HO.out wr HBj.out
          by_cases hjr : j < nr
          · have hjrI : (j : Int) < (nr : Int) := by omega
            obtain ⟨ri, rd, _, _, hri, rfl, hYi⟩ := HIl.out.at_ hir
            obtain ⟨rj, rd2, _, _, hrj, e2, hYj⟩ := HIl.out.at_ hjr
            cases e2
            obtain ⟨ni, hni⟩ : ∃ x, ri.nm = x := ⟨_, rfl⟩
            obtain ⟨nj, hnj⟩ : ∃ x, rj.nm = x := ⟨_, rfl⟩
            rw [hni] at hYi
            rw [hnj] at hYj
            have HNm := Lib.hid (fun Y (h : Below w8.heap.size w8 Y) => And.intro (hYi Y h).1.1 (hYj Y h).1.1)
            have HLaw := Lib.hid (fun h : sameE m ni nj = 0 => show [ni, nj] ∈ cl from by
              rw [← HCe.out, ← hni, ← hnj]
              exact conf_law HRs.out hri hrj hij (by rw [hni, hnj]; exact h))
            obtain ⟨g, hg⟩ : ∃ x, sameE m ni nj = x := ⟨_, rfl⟩
            rw [hg] at HLaw
            have HSa := Lib.hid (fun Y (h : Below w8.heap.size w8 Y) => show Calls Tryd.prog 32 #[.agg #[.slice A1 ns c1, .slice (some rd) nr c2], .int .i64 ni, .int .i64 nj] Y fun e w' => (∃ u, e = .returned (.tuple #[u, .int .i64 g])) ∧ Below Y.heap.size Y w' from by
              have h2 := Same_any _ m ni nj Y (HO.out Y h).2.1 HSm.out (HO.out Y h).2.2.2
              rw [hg] at h2
              refine h2.mono ?_
              rintro e w' ⟨⟨u, rfl, _⟩, h4⟩
              exact ⟨⟨u, rfl⟩, h4⟩)
            clear hri hrj hni hnj hYi hYj hg
            go_wp2_with fail
            have HBd := Lib.hid (fun X (hI : Below wr.drew.heap.size wr.drew X) => HBj.out.trans (((Below.refl wr.heap.size wr).drew.trans hI).mono HBj.out.size))
            refine wp_opaque ?_
            intro t0 ht0
            have hsz0 : t0.size = 114 := by rw [ht0]; rfl
            have q2 : t0.getD 2 undef = .pointer (some ⟨w.heap.size, 0, none⟩) := by rw [ht0]; rfl
            have q10 : t0.getD 10 undef = .int .i64 (i : Int) := by rw [ht0]; rfl
            have q11 : t0.getD 11 undef = .int .i64 (j : Int) := by rw [ht0]; rfl
            have HT0 := Lib.hid ht0
            clear ht0
            refine wp_region_vals [some 64, some 65, some 66, some 67, some 68, some 69, some 70, some 71, some 72, some 73, some 74, some 75, some 76, some 77, some 63, some 78, some 79, some 12, some 13] (CoI wr.drew (.agg #[.slice A1 ns c1, .slice (some rd) nr c2]) w.heap.size rd nr c2 i j ni nj g) (by kernel_rfl) (by kernel_rfl) rfl rfl (by simp [hsz0]) (by kernel_rfl) ?_ ?_ ?_
            · intro val
              exact ⟨Below.refl _ _, (fun h => nomatch h), (fun h => nomatch h), (fun h => nomatch h), (fun h => nomatch h), (fun h => nomatch h), (fun h => nomatch h), (fun h => nomatch h), (fun h => nomatch h), (fun h => nomatch h), (fun h => nomatch h), (fun h => nomatch h), (fun h => nomatch h), (fun h => nomatch h), (fun h => nomatch h), (fun h => nomatch h), (fun h => nomatch h), (fun h => nomatch h)⟩
            · intro dn q o hi hd hp hc val X a ha hn' hI K hK
              have hq : q < 19 := by
                have := (Array.getElem?_eq_some_iff.1 hi).1
                simpa using this
              have hB := HBd.out X hI.bel
              rcases (show q = 0 ∨ q = 1 ∨ q = 2 ∨ q = 3 ∨ q = 4 ∨ q = 5 ∨ q = 6 ∨ q = 7 ∨ q = 8 ∨ q = 9 ∨ q = 10 ∨ q = 11 ∨ q = 12 ∨ q = 13 ∨ q = 14 ∨ q = 15 ∨ q = 16 ∨ q = 17 ∨ q = 18 by omega) with rfl | rfl | rfl | rfl | rfl | rfl | rfl | rfl | rfl | rfl | rfl | rfl | rfl | rfl | rfl | rfl | rfl | rfl | rfl
              · obtain rfl := Option.some.inj hi
                exact opLdMx 2 _ _ _ rfl ((ha 2).trans q2) (HO.out X hB).1.1 (hK _ _ hI.op0)
              · obtain rfl := Option.some.inj hi
                exact opFieldMx 1 2 _ (by omega) rfl ((ha 2).trans q2) (hK _ _ hI.op1)
              · obtain rfl := Option.some.inj hi
                have y1 := hI.s1 (hp ⟨1, .data⟩ (by simp) rfl)
                exact opLdRs 65 _ _ rfl ((ha 65).trans y1) (HO.out X hB).1.2.1 (hK _ _ hI.op2)
              · obtain rfl := Option.some.inj hi
                exact opMove 10 _ rfl ((ha 10).trans q10) (hK _ _ hI.op3)
              · obtain rfl := Option.some.inj hi
                have y2 := hI.s2 (hp ⟨2, .data⟩ (by simp) rfl)
                have y3 := hI.s3 (hp ⟨3, .data⟩ (by simp) rfl)
                exact opIxR 66 67 _ _ _ _ rfl ((ha 66).trans y2) ((ha 67).trans y3) hir (hK _ _ hI.op4)
              · obtain rfl := Option.some.inj hi
                have y4 := hI.s4 (hp ⟨4, .data⟩ (by simp) rfl)
                exact opFieldR0 68 _ rfl ((ha 68).trans y4) (hK _ _ hI.op5)
              · obtain rfl := Option.some.inj hi
                have y5 := hI.s5 (hp ⟨5, .data⟩ (by simp) rfl)
                exact opLd 69 _ _ rfl ((ha 69).trans y5) (HNm.out X hB).1 (hK _ _ hI.op6)
              · obtain rfl := Option.some.inj hi
                exact opFieldMx 1 2 _ (by omega) rfl ((ha 2).trans q2) (hK _ _ hI.op7)
              · obtain rfl := Option.some.inj hi
                have y7 := hI.s7 (hp ⟨7, .data⟩ (by simp) rfl)
                exact opLdRs 71 _ _ rfl ((ha 71).trans y7) (HO.out X hB).1.2.1 (hK _ _ hI.op8)
              · obtain rfl := Option.some.inj hi
                exact opMove 11 _ rfl ((ha 11).trans q11) (hK _ _ hI.op9)
              · obtain rfl := Option.some.inj hi
                have y8 := hI.s8 (hp ⟨8, .data⟩ (by simp) rfl)
                have y9 := hI.s9 (hp ⟨9, .data⟩ (by simp) rfl)
                exact opIxR 72 73 _ _ _ _ rfl ((ha 72).trans y8) ((ha 73).trans y9) hjr (hK _ _ hI.op10)
              · obtain rfl := Option.some.inj hi
                have y10 := hI.s10 (hp ⟨10, .data⟩ (by simp) rfl)
                exact opFieldR0 74 _ rfl ((ha 74).trans y10) (hK _ _ hI.op11)
              · obtain rfl := Option.some.inj hi
                have y11 := hI.s11 (hp ⟨11, .data⟩ (by simp) rfl)
                exact opLd 75 _ _ rfl ((ha 75).trans y11) (HNm.out X hB).2 (hK _ _ hI.op12)
              · obtain rfl := Option.some.inj hi
                have y0 := hI.s0 (hp ⟨0, .data⟩ (by simp) rfl)
                have y6 := hI.s6 (hp ⟨6, .data⟩ (by simp) rfl)
                have y12 := hI.s12 (hp ⟨12, .data⟩ (by simp) rfl)
                refine opCall3 32 _ 64 70 76 _ _ _ _ rfl ((ha 64).trans y0) ((ha 70).trans y6) ((ha 76).trans y12) (by go_simp) (HSa.out X hB) ?_
                rintro e Y ⟨⟨r, rfl⟩, hb⟩
                exact ⟨_, rfl, hK _ _ (hI.op13 ⟨r, rfl⟩ hb)⟩
              · obtain rfl := Option.some.inj hi
                have y13 := hI.s13 (hp ⟨13, .data⟩ (by simp) rfl)
                obtain ⟨r, e⟩ := y13
                exact opMove 77 _ rfl ((ha 77).trans e) (hK _ _ (hI.op14 ⟨r, rfl⟩))
              · obtain rfl := Option.some.inj hi
                have y14 := hI.s14 (hp ⟨14, .data⟩ (by simp) rfl)
                obtain ⟨r, e⟩ := y14
                exact opExt0 63 _ _ rfl ((ha 63).trans e) (hK _ _ (hI.op15 _))
              · obtain rfl := Option.some.inj hi
                have y14 := hI.s14 (hp ⟨14, .data⟩ (by simp) rfl)
                obtain ⟨r, e⟩ := y14
                exact opExt1 63 _ _ rfl ((ha 63).trans e) (hK _ _ hI.op16)
              · obtain rfl := Option.some.inj hi
                exact opAssign 78 _ rfl (ha 78) (hK _ _ (hI.op17 _))
              · obtain rfl := Option.some.inj hi
                have y16 := hI.s16 (hp ⟨16, .data⟩ (by simp) rfl)
                exact opAssign 79 _ rfl ((ha 79).trans y16) (hK _ _ hI.op18)
            · intro dn val X hdn hI
              have HBr := Lib.hid (HBd.out X hI.bel)
              have h0 := hI.s0 (hdn 0 (by simp))
              have h1 := hI.s1 (hdn 1 (by simp))
              have h2 := hI.s2 (hdn 2 (by simp))
              have h3 := hI.s3 (hdn 3 (by simp))
              have h4 := hI.s4 (hdn 4 (by simp))
              have h5 := hI.s5 (hdn 5 (by simp))
              have h6 := hI.s6 (hdn 6 (by simp))
              have h7 := hI.s7 (hdn 7 (by simp))
              have h8 := hI.s8 (hdn 8 (by simp))
              have h9 := hI.s9 (hdn 9 (by simp))
              have h10 := hI.s10 (hdn 10 (by simp))
              have h11 := hI.s11 (hdn 11 (by simp))
              have h12 := hI.s12 (hdn 12 (by simp))
              have h13 := hI.s13 (hdn 13 (by simp))
              have h14 := hI.s14 (hdn 14 (by simp))
              have h16 := hI.s16 (hdn 16 (by simp))
              have h18 := hI.s18 (hdn 18 (by simp))
              simp only [wrS, HT0.out]
              simp only [List.setIfInBounds_toArray, List.set_cons_succ, List.set_cons_zero]
              rw [h0, h1, h2, h3, h4, h5, h6, h7, h8, h9, h10, h11, h12, h16, h18]
              (try simp only [Exit.then])
              clear hdn HT0 hsz0 q2 q10 q11
              have HBx2 := Lib.hid HBr.out
              clear hI HBr HBd HSa h0 h1 h2 h3 h4 h5 h6 h7 h8 h9 h10 h11 h12 h13 h14 h16 h18 k1
              generalize val 15 = uu1 at *
              generalize val 17 = uu2 at *
              go_wp2_with fail
              go_loopw [14, 15] (fun fv nv wr => ∃ (n : Nat) (fb : Bool), nv = .int .i64 (n : Int) ∧ fv = .bool fb ∧ n ≤ nC ∧ Below w8.heap.size w8 wr ∧ decide ([ni, nj] ∈ cl.take n) = fb) (fun _ nv _ => nC - (intOf nv).toNat)
              case atStart => exact ⟨0, false, rfl, rfl, by omega, HBx2.out, by simp⟩
              case round =>
                obtain ⟨n, fb, rfl, rfl, hnn, hb, hfb⟩ := hrel
                have HBn := Lib.hid hb
                have HFb := Lib.hid hfb
                clear hb hfb
                obtain ⟨⟨_, k1, _⟩, _⟩ := HO.out wr HBn.out
                by_cases hnC : n < nC
                · obtain ⟨lc, lv, M, rfl, _, hM, hcl, hIn⟩ := H1.out.at_ hnC
                  have hnI : (n : Int) < (nC : Int) := by omega
                  have hM2 : M.length = 2 := conf_two M (by have h := List.mem_of_getElem? hM; rw [← HCe.out] at h; exact h)
                  have HMt := Lib.hid (mem_take_next (x := [ni, nj]) hM)
                  obtain ⟨bb, hbb⟩ : ∃ b, decide (M = [ni, nj]) = b := ⟨_, rfl⟩
                  rw [hbb, HFb.out] at HMt
                  cases fb with
                  | true =>
                    clear hM hcl hIn hM2 hbb k1
                    go_wp2_with fail
                    refine wp_region_wb (by kernel_rfl) (by kernel_rfl) ?_; (repeat ((with_reducible refine wpQuiet_step ?_); intro K hK; go_simp; (try (refine ite_neg_of (by simp [undef]) ?_)); first | (with_reducible refine hK _ ?_; clear hK K) | (apply Exists.intro; (with_reducible refine ⟨fun _ => ?_, hK _ ?_⟩); (fail); clear hK K))); (with_reducible refine wpQuiet_nil ?_); rintro w1 ⟨⟨_, hb1⟩, rfl⟩; (try dsimp only)
                    have HB1 := Lib.hid (HBn.out.trans (hb1.mono HBn.out.size))
                    clear hb1
                    go_wp2_with fail
                    refine ⟨?_, ?measure⟩
                    (repeat apply Exists.intro)
                    refine ⟨?rel, rfl⟩
                    case rel => exact ⟨n + 1, true, by go_num, rfl, by omega, HB1.out, HMt.out⟩
                    case measure => simp [intOf]; omega
                  | false =>
                    have HLv := Lib.hid (fun X (h : Below w8.heap.size w8 X) => show X.cell? (lc.add n) = some lv ∧ InSl X X.heap.size lv M from ⟨(h.cell (World.block_lt_of_cell? _ _ hcl)).trans hcl, hIn.step h⟩)
                    have HSI := Lib.hid (fun v X (h : Below w8.heap.size w8 X) (hv : InSl X X.heap.size v [ni, nj]) => show Calls Tryd.prog 25 #[lv, v] X fun e w' => e = .returned (.bool bb) ∧ Below X.heap.size X w' from by
                      have h2 := SameInts_any lv v M [ni, nj] X (HLv.out X h).2 hv (by omega) (by simp)
                      rw [hbb] at h2
                      exact h2)
                    clear hM hcl hIn hM2 hbb k1
                    go_wp2_with fail
                    have HBd := Lib.hid (fun X (hI : Below wr.drew.heap.size wr.drew X) => HBn.out.trans (((Below.refl wr.heap.size wr).drew.trans hI).mono HBn.out.size))
                    refine wp_opaque ?_
                    intro t0 ht0
                    have hsz0 : t0.size = 114 := by rw [ht0]; rfl
                    have q2 : t0.getD 2 undef = .pointer (some ⟨w.heap.size, 0, none⟩) := by rw [ht0]; rfl
                    have q8 : t0.getD 8 undef = .slice (some lc) nC cC := by rw [ht0]; rfl
                    have q10 : t0.getD 10 undef = .int .i64 (i : Int) := by rw [ht0]; rfl
                    have q11 : t0.getD 11 undef = .int .i64 (j : Int) := by rw [ht0]; rfl
                    have q14 : t0.getD 14 undef = .bool false := by rw [ht0]; rfl
                    have q15 : t0.getD 15 undef = .int .i64 (n : Int) := by rw [ht0]; rfl
                    have HT0 := Lib.hid ht0
                    clear ht0
                    refine wp_region_valsW [some 86, some 87, some 88, some 89, some 90, some 91, some 92, some 93, some 94, some 95, some 96, some 97, some 98, some 99, some 100, some 101, some 102, some 103, some 104, some 105, some 106, some 14] (CoJ wr.drew w.heap.size rd lc nr c2 i j nC cC n lv ni nj bb) (by kernel_rfl) (by kernel_rfl) rfl rfl (by simp [hsz0]) ?_ ?_ ?_
                    · intro val
                      exact ⟨Below.refl _ _, (fun h => nomatch h), (fun h => nomatch h), (fun h => nomatch h), (fun h => nomatch h), (fun h => nomatch h), (fun h => nomatch h), (fun h => nomatch h), (fun h => nomatch h), (fun h => nomatch h), (fun h => nomatch h), (fun h => nomatch h), (fun h => nomatch h), (fun h => nomatch h), (fun h => nomatch h), (fun h => nomatch h), (fun h => nomatch h), (fun h => nomatch h), (fun h => nomatch h), (fun h => nomatch h), (fun h => nomatch h), (fun h => nomatch h), (fun h => nomatch h)⟩
                    · intro dn q o hi hd hp hc val X a ha hn' hI
                      have hq : q < 22 := by
                        have := (Array.getElem?_eq_some_iff.1 hi).1
                        simpa using this
                      have hB := HBd.out X hI.bel
                      rcases (show q = 0 ∨ q = 1 ∨ q = 2 ∨ q = 3 ∨ q = 4 ∨ q = 5 ∨ q = 6 ∨ q = 7 ∨ q = 8 ∨ q = 9 ∨ q = 10 ∨ q = 11 ∨ q = 12 ∨ q = 13 ∨ q = 14 ∨ q = 15 ∨ q = 16 ∨ q = 17 ∨ q = 18 ∨ q = 19 ∨ q = 20 ∨ q = 21 by omega) with rfl | rfl | rfl | rfl | rfl | rfl | rfl | rfl | rfl | rfl | rfl | rfl | rfl | rfl | rfl | rfl | rfl | rfl | rfl | rfl | rfl | rfl
                      · obtain rfl := Option.some.inj hi
                        refine ⟨rfl, fun K hK => ?_⟩
                        have nZ : dn 21 = false := by
                          cases h : dn 21 with
                          | false => rfl
                          | true => exact f_t hd (hc 1 _ rfl (hc 20 _ rfl (hc 21 _ rfl h ⟨20, .data⟩ (by simp) rfl) ⟨1, .data⟩ (by simp) rfl) ⟨0, .data⟩ (by simp) rfl)
                        exact opMove 14 _ rfl ((ha 14).trans ((hn' 21 14 nZ rfl).trans q14)) (hK _ _ hI.op0)
                      · obtain rfl := Option.some.inj hi
                        refine ⟨rfl, fun K hK => ?_⟩
                        have y0 := hI.s0 (hp ⟨0, .data⟩ (by simp) rfl)
                        exact opMove 86 _ rfl ((ha 86).trans y0) (hK _ _ hI.op1)
                      · obtain rfl := Option.some.inj hi
                        refine ⟨wanted_of rfl (yielded_of (d := 87) rfl ((ha 87).trans (hI.s1 (hp ⟨1, .guard⟩ (by simp) rfl)))), fun K hK => ?_⟩
                        exact opMove 8 _ rfl ((ha 8).trans q8) (hK _ _ hI.op2)
                      · obtain rfl := Option.some.inj hi
                        refine ⟨wanted_of rfl (yielded_of (d := 87) rfl ((ha 87).trans (hI.s1 (hp ⟨1, .guard⟩ (by simp) rfl)))), fun K hK => ?_⟩
                        exact opMove 15 _ rfl ((ha 15).trans q15) (hK _ _ hI.op3)
                      · obtain rfl := Option.some.inj hi
                        refine ⟨wanted_of rfl (yielded_of (d := 87) rfl ((ha 87).trans (hI.s1 (hp ⟨1, .guard⟩ (by simp) rfl)))), fun K hK => ?_⟩
                        have y2 := hI.s2 (hp ⟨2, .data⟩ (by simp) rfl)
                        have y3 := hI.s3 (hp ⟨3, .data⟩ (by simp) rfl)
                        exact opIxT 88 89 _ _ _ _ rfl ((ha 88).trans y2) ((ha 89).trans y3) hnC (hK _ _ hI.op4)
                      · obtain rfl := Option.some.inj hi
                        refine ⟨wanted_of rfl (yielded_of (d := 87) rfl ((ha 87).trans (hI.s1 (hp ⟨1, .guard⟩ (by simp) rfl)))), fun K hK => ?_⟩
                        have y4 := hI.s4 (hp ⟨4, .data⟩ (by simp) rfl)
                        exact opLdS 90 _ _ rfl ((ha 90).trans y4) (HLv.out X hB).1 (hK _ _ hI.op5)
                      · obtain rfl := Option.some.inj hi
                        refine ⟨wanted_of rfl (yielded_of (d := 87) rfl ((ha 87).trans (hI.s1 (hp ⟨1, .guard⟩ (by simp) rfl)))), fun K hK => ?_⟩
                        exact opFieldMx 1 2 _ (by omega) rfl ((ha 2).trans q2) (hK _ _ hI.op6)
                      · obtain rfl := Option.some.inj hi
                        refine ⟨wanted_of rfl (yielded_of (d := 87) rfl ((ha 87).trans (hI.s1 (hp ⟨1, .guard⟩ (by simp) rfl)))), fun K hK => ?_⟩
                        have y6 := hI.s6 (hp ⟨6, .data⟩ (by simp) rfl)
                        exact opLdRs 92 _ _ rfl ((ha 92).trans y6) (HO.out X hB).1.2.1 (hK _ _ hI.op7)
                      · obtain rfl := Option.some.inj hi
                        refine ⟨wanted_of rfl (yielded_of (d := 87) rfl ((ha 87).trans (hI.s1 (hp ⟨1, .guard⟩ (by simp) rfl)))), fun K hK => ?_⟩
                        exact opMove 10 _ rfl ((ha 10).trans q10) (hK _ _ hI.op8)
                      · obtain rfl := Option.some.inj hi
                        refine ⟨wanted_of rfl (yielded_of (d := 87) rfl ((ha 87).trans (hI.s1 (hp ⟨1, .guard⟩ (by simp) rfl)))), fun K hK => ?_⟩
                        have y7 := hI.s7 (hp ⟨7, .data⟩ (by simp) rfl)
                        have y8 := hI.s8 (hp ⟨8, .data⟩ (by simp) rfl)
                        exact opIxR 93 94 _ _ _ _ rfl ((ha 93).trans y7) ((ha 94).trans y8) hir (hK _ _ hI.op9)
                      · obtain rfl := Option.some.inj hi
                        refine ⟨wanted_of rfl (yielded_of (d := 87) rfl ((ha 87).trans (hI.s1 (hp ⟨1, .guard⟩ (by simp) rfl)))), fun K hK => ?_⟩
                        have y9 := hI.s9 (hp ⟨9, .data⟩ (by simp) rfl)
                        exact opFieldR0 95 _ rfl ((ha 95).trans y9) (hK _ _ hI.op10)
                      · obtain rfl := Option.some.inj hi
                        refine ⟨wanted_of rfl (yielded_of (d := 87) rfl ((ha 87).trans (hI.s1 (hp ⟨1, .guard⟩ (by simp) rfl)))), fun K hK => ?_⟩
                        have y10 := hI.s10 (hp ⟨10, .data⟩ (by simp) rfl)
                        exact opLd 96 _ _ rfl ((ha 96).trans y10) (HNm.out X hB).1 (hK _ _ hI.op11)
                      · obtain rfl := Option.some.inj hi
                        refine ⟨wanted_of rfl (yielded_of (d := 87) rfl ((ha 87).trans (hI.s1 (hp ⟨1, .guard⟩ (by simp) rfl)))), fun K hK => ?_⟩
                        exact opFieldMx 1 2 _ (by omega) rfl ((ha 2).trans q2) (hK _ _ hI.op12)
                      · obtain rfl := Option.some.inj hi
                        refine ⟨wanted_of rfl (yielded_of (d := 87) rfl ((ha 87).trans (hI.s1 (hp ⟨1, .guard⟩ (by simp) rfl)))), fun K hK => ?_⟩
                        have y12 := hI.s12 (hp ⟨12, .data⟩ (by simp) rfl)
                        exact opLdRs 98 _ _ rfl ((ha 98).trans y12) (HO.out X hB).1.2.1 (hK _ _ hI.op13)
                      · obtain rfl := Option.some.inj hi
                        refine ⟨wanted_of rfl (yielded_of (d := 87) rfl ((ha 87).trans (hI.s1 (hp ⟨1, .guard⟩ (by simp) rfl)))), fun K hK => ?_⟩
                        exact opMove 11 _ rfl ((ha 11).trans q11) (hK _ _ hI.op14)
                      · obtain rfl := Option.some.inj hi
                        refine ⟨wanted_of rfl (yielded_of (d := 87) rfl ((ha 87).trans (hI.s1 (hp ⟨1, .guard⟩ (by simp) rfl)))), fun K hK => ?_⟩
                        have y13 := hI.s13 (hp ⟨13, .data⟩ (by simp) rfl)
                        have y14 := hI.s14 (hp ⟨14, .data⟩ (by simp) rfl)
                        exact opIxR 99 100 _ _ _ _ rfl ((ha 99).trans y13) ((ha 100).trans y14) hjr (hK _ _ hI.op15)
                      · obtain rfl := Option.some.inj hi
                        refine ⟨wanted_of rfl (yielded_of (d := 87) rfl ((ha 87).trans (hI.s1 (hp ⟨1, .guard⟩ (by simp) rfl)))), fun K hK => ?_⟩
                        have y15 := hI.s15 (hp ⟨15, .data⟩ (by simp) rfl)
                        exact opFieldR0 101 _ rfl ((ha 101).trans y15) (hK _ _ hI.op16)
                      · obtain rfl := Option.some.inj hi
                        refine ⟨wanted_of rfl (yielded_of (d := 87) rfl ((ha 87).trans (hI.s1 (hp ⟨1, .guard⟩ (by simp) rfl)))), fun K hK => ?_⟩
                        have y16 := hI.s16 (hp ⟨16, .data⟩ (by simp) rfl)
                        exact opLd 102 _ _ rfl ((ha 102).trans y16) (HNm.out X hB).2 (hK _ _ hI.op17)
                      · obtain rfl := Option.some.inj hi
                        refine ⟨wanted_of rfl (yielded_of (d := 87) rfl ((ha 87).trans (hI.s1 (hp ⟨1, .guard⟩ (by simp) rfl)))), fun K hK => ?_⟩
                        have y11 := hI.s11 (hp ⟨11, .data⟩ (by simp) rfl)
                        have y17 := hI.s17 (hp ⟨17, .data⟩ (by simp) rfl)
                        exact opBox2 97 103 _ _ rfl ((ha 97).trans y11) ((ha 103).trans y17) (hK _ _ (hI.op18 (pair_sl (World.alloc_heap_new X _)) (below_new _)))
                      · obtain rfl := Option.some.inj hi
                        refine ⟨wanted_of rfl (yielded_of (d := 87) rfl ((ha 87).trans (hI.s1 (hp ⟨1, .guard⟩ (by simp) rfl)))), fun K hK => ?_⟩
                        have y5 := hI.s5 (hp ⟨5, .data⟩ (by simp) rfl)
                        have y18 := hI.s18 (hp ⟨18, .data⟩ (by simp) rfl)
                        refine opCall2 25 _ 91 104 _ _ _ rfl ((ha 91).trans y5) (ha 104) (by go_simp) (HSI.out _ X hB y18) ?_
                        rintro e Y ⟨rfl, hb⟩
                        exact ⟨_, rfl, hK _ _ (hI.op19 hb)⟩
                      · obtain rfl := Option.some.inj hi
                        refine ⟨rfl, fun K hK => ?_⟩
                        have y1 := hI.s1 (hp ⟨1, .data⟩ (by simp) rfl)
                        have y19 := hI.s19 (hp ⟨19, .data⟩ (by simp) rfl)
                        exact opPickF 87 105 _ rfl ((ha 87).trans y1) ((ha 105).trans y19) (hK _ _ hI.op20)
                      · obtain rfl := Option.some.inj hi
                        refine ⟨rfl, fun K hK => ?_⟩
                        have y20 := hI.s20 (hp ⟨20, .data⟩ (by simp) rfl)
                        exact opAssign 106 _ rfl ((ha 106).trans y20) (hK _ _ hI.op21)
                    · intro dn val X hdn hI
                      have HBr := Lib.hid (HBd.out X hI.bel)
                      have h0 := hI.s0 (hdn 0 (by simp))
                      have h1 := hI.s1 (hdn 1 (by simp))
                      have h2 := hI.s2 (hdn 2 (by simp))
                      have h3 := hI.s3 (hdn 3 (by simp))
                      have h4 := hI.s4 (hdn 4 (by simp))
                      have h5 := hI.s5 (hdn 5 (by simp))
                      have h6 := hI.s6 (hdn 6 (by simp))
                      have h7 := hI.s7 (hdn 7 (by simp))
                      have h8 := hI.s8 (hdn 8 (by simp))
                      have h9 := hI.s9 (hdn 9 (by simp))
                      have h10 := hI.s10 (hdn 10 (by simp))
                      have h11 := hI.s11 (hdn 11 (by simp))
                      have h12 := hI.s12 (hdn 12 (by simp))
                      have h13 := hI.s13 (hdn 13 (by simp))
                      have h14 := hI.s14 (hdn 14 (by simp))
                      have h15 := hI.s15 (hdn 15 (by simp))
                      have h16 := hI.s16 (hdn 16 (by simp))
                      have h17 := hI.s17 (hdn 17 (by simp))
                      have h18 := hI.s18 (hdn 18 (by simp))
                      have h19 := hI.s19 (hdn 19 (by simp))
                      have h20 := hI.s20 (hdn 20 (by simp))
                      have h21 := hI.s21 (hdn 21 (by simp))
                      simp only [wrS, HT0.out]
                      simp only [List.setIfInBounds_toArray, List.set_cons_succ, List.set_cons_zero]
                      rw [h0, h1, h2, h3, h4, h5, h6, h7, h8, h9, h10, h11, h12, h13, h14, h15, h16, h17, h19, h20, h21]
                      (try simp only [Exit.then])
                      clear hdn HT0 hsz0 q2 q8 q10 q11 q14 q15
                      have HBy := Lib.hid HBr.out
                      clear hI HBr HBd HSI HLv h0 h1 h2 h3 h4 h5 h6 h7 h8 h9 h10 h11 h12 h13 h14 h15 h16 h17 h18 h19 h20 h21
                      generalize val 18 = uu3 at *
                      go_wp2_with fail
                      go_roundw
                      case rel => exact ⟨n + 1, bb, by go_num, rfl, by omega, HBy.out, by rw [HMt.out]; rfl⟩
                      case measure => simp [intOf]; omega
                · obtain rfl : nC = n := by omega
                  have hfe : decide ([ni, nj] ∈ cl) = fb := by
                    have h := HFb.out
                    rw [List.take_of_length_le (by have := HNC.out; omega)] at h
                    exact h
                  by_cases hg0 : g = 0
                  · subst hg0
                    have hmem := HLaw.out rfl
                    have hft : fb = true := by rw [← hfe]; exact decide_eq_true hmem
                    subst hft
                    clear hmem hfe k1
                    go_wp2_with fail
                    go_roundw
                    case rel => exact ⟨j + 1, by go_num, by omega, by omega, HBn.out⟩
                    case measure => simp [intOf]; omega
                  · have hgb : (g == 0) = false := by simpa using hg0
                    clear hfe k1
                    go_wp2_with fail
                    go_roundw
                    case rel => exact ⟨j + 1, by go_num, by omega, by omega, HBn.out⟩
                    case measure => simp [intOf]; omega
          · obtain rfl : nr = j := by omega
            go_wp2_with fail
            go_roundw
            case rel => exact ⟨i + 1, by go_num, by omega, HBj.out⟩
            case measure => simp [intOf]; omega
      · obtain rfl : nr = i := by omega
        go_wp2_with fail
        refine bodyPost_ret (v := .bool true) (by simp [results, Tryd.results13, go_sem]) rfl ?_
        exact And.intro rfl (HB.out.trans (HBi.out.mono HB.out.size))
  · subst h0
    have hre : rightE m k = 30 := by rw [HRv.out]; rfl
    have HC := Lib.hid (Right_any _ _ m k w5 HM.out HSm.out HKy.out HKm.out)
    rw [HRs.out, hre] at HC
    rw [show decide ((30 : Int) = 3) = false from rfl] at HC
    clear hre HWc HRv
    go_wp2_with fail
    (with_reducible refine HC.out.mono ?_)
    rintro e w9 ⟨rfl, hb⟩
    replace HB := Lib.hid (HB.out.trans (hb.mono HB.out.size))
    replace HT := Lib.hid (HT.out.step hb)
    replace HM := Lib.hid (HM.out.step hb)
    replace HKy := Lib.hid (HKy.out.step hb)
    replace HBx := Lib.hid ((hb.block _ (Array.getElem?_eq_some_iff.1 HBx.out).1).trans HBx.out)
    replace HKx := Lib.hid ((hb.block _ (Array.getElem?_eq_some_iff.1 HKx.out).1).trans HKx.out)
    clear HC
    clear hb
    clear k0 k1 j0 j1
    obtain ⟨k0, k1⟩ := cells_two HBx.out
    obtain ⟨j0, j1⟩ := cells_two HKx.out
    go_wp2_with fail
    refine bodyPost_ret (v := .bool true) (by simp [results, Tryd.results13, go_sem]) rfl ?_
    exact And.intro rfl HB.out
  · subst h0
    have hre : rightE m k = 31 := by rw [HRv.out]; rfl
    have HC := Lib.hid (Right_any _ _ m k w5 HM.out HSm.out HKy.out HKm.out)
    rw [HRs.out, hre] at HC
    rw [show decide ((31 : Int) = 3) = false from rfl] at HC
    clear hre HWc HRv
    go_wp2_with fail
    (with_reducible refine HC.out.mono ?_)
    rintro e w10 ⟨rfl, hb⟩
    replace HB := Lib.hid (HB.out.trans (hb.mono HB.out.size))
    replace HT := Lib.hid (HT.out.step hb)
    replace HM := Lib.hid (HM.out.step hb)
    replace HKy := Lib.hid (HKy.out.step hb)
    replace HBx := Lib.hid ((hb.block _ (Array.getElem?_eq_some_iff.1 HBx.out).1).trans HBx.out)
    replace HKx := Lib.hid ((hb.block _ (Array.getElem?_eq_some_iff.1 HKx.out).1).trans HKx.out)
    clear HC
    clear hb
    clear k0 k1 j0 j1
    obtain ⟨k0, k1⟩ := cells_two HBx.out
    obtain ⟨j0, j1⟩ := cells_two HKx.out
    go_wp2_with fail
    refine bodyPost_ret (v := .bool true) (by simp [results, Tryd.results13, go_sem]) rfl ?_
    exact And.intro rfl HB.out
end Go.Proofs.YthfegbcbpeedbaaDoor
