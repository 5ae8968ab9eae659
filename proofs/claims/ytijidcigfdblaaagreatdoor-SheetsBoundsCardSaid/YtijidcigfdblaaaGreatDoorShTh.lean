/- The lines of a text: the iterator. -/
import Derived.Test.YtijidcigfdblaaaGreatDoorShTg
import Derived.Test.YtijidcigfdblaaaGreatDoorShRg
namespace Go.Sh
theorem ends_cons {f g : List UInt8} {r : List (List UInt8)} : endsL (f :: g :: r) = (f, true) :: endsL (g :: r) := rfl
/-- the next line of a text -/
theorem lines_cut {s : List UInt8} (h : s ≠ []) : linesL s = ((Lib.cut s [10]).1, (Lib.cut s [10]).2.2) :: linesL (Lib.cut s [10]).2.1 ∧ (Lib.cut s [10]).2.1.length < s.length ∧ (Lib.cut s [10]).1.length ≤ s.length := by
  have hs : 0 < s.length := List.length_pos_iff.2 h
  rcases split_ix (c := 10) (s := s) with ⟨h1, h2⟩ | ⟨i, h1, h2, h3⟩
  · have e : Lib.cut s [10] = (s, [], false) := by unfold Lib.cut; rw [if_neg (by rw [h1]; omega)]
    rw [e]
    refine ⟨?_, by simpa using hs, Nat.le_refl _⟩
    unfold linesL
    rw [h2]
    simp only [endsL]
    rw [if_neg h]
    rfl
  · have e : Lib.cut s [10] = (s.take i, s.drop (i + 1), true) := by
      unfold Lib.cut
      rw [if_pos (by rw [h1]; omega), h1]
      rfl
    rw [e]
    refine ⟨?_, by simp only [List.length_drop]; omega, by simp only [List.length_take]; omega⟩
    unfold linesL
    rw [h3]
    cases hc : splitC 10 (s.drop (i + 1)) with
    | nil => exact absurd hc (splitC_ne _ _)
    | cons f r => rfl
theorem lines_nil : linesL [] = [] := rfl
end Go.Sh
namespace Go.Proofs.YtijidcigfdblaaaGreatDoor
open Go.RowKit Go.Nm Go.Sh Go.Plc

theorem cell_one {w : World} {g : Nat} {a : Value} {t : TypeId} (h : w.heap[g]? = some (.cells #[a] t)) : w.cell? ⟨g, 0, none⟩ = some a := by simp [World.cell?, h]
theorem abide_below {β : Type} {B : Nat} {J : β → World → Prop} (h : AbidesFrom B J) {s : β} {X X' : World} (hs : J s X) (hb : Below X.heap.size X X') : J s X' :=
  h s X X' none hs (grown_of_below hb none) (fun r e => by cases e)
theorem linesOf_any (s : List UInt8) (w : World) :
    Calls Tryz.prog 89 #[str s] w fun e w' => e = .returned (.func (.func 144) #[] #[.pointer (some ⟨w.heap.size, 0, none⟩)]) ∧ w.alloc (.cells #[str s] 9) = w' := by
  unfold str
  generalize (⟨s.toArray⟩ : ByteArray) = b
  go_enter Tryz.func89, Tryz.ntmps89
  go_wp2_with fail
  go_ret
  exact ⟨rfl, rfl⟩
def lnBx (x : List UInt8 × Bool) : Array Value := #[str x.1, .bool x.2]
def vLen : Value → Nat
  | .string s => s.size
  | _ => 0
set_option maxRecDepth 100000 in
set_option maxHeartbeats 4000000 in
theorem lines_iter (B nn gb : Nat) (hnn : 1 ≤ nn) (s : List UInt8) (hs : s.length ≤ 80000) (I : List (List UInt8 × Bool) → Option Nat → World → Prop)
    (hI : ∀ pre ow X, I pre ow X → X.heap[gb]? = some (.cells #[str s] 9) ∧ GlO X) :
    IterG B Tryz.prog nn 144 #[.pointer (some ⟨gb, 0, none⟩)] lnBx I (fun pre x => pre ++ [x] <+: linesL s ∧ x.1.length ≤ 80000) (fun xs => xs = linesL s) (fun _ => True) := by
  intro l J Jx ow W hB hJ hJx hJI hY h0
  have HJ := Lib.hid hJ; have HJI := Lib.hid hJI; have HY := Lib.hid hY; have HI := Lib.hid hI; have H0 := Lib.hid h0
  have k0 := cell_one (hI _ _ _ (hJI _ _ _ h0)).1
  have HS := Lib.hid hs
  unfold str at k0
  obtain ⟨s0, hs0⟩ : ∃ b : ByteArray, (⟨s.toArray⟩ : ByteArray) = b := ⟨_, rfl⟩
  rw [hs0] at k0
  have HS0 := Lib.hid hs0
  clear hJ hJI hY hI h0 hJx hs hs0
  refine callsIn_of_wp Tryz.func144 rfl trivial ?_ rfl
  simp only [Tryz.ntmps144, List.size_toArray, List.length_cons, List.length_nil, Nat.reduceAdd, Nat.reduceSub, Array.replicate_succ, Array.replicate_zero, List.push_toArray, List.append_toArray, List.nil_append, List.cons_append]
  gi_wp2_with fail
  gi_loopw [3] (fun kv wr => ∃ (left : List UInt8) (b : ByteArray) (pre : List (List UInt8 × Bool)) (ow' : Option Nat), kv = .string b ∧ (⟨left.toArray⟩ : ByteArray) = b ∧ pre ++ linesL left = linesL s ∧ left.length ≤ 80000 ∧ J pre ow' wr ∧ W.heap.size ≤ wr.heap.size) (fun kv _ => vLen kv)
  case atStart => exact ⟨s, s0, [], ow, rfl, HS0.out, rfl, HS.out, H0.out, Nat.le_refl _⟩
  case round =>
    obtain ⟨left, b, pre, ow1, rfl, hb0, hpre, hll, hj, hsz⟩ := hrel
    have HJ1 := Lib.hid hj
    have HP := Lib.hid hpre
    have HL := Lib.hid hll
    have HB0 := Lib.hid hb0
    clear hj k0 hpre hll
    by_cases hne : left = []
    · have hb1 : b.toList = [] := by rw [← hb0, hne, ByteArray.toList_eq]
      have HF := Lib.hid (show pre = linesL s from by have h := HP.out; rw [hne, lines_nil, List.append_nil] at h; exact h)
      clear hb0 hne
      gi_wp2_with fail
      refine bodyPost_end (results_none rfl _ _ _) rfl ?_
      exact ⟨⟨_, rfl⟩, .inl ⟨_, ow1, HF.out, HJ1.out⟩⟩
    · have hb1 : (b.toList == []) = false := by
        rw [beq_eq_false_iff_ne]
        intro e
        rw [← hb0, ByteArray.toList_eq] at e
        exact hne e
      obtain ⟨q1, q2, q3⟩ := lines_cut hne
      obtain ⟨z, hz⟩ : ∃ z, Lib.cut left [10] = z := ⟨_, rfl⟩
      have HCut := Lib.hid (show Calls Tryz.prog 145 #[.string b, .string ⟨#[10]⟩] wr fun e w' => e = .returned (.tuple #[str z.1, str z.2.1, .bool z.2.2]) ∧ Below wr.heap.size wr w' from by
        have h := Cut_any left wr (by have := HL.out; omega) (HI.out _ _ _ (HJI.out _ _ _ HJ1.out)).2
        unfold cutN at h
        rw [hz] at h
        unfold str at h ⊢
        rw [hb0] at h
        exact h)
      rw [hz] at q1 q2 q3
      obtain ⟨zl, zb, ze⟩ := z
      simp only at q1 q2 q3 HCut
      have HQ := Lib.hid (And.intro q1 (And.intro q2 q3))
      unfold str at HCut
      obtain ⟨bl, hbl⟩ : ∃ b : ByteArray, (⟨zl.toArray⟩ : ByteArray) = b := ⟨_, rfl⟩
      obtain ⟨bb, hbb⟩ : ∃ b : ByteArray, (⟨zb.toArray⟩ : ByteArray) = b := ⟨_, rfl⟩
      rw [hbl, hbb] at HCut
      have HBl := Lib.hid hbl
      have HBb := Lib.hid hbb
      have HM := Lib.hid (show vLen (.string bb) < vLen (.string b) from by rw [← hbb, ← hb0]; exact q2)
      clear hb0 hne q1 q2 q3 hz hbl hbb
      gi_wp2_with fail
      refine ⟨trivial, (callsIn_wide.2 HCut.out).mono ?_⟩
      rintro e w3 ⟨rfl, hb⟩
      have hj3 := abide_below (HJ.out ow1) HJ1.out hb
      have HJ3 := Lib.hid hj3
      have hs3 := hb.size
      have HPx := Lib.hid (show pre ++ [(zl, ze)] ++ linesL zb = linesL s from by have h := HP.out; rw [HQ.out.1] at h; rw [List.append_assoc]; exact h)
      obtain ⟨fn, tmps, assign, body, hy, hR⟩ := HY.out pre (zl, ze) ow1 w3 hj3 ⟨⟨_, HPx.out⟩, by show zl.length ≤ 80000; have := HL.out; have := HQ.out.2.2; omega⟩
      have HR := Lib.hid hR
      unfold lnBx str at hy
      simp only at hy
      rw [HBl.out] at hy
      clear hb hj3 hR HCut
      gi_wp2_with fail
      refine HR.out.mono ?_
      rintro e W3 (⟨rfl, ow3, hj4, hgr, hka⟩ | ⟨rfl, hjx⟩)
      · have hs4 := hka.size
        have H4 := Lib.hid hj4
        clear hj4 hgr hka
        gi_wp2_with fail
        go_roundw
        case rel => exact ⟨zb, bb, _, ow3, rfl, HBb.out, HPx.out, by have := HL.out; have := HQ.out.2.1; omega, H4.out, by omega⟩
        case measure => exact HM.out
      · have HX3 := Lib.hid hjx
        clear hjx
        gi_wp2_with fail
        refine bodyPost_ret (results_none rfl _ _ _) rfl ?_
        exact ⟨⟨_, rfl⟩, .inr ⟨_, trivial, HX3.out⟩⟩
end Go.Proofs.YtijidcigfdblaaaGreatDoor
