/- PlacesCovering: the walk, an invalid square. -/
import Derived.Test.YtabolonlkocopaaDoorCgx
namespace Go.Proofs.YtabolonlkocopaaDoor
open Go.RowKit Go.Plc

set_option maxRecDepth 100000 in
set_option maxHeartbeats 16000000 in
theorem PlacesCovering_bad (va : Value) (a : List Sq) (s : Sq) (L : Int) (w : World) (hM : MonthDays w) (hT : TabW w) (ha : SqSl w w.heap.size va a)
    (hk : (∀ s ∈ a, s.okB = true) → a.length ≤ 40 → ∃ l, nrm a = l ∧ l.length ≤ 4096 ∧ ∀ b, askOut l s b = (false, 10)) :
    Calls Tryd.prog 9 #[va, sqv s, .int .i64 L] w fun e w' => e = .returned (.bool true) ∧ Below w.heap.size w w' := by
  have HM := Lib.hid hM
  have HT := Lib.hid hT
  have HK := Lib.hid hk
  have K0 := Lib.hid (show KB w [(w.heap.size, sqO s)] [(va, a)] (w.alloc (sqO s)) from
    (KB.slice (KB.mk (Below.refl _ _) (fun p hp => (by cases hp)) (fun q hq => (by cases hq)) : KB w [] [] w) ha).new (sqO s))
  clear hM hT ha hk
  unfold sqv sqO at *
  go_enter Tryd.func9, Tryd.ntmps9
  go_wp2_with fail
  refine (awake_any _ (HM.out.below K0.out.bel) (HT.out.below K0.out.bel)).mono ?_
  rintro e w1 ⟨rfl, hb1⟩
  have K1 := Lib.hid (K0.out.step hb1)
  clear hb1 K0
  go_wp2_with fail
  refine (three_any va (.slice none 0 0) (.slice none 0 0) a [] [] w1 (K1.out.sl _ List.mem_cons_self) (nil_sq _ _) (nil_sq _ _)).mono ?_
  rintro e w2 ⟨(⟨x, y, z, rfl, hl, ho, hx, hy, hz⟩ | ⟨x, y, z, rfl⟩), hb2⟩
  · obtain ⟨l, hle, hll, hbad⟩ := HK.out ho.1 hl.1
    rw [hle] at hx
    have K2 := Lib.hid ((K1.out.step hb2).slice hx)
    have HLl := Lib.hid hll
    have HBad := Lib.hid hbad
    clear hl ho hx hy hz hb2 K1 hle hll hbad HK
    obtain ⟨a0, a1, a2⟩ := sq_cells (s := s) (K2.out.mem (w.heap.size, _) List.mem_cons_self)
    go_wp2_with fail
    refine (Has_is _ l s false 10 _ (K2.out.sl (x, l) List.mem_cons_self) HLl.out (HBad.out _)).mono ?_
    rintro e w3 ⟨rfl, hb3⟩
    have K3 := Lib.hid (K2.out.step hb3)
    clear hb3 K2 a0 a1 a2
    obtain ⟨a0, a1, a2⟩ := sq_cells (s := s) (K3.out.mem (w.heap.size, _) List.mem_cons_self)
    go_wp2_with fail
    refine (Meets_is _ l s false 10 _ (K3.out.sl (x, l) List.mem_cons_self) HLl.out (HBad.out _)).mono ?_
    rintro e w4 ⟨rfl, hb4⟩
    have K4 := Lib.hid (K3.out.step hb4)
    clear hb4 K3 a0 a1 a2
    go_wp2_with fail
    go_ret
    exact ⟨rfl, K4.out.bel⟩
  · have K2 := Lib.hid (K1.out.step hb2)
    clear hb2 K1
    go_wp2_with fail
    go_ret
    exact ⟨rfl, K2.out.bel⟩
end Go.Proofs.YtabolonlkocopaaDoor
