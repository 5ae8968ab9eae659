/- The laws' own functions: has, part, bits. -/
import Derived.Test.YthfegbcbpeedbaaDoorKyPb
namespace Go.Ky
open Go.Nm
def hasF (L : List Int) (y : Int) : Bool := L.any fun x => decide (x = y)
def partF (L M : List Int) : Bool := L.all fun x => hasF M x
def stOk (x : Int) : Bool := decide (0 ≤ x ∧ x < 16)
def bitsF (L : List Int) : List Int := if L.all stOk = true then L.map fun x => (2 : Int) ^ x.toNat else []
theorem has_take {L : List Int} {y : Int} {i : Nat} {x : Int} (hx : L[i]? = some x) (h : hasF (L.take i) y = false) (hxy : ¬ x = y) : hasF (L.take (i + 1)) y = false := by
  unfold hasF at h ⊢
  rw [show L.take (i + 1) = L.take i ++ [x] from by rw [List.take_add_one, hx]; rfl, List.any_append, h]
  simp [hxy]
theorem has_yes {L : List Int} {y : Int} {i : Nat} (hx : L[i]? = some y) : hasF L y = true := List.any_eq_true.2 ⟨y, List.mem_of_getElem? hx, by simp⟩
theorem has_iff {L : List Int} {y : Int} : hasF L y = true ↔ y ∈ L := by
  unfold hasF
  rw [List.any_eq_true]
  constructor
  · rintro ⟨x, hx, h⟩
    rw [← of_decide_eq_true h]
    exact hx
  · intro h
    exact ⟨y, h, by simp⟩
theorem part_iff {L M : List Int} : partF L M = true ↔ ∀ x ∈ L, x ∈ M := by
  unfold partF
  rw [List.all_eq_true]
  exact ⟨fun h x hx => has_iff.1 (h x hx), fun h x hx => has_iff.2 (h x hx)⟩
end Go.Ky
namespace Go.Proofs.YthfegbcbpeedbaaDoor
open Go.RowKit Go.Nm Go.Ky

set_option maxRecDepth 100000 in
set_option maxHeartbeats 4000000 in
theorem lhas_any (u : Value) (y : Int) (L : List Int) (w : World) (hu : InSl w w.heap.size u L) (hn : L.length ≤ 1000000) :
    Calls Tryd.prog 52 #[u, .int .i64 y] w fun e w' => e = .returned (.bool (hasF L y)) ∧ w = w' := by
  obtain ⟨A, c, rfl, _⟩ := hu.form
  have HA := Lib.hid (show InA w w.heap.size A L from by obtain ⟨_, _, e, _, _, h⟩ := hu; cases e; exact h)
  obtain ⟨n, hnn⟩ : ∃ n, L.length = n := ⟨_, rfl⟩
  have HN := Lib.hid hnn
  rw [hnn] at hn ⊢
  clear hu hnn
  go_enter Tryd.func52, Tryd.ntmps52
  go_wp2_with fail
  go_loopw [5] (fun iv wr => ∃ i : Nat, iv = .int .i64 (i : Int) ∧ i ≤ n ∧ hasF (L.take i) y = false ∧ w = wr) (fun iv _ => n - (intOf iv).toNat)
  case atStart => exact ⟨0, rfl, by omega, rfl, rfl⟩
  case round =>
    obtain ⟨i, rfl, hin, hno, rfl⟩ := hrel
    have HNo := Lib.hid hno
    clear hno
    by_cases hlt : i < n
    · obtain ⟨x, ad, hx, rfl, _, hcx⟩ := HA.out.at_ HN.out hlt
      have HX := Lib.hid hx
      clear hx
      by_cases hxy : x = y
      · subst hxy
        have HY := Lib.hid (has_yes HX.out)
        go_wp2_with fail
        go_ret
        exact ⟨by rw [HY.out]; rfl, rfl⟩
      · have HT := Lib.hid (has_take HX.out HNo.out hxy)
        go_wp2_with fail
        go_roundw
        case rel => exact ⟨i + 1, by go_num, by omega, HT.out, by first | trivial | rfl⟩
        case measure => simp [intOf]; omega
    · obtain rfl : n = i := by omega
      have HE := Lib.hid (show hasF L y = false from by have h := HNo.out; rwa [List.take_of_length_le (by have := HN.out; omega)] at h)
      go_wp2_with fail
      go_ret
      exact ⟨by rw [HE.out]; rfl, rfl⟩
set_option maxRecDepth 100000 in
set_option maxHeartbeats 4000000 in
theorem lpart_any (u v : Value) (L M : List Int) (w : World) (hu : InSl w w.heap.size u L) (hv : InSl w w.heap.size v M) (hn : L.length ≤ 1000000) (hm : M.length ≤ 1000000) :
    Calls Tryd.prog 50 #[u, v] w fun e w' => e = .returned (.bool (partF L M)) ∧ w = w' := by
  have HC := Lib.hid (fun y => lhas_any v y M w hv hm)
  obtain ⟨A, c, rfl, _⟩ := hu.form
  obtain ⟨Am, cm, rfl, _⟩ := hv.form
  have HA := Lib.hid (show InA w w.heap.size A L from by obtain ⟨_, _, e, _, _, h⟩ := hu; cases e; exact h)
  obtain ⟨n, hnn⟩ : ∃ n, L.length = n := ⟨_, rfl⟩
  have HN := Lib.hid hnn
  rw [hnn] at hn ⊢
  generalize M.length = nm at *
  clear hu hv hnn
  go_enter Tryd.func50, Tryd.ntmps50
  go_wp2_with fail
  go_loopw [5] (fun iv wr => ∃ i : Nat, iv = .int .i64 (i : Int) ∧ i ≤ n ∧ ((L.take i).all fun x => hasF M x) = true ∧ w = wr) (fun iv _ => n - (intOf iv).toNat)
  case atStart => exact ⟨0, rfl, by omega, rfl, rfl⟩
  case round =>
    obtain ⟨i, rfl, hin, hno, rfl⟩ := hrel
    have HNo := Lib.hid hno
    clear hno
    by_cases hlt : i < n
    · obtain ⟨x, ad, hx, rfl, _, hcx⟩ := HA.out.at_ HN.out hlt
      have HX := Lib.hid hx
      have HC1 := Lib.hid (HC.out x)
      obtain ⟨b, hb⟩ : ∃ b, hasF M x = b := ⟨_, rfl⟩
      have HBb := Lib.hid hb
      rw [hb] at HC1
      clear hx hb
      cases b with
      | false =>
        have HY := Lib.hid (show partF L M = false from all_false HX.out HBb.out)
        go_wp2_with fail
        (with_reducible refine HC1.out.mono ?_)
        rintro e w2 ⟨rfl, rfl⟩
        go_wp2_with fail
        go_ret
        exact ⟨by rw [HY.out]; rfl, rfl⟩
      | true =>
        have HT := Lib.hid (show ((L.take (i + 1)).all fun x => hasF M x) = true from by rw [all_take HX.out, HNo.out, HBb.out]; rfl)
        go_wp2_with fail
        (with_reducible refine HC1.out.mono ?_)
        rintro e w2 ⟨rfl, rfl⟩
        go_wp2_with fail
        go_roundw
        case rel => exact ⟨i + 1, by go_num, by omega, HT.out, by first | trivial | rfl⟩
        case measure => simp [intOf]; omega
    · obtain rfl : n = i := by omega
      have HE := Lib.hid (show partF L M = true from all_end HN.out HNo.out)
      go_wp2_with fail
      go_ret
      exact ⟨by rw [HE.out]; rfl, rfl⟩
set_option maxRecDepth 100000 in
set_option maxHeartbeats 8000000 in
theorem lbits_any (u : Value) (L : List Int) (w : World) (hu : InSl w w.heap.size u L) (hn : L.length ≤ 1000000) :
    Calls Tryd.prog 51 #[u] w fun e w' => (∃ r, e = .returned r ∧ Fr w.heap.size w' r (bitsF L)) ∧ Below w.heap.size w w' := by
  obtain ⟨A, c, rfl, _⟩ := hu.form
  have HA := Lib.hid (show InA w w.heap.size A L from by obtain ⟨_, _, e, _, _, h⟩ := hu; cases e; exact h)
  obtain ⟨n, hnn⟩ : ∃ n, L.length = n := ⟨_, rfl⟩
  have HN := Lib.hid hnn
  have HR0 := Lib.hid (OwN.start w)
  rw [hnn] at hn ⊢
  clear hu hnn
  go_enter Tryd.func51, Tryd.ntmps51
  go_wp2_with fail
  go_loopw [3, 4] (fun ov iv wr => ∃ (i : Nat) (Ao : Option Addr) (no co : Nat), ov = .slice Ao no co ∧ iv = .int .i64 (i : Int) ∧ i ≤ n ∧ (L.take i).all stOk = true ∧ OwN w ov ((L.take i).map fun x => (2 : Int) ^ x.toNat) wr) (fun _ iv _ => n - (intOf iv).toNat)
  case atStart => exact ⟨0, _, _, _, rfl, rfl, by omega, rfl, HR0.out⟩
  case round =>
    obtain ⟨i, Ao, no, co, rfl, rfl, hin, hno, hI⟩ := hrel
    have HNo := Lib.hid hno
    have HI := Lib.hid hI
    clear hno hI
    by_cases hlt : i < n
    · obtain ⟨x, ad, hx, rfl, _, hcx⟩ := (HA.out.below HI.out.bel).at_ HN.out hlt
      have HX := Lib.hid hx
      clear hx
      by_cases h0 : x < 0
      · have HY := Lib.hid (show bitsF L = [] from by
          unfold bitsF
          rw [if_neg]
          rw [all_false HX.out (show stOk x = false from by unfold stOk; simp; omega)]
          simp)
        go_wp2_with fail
        go_ret
        exact ⟨⟨_, rfl, by rw [HY.out]; exact Fr.nil _ _⟩, HI.out.bel⟩
      · by_cases h1 : 16 ≤ x
        · have HY := Lib.hid (show bitsF L = [] from by
            unfold bitsF
            rw [if_neg]
            rw [all_false HX.out (show stOk x = false from by unfold stOk; simp; omega)]
            simp)
          go_wp2_with fail
          go_ret
          exact ⟨⟨_, rfl, by rw [HY.out]; exact Fr.nil _ _⟩, HI.out.bel⟩
        · obtain ⟨s, rfl⟩ : ∃ s : Nat, x = (s : Int) := ⟨x.toNat, by omega⟩
          have hs64 : s < 64 := by omega
          have hs0 : ¬ (s : Int) < 0 := h0
          have hs16 : ¬ (16 : Int) ≤ (s : Int) := h1
          obtain ⟨p1, p2⟩ := pow16 (k := s) (by omega)
          have hpw : IntKind.i64.wrap ((2 : Int) ^ s) = 2 ^ s := by
            rw [show ((2 : Int) ^ s) = ((2 ^ s : Nat) : Int) from by simp, IntKind.wrap_i64]
            omega
          have HT := Lib.hid (show (L.take (i + 1)).all stOk = true from by rw [all_take HX.out, HNo.out]; unfold stOk; simp; omega)
          have HM := Lib.hid (show (L.take (i + 1)).map (fun x => (2 : Int) ^ x.toNat) = (L.take i).map (fun x => (2 : Int) ^ x.toNat) ++ [(2 : Int) ^ s] from by
            rw [show L.take (i + 1) = L.take i ++ [(s : Int)] from by rw [List.take_add_one, HX.out]; rfl, List.map_append]
            simp)
          have HLq := Lib.hid (show ((L.take i).map (fun x => (2 : Int) ^ x.toNat)).length + [(2 : Int) ^ s].length ≤ 3000000 from by simp; omega)
          clear p1 p2
          go_wp2_with (at_builtin; refine wpList_appN rfl _ _ rfl (HI.out.step (below_new _)) rfl rfl (box_sl (y := (2 : Int) ^ s) (World.alloc_heap_new _ _)) HLq.out ?_; intro v6 w6 hI6 _; obtain ⟨A6, n6, c6, e6⟩ := hI6.slice; subst e6; have HI6 := Lib.hid hI6; clear hI6)
          go_roundw
          case rel => exact ⟨i + 1, _, _, _, rfl, by go_num, by omega, HT.out, by rw [HM.out]; exact HI6.out⟩
          case measure => simp [intOf]; omega
    · obtain rfl : n = i := by omega
      have HE := Lib.hid (show bitsF L = (L.take n).map fun x => (2 : Int) ^ x.toNat from by
        unfold bitsF
        rw [if_pos (all_end HN.out HNo.out), List.take_of_length_le (by have := HN.out; omega)])
      go_wp2_with fail
      go_ret
      exact ⟨⟨_, rfl, by rw [HE.out]; exact HI.out.fr⟩, HI.out.bel⟩
end Go.Proofs.YthfegbcbpeedbaaDoor
