
/- Sets of small numbers, with a bit for each. -/
import Derived.Test.YtplpogonkfnafaaGreatNmTu
namespace Go.Proofs.YtplpogonkfnafaaGreat
open Go.RowKit Go.Nm

/-- a row of words of the call's own -/
structure BsI (W : World) (gw nw : Nat) (wd : Nat → Nat) (X : World) : Prop where
  bel : Below W.heap.size W X
  cs : ∃ cs : Array Value, X.heap[gw]? = some (.cells cs 111) ∧ cs.size = nw ∧ ∀ k, k < nw → cs[k]? = some (.int .u64 (wd k : Int))
  wf : ∀ k, k < nw → wd k < 18446744073709551616
  base : W.heap.size ≤ gw
theorem BsI.cell {W X : World} {gw nw : Nat} {wd : Nat → Nat} (h : BsI W gw nw wd X) {k : Nat} (hk : k < nw) : X.cell? (⟨gw, k, none⟩) = some (.int .u64 (wd k : Int)) := by
  obtain ⟨cs, h1, h2, h3⟩ := h.cs
  simp only [World.cell?, h1]
  exact h3 k hk
theorem BsI.step {W X Y : World} {gw nw : Nat} {wd : Nat → Nat} (h : BsI W gw nw wd X) (hb : Below X.heap.size X Y) : BsI W gw nw wd Y := by
  obtain ⟨cs, h1, h2⟩ := h.cs
  exact ⟨h.bel.trans (hb.mono h.bel.size), ⟨cs, (hb.block _ (Array.getElem?_eq_some_iff.1 h1).1).trans h1, h2⟩, h.wf, h.base⟩
theorem BsI.kept {W X Y : World} {gw nw : Nat} {wd : Nat → Nat} {row : Option Nat} (h : BsI W gw nw wd X) (hg : X.grownBy Y row) (hr : ∀ r, row = some r → W.heap.size ≤ r ∧ r ≠ gw) : BsI W gw nw wd Y := by
  obtain ⟨cs, h1, h2⟩ := h.cs
  exact ⟨h.bel.grown hg h.bel.size (fun k e => (hr k e).1), ⟨cs, (hg.block _ (Array.getElem?_eq_some_iff.1 h1).1 (fun e => (hr _ e.symm).2 rfl)).trans h1, h2⟩, h.wf, h.base⟩
theorem BsI.froz {W X : World} {gw nw : Nat} {wd : Nat → Nat} (h : BsI W gw nw wd X) (k : Nat) : X.frozen? ⟨gw, k, none⟩ = false := by
  obtain ⟨cs, h1, _⟩ := h.cs
  exact frozen_cells h1 k
theorem BsI.put {W X : World} {gw nw : Nat} {wd : Nat → Nat} (h : BsI W gw nw wd X) {q m : Nat} (hm : m < 18446744073709551616) : BsI W gw nw (fun j => if j = q then m else wd j) (X.setCell ⟨gw, q, none⟩ (.int .u64 (m : Int))) := by
  obtain ⟨cs, h1, h2, h3⟩ := h.cs
  refine ⟨h.bel.setCell h.base _, ⟨cs.setIfInBounds q (.int .u64 (m : Int)), heap_setCell_same X gw q _ _ _ h1, by simp [h2], fun j hj => ?_⟩, fun j hj => ?_, h.base⟩
  · by_cases e : j = q
    · subst e
      rw [Array.getElem?_setIfInBounds_self_of_lt (by omega), if_pos rfl]
    · rw [Array.getElem?_setIfInBounds_ne (by omega), h3 j hj, if_neg e]
  · split
    · exact hm
    · exact h.wf j hj
theorem grown_drew {X Y : World} {row : Option Nat} (h : X.grownBy Y row) : X.grownBy Y.drew row := ⟨h.os, h.tape, h.output, h.size, h.block⟩
theorem grown_trans {X Y Z : World} {row : Nat} (h : X.grownBy Y (some row)) (h2 : Y.grownBy Z (some row)) : X.grownBy Z (some row) :=
  ⟨h2.os.trans h.os, h2.tape.trans h.tape, h2.output.trans h.output, Nat.le_trans h.size h2.size, fun i hi hne => (h2.block i (Nat.lt_of_lt_of_le hi h.size) hne).trans (h.block i hi hne)⟩
theorem wrap_u64 {x : Nat} (h : x < 18446744073709551616) : IntKind.u64.wrap (x : Int) = (x : Int) := by
  unfold IntKind.wrap IntKind.signed IntKind.bits
  simp only [Bool.false_and, Bool.false_eq_true, if_false]
  omega
theorem ofInt_nat {x : Nat} (h : x < 18446744073709551616) : (BitVec.ofInt 64 (x : Int)).toNat = x := by
  rw [BitVec.ofInt_natCast, BitVec.toNat_ofNat]
  exact Nat.mod_eq_of_lt h
theorem or_u64 {x y : Nat} (hx : x < 18446744073709551616) (hy : y < 18446744073709551616) : bits BinOp.or IntKind.u64 (x : Int) (y : Int) = ((x ||| y : Nat) : Int) := by
  have h : (BitVec.ofInt 64 (x : Int) ||| BitVec.ofInt 64 (y : Int)).toNat = x ||| y := by rw [BitVec.toNat_or, ofInt_nat hx, ofInt_nat hy]
  show IntKind.u64.wrap ((BitVec.ofInt 64 (x : Int) ||| BitVec.ofInt 64 (y : Int)).toNat : Int) = _
  rw [h]
  exact wrap_u64 (Nat.or_lt_two_pow (n := 64) hx hy)
theorem and_u64 {x y : Nat} (hx : x < 18446744073709551616) (hy : y < 18446744073709551616) : bits BinOp.and IntKind.u64 (x : Int) (y : Int) = ((x &&& y : Nat) : Int) := by
  have h : (BitVec.ofInt 64 (x : Int) &&& BitVec.ofInt 64 (y : Int)).toNat = x &&& y := by rw [BitVec.toNat_and, ofInt_nat hx, ofInt_nat hy]
  show IntKind.u64.wrap ((BitVec.ofInt 64 (x : Int) &&& BitVec.ofInt 64 (y : Int)).toNat : Int) = _
  rw [h]
  exact wrap_u64 (Nat.lt_of_le_of_lt Nat.and_le_left hx)
theorem has_bit {x r : Nat} (hx : x < 18446744073709551616) : (bits BinOp.and IntKind.u64 ((x : Int) / 2 ^ r) 1 != 0) = x.testBit r := by
  have e : ((x : Int) / 2 ^ r) = ((x / 2 ^ r : Nat) : Int) := by simp
  have h : bits BinOp.and IntKind.u64 ((x / 2 ^ r : Nat) : Int) 1 = ((x / 2 ^ r &&& 1 : Nat) : Int) := and_u64 (x := x / 2 ^ r) (y := 1) (Nat.lt_of_le_of_lt (Nat.div_le_self _ _) hx) (by decide)
  rw [e, h, Nat.testBit, Nat.shiftRight_eq_div_pow, Nat.and_comm 1]
  rw [Bool.eq_iff_iff]
  simp only [bne_iff_ne]
  omega
set_option maxRecDepth 100000 in
set_option maxHeartbeats 4000000 in
theorem setHas_any (W : World) (gw nw : Nat) (wd : Nat → Nat) (k : Nat) (w : World) (hS : BsI W gw nw wd w) (hqn : k / 64 < nw) (hk : k ≤ 1000000) :
    Calls Tryz.prog 63 #[.slice (some ⟨gw, 0, none⟩) nw nw, .int .i64 (k : Int)] w fun e w' => e = .returned (.bool ((wd (k / 64)).testBit (k % 64))) ∧ w = w' := by
  obtain ⟨q, hq⟩ : ∃ q, k / 64 = q := ⟨_, rfl⟩
  obtain ⟨r, hr⟩ : ∃ r, k % 64 = r := ⟨_, rfl⟩
  rw [hq] at hqn
  have hc := hS.cell hqn
  have HB := Lib.hid (has_bit (r := r) (hS.wf q hqn))
  rw [hq, hr]
  clear hS
  go_enter Tryz.func63, Tryz.ntmps63
  go_wp2_with fail
  rw [HB.out]
  go_ret
  exact ⟨rfl, rfl⟩
set_option maxRecDepth 100000 in
set_option maxHeartbeats 4000000 in
theorem setAdd_any (W : World) (gw nw : Nat) (wd : Nat → Nat) (k : Nat) (w : World) (hS : BsI W gw nw wd w) (hqn : k / 64 < nw) (hk : k ≤ 1000000) :
    Calls Tryz.prog 61 #[.slice (some ⟨gw, 0, none⟩) nw nw, .int .i64 (k : Int)] w fun e w' => e = .returned (.tuple #[]) ∧ BsI W gw nw (fun j => if j = k / 64 then wd j ||| 2 ^ (k % 64) else wd j) w' ∧ w.grownBy w' (some gw) := by
  obtain ⟨q, hq⟩ : ∃ q, k / 64 = q := ⟨_, rfl⟩
  obtain ⟨r, hr⟩ : ∃ r, k % 64 = r := ⟨_, rfl⟩
  rw [hq] at hqn
  have hc := hS.cell hqn
  rw [hq, hr]
  have hw1 : IntKind.i64.wrap ((k : Int) / 64) = (q : Int) := by rw [IntKind.wrap_i64]; omega
  have hw2 : IntKind.i64.wrap ((k : Int) % 64) = (r : Int) := by rw [IntKind.wrap_i64]; omega
  have hqi : (q : Int) < (nw : Int) := by omega
  have hri : (r : Int) < 64 := by omega
  have hm1 : (k : Int).tmod 64 = (r : Int) := by rw [Int.tmod_eq_emod_of_nonneg (by omega)]; omega
  have hm2 : (2 : Nat) ^ r < 18446744073709551616 := Nat.pow_lt_pow_right (a := 2) (by omega) (show r < 64 by omega)
  have hsh : Op.shift BinOp.shl IntKind.u64 1 IntKind.i64 (r : Int) = pure (.int .u64 ((2 ^ r : Nat) : Int)) := by
    rw [shift_shl _ _ _ _ (by omega) (by show (r : Int) ≤ 64; omega)]
    rw [show (1 : Int) * 2 ^ (r : Int).toNat = ((2 ^ r : Nat) : Int) from by simp, wrap_u64 hm2]
  have hor := or_u64 (hS.wf q hqn) hm2
  have HS := Lib.hid hS
  obtain ⟨m, hm⟩ : ∃ m, 2 ^ r = m := ⟨_, rfl⟩
  have HV := Lib.hid (show bits BinOp.or IntKind.u64 (wd q : Int) (IntKind.u64.wrap (2 ^ r)) = ((wd q ||| m : Nat) : Int) from by
    rw [show ((2 : Int) ^ r) = ((2 ^ r : Nat) : Int) from by simp, wrap_u64 hm2, hor, hm])
  rw [hm] at hor hsh hm2 ⊢
  have HO := Lib.hid (show wd q ||| m < 18446744073709551616 from Nat.or_lt_two_pow (n := 64) (hS.wf q hqn) hm2)
  clear hS hq hr hm hm2
  go_enter Tryz.func61, Tryz.ntmps61
  go_wp2_with fail
  refine wp_region_tail 10 (by kernel_rfl) (by kernel_rfl) ?_
  simp only [List.take_succ_cons, List.take_zero, List.drop_succ_cons, List.drop_zero]
  iterate 10 ((with_reducible refine wpStill_step ?_); intro K hK; go_simp; (try (refine ite_neg_of (by simp [undef] <;> assumption) ?_)); (with_reducible refine hK _ ?_); clear hK K)
  (with_reducible refine wpStill_nil ?_)
  have hf := HS.out.froz q
  go_wp2_with fail
  go_end0
  rw [HV.out]
  have e : (fun j => if j = q then wd j ||| m else wd j) = fun j => if j = q then wd q ||| m else wd j := by
    funext j
    by_cases h : j = q
    · subst h; rfl
    · rw [if_neg h, if_neg h]
  rw [e]
  exact ⟨rfl, (HS.out.put HO.out).step (Below.refl _ _).drew, grown_drew (setCell_grown' w gw q _)⟩
set_option maxRecDepth 100000 in
set_option maxHeartbeats 4000000 in
theorem setJoin_any (W W' : World) (gw gt nw : Nat) (wd wt : Nat → Nat) (w : World) (hS : BsI W gw nw wd w) (hT : BsI W' gt nw wt w) (hne : gw ≠ gt) (hba : W'.heap.size ≤ gw) (hnw : nw ≤ 100000) :
    Calls Tryz.prog 62 #[.slice (some ⟨gw, 0, none⟩) nw nw, .slice (some ⟨gt, 0, none⟩) nw nw] w fun e w' => e = .returned (.tuple #[]) ∧ BsI W gw nw (fun j => wd j ||| wt j) w' ∧ w.grownBy w' (some gw) := by
  have HS := Lib.hid hS
  have HT := Lib.hid hT
  have HG := Lib.hid (show w.grownBy w (some gw) from ⟨rfl, rfl, rfl, Nat.le_refl _, fun _ _ _ => rfl⟩)
  have HN := Lib.hid (And.intro hne hba)
  clear hS hT hne hba
  go_enter Tryz.func62, Tryz.ntmps62
  go_wp2_with fail
  go_loopw [8] (fun iv wr => ∃ i : Nat, iv = .int .i64 (i : Int) ∧ i ≤ nw ∧ BsI W gw nw (fun j => if j < i then wd j ||| wt j else wd j) wr ∧ BsI W' gt nw wt wr ∧ w.grownBy wr (some gw)) (fun iv _ => nw - (intOf iv).toNat)
  case atStart => exact ⟨0, rfl, by omega, by simpa using HS.out, HT.out, HG.out⟩
  case round =>
    obtain ⟨i, rfl, hin, hs, ht, hg⟩ := hrel
    have HSi := Lib.hid hs
    have HTi := Lib.hid ht
    have HGi := Lib.hid hg
    clear hs ht hg
    by_cases hlt : i < nw
    · have hc := HSi.out.cell hlt
      have hd := HTi.out.cell hlt
      have hf := HSi.out.froz i
      rw [if_neg (Nat.lt_irrefl i)] at hc
      have h1 : wd i < 18446744073709551616 := by have := HSi.out.wf i hlt; rwa [if_neg (Nat.lt_irrefl i)] at this
      have hor := or_u64 h1 (HTi.out.wf i hlt)
      have HO := Lib.hid (show wd i ||| wt i < 18446744073709551616 from Nat.or_lt_two_pow (n := 64) h1 (HTi.out.wf i hlt))
      have HE := Lib.hid (show (fun j => if j = i then wd i ||| wt i else if j < i then wd j ||| wt j else wd j) = (fun j => if j < i + 1 then wd j ||| wt j else wd j) from by
        funext j
        by_cases h : j = i
        · subst h; rw [if_pos rfl, if_pos (by omega)]
        · rw [if_neg h]
          by_cases h2 : j < i
          · rw [if_pos h2, if_pos (by omega)]
          · rw [if_neg h2, if_neg (by omega)])
      clear h1
      go_wp2_with fail
      go_roundw
      case rel =>
        have hp := HSi.out.put (q := i) HO.out
        rw [HE.out] at hp
        have hst := setCell_grown' wr gw i (.int .u64 ((wd i ||| wt i : Nat) : Int))
        exact ⟨i + 1, by go_num, by omega, hp, HTi.out.kept hst (fun r e => by cases e; exact ⟨HN.out.2, HN.out.1⟩), grown_trans HGi.out hst⟩
      case measure => simp [intOf]; omega
    · obtain rfl : nw = i := by omega
      go_wp2_with fail
      go_end0
      have hb := HSi.out
      refine ⟨rfl, ⟨hb.bel, ?_, ?_, hb.base⟩, HGi.out⟩
      · obtain ⟨cs, h1, h2, h3⟩ := hb.cs
        exact ⟨cs, h1, h2, fun k hk => by rw [h3 k hk, if_pos hk]⟩
      · intro k hk
        have := hb.wf k hk
        rwa [if_pos hk] at this
end Go.Proofs.YtplpogonkfnafaaGreat
