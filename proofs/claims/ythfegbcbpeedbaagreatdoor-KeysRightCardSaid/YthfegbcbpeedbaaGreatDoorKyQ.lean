
/- Best. -/
import Derived.Test.YthfegbcbpeedbaaGreatDoorKyJ
namespace Go.Ky
open Go.Nm
def tab64 : List Nat := [0, 1, 56, 2, 57, 49, 28, 3, 61, 58, 42, 50, 38, 29, 17, 4, 62, 47, 59, 36, 45, 43, 51, 22, 53, 39, 33, 30, 24, 18, 12, 5, 63, 55, 48, 27, 60, 41, 37, 16, 46, 35, 44, 21, 52, 32, 23, 11, 54, 26, 40, 15, 34, 20, 31, 10, 25, 14, 19, 9, 13, 8, 7, 6]
def tzN (x : Nat) : Nat := tab64.getD ((x &&& (18446744073709551616 - x)) * 285870213051353865 % 18446744073709551616 / 288230376151711744) 0
theorem tab_lt (k : Nat) : tab64.getD k 0 < 64 := by
  by_cases h : k < 64
  · have h2 : ∀ i : Fin 64, tab64.getD i.val 0 < 64 := by decide
    exact h2 ⟨k, h⟩
  · rw [List.getD_eq_getElem?_getD, List.getElem?_eq_none (by show 64 ≤ k; omega)]; decide
def chk2 (p : Nat → Bool) : Nat → Nat → Bool
  | 0, lo => p lo
  | d + 1, lo => chk2 p d lo && chk2 p d (lo + 2 ^ d)
theorem chk2_all (p : Nat → Bool) : ∀ (d lo : Nat), chk2 p d lo = true → ∀ x, lo ≤ x → x < lo + 2 ^ d → p x = true
  | 0, lo, h, x, h1, h2 => by
    obtain rfl : x = lo := by simp at h2; omega
    exact h
  | d + 1, lo, h, x, h1, h2 => by
    unfold chk2 at h
    rw [Bool.and_eq_true] at h
    by_cases hx : x < lo + 2 ^ d
    · exact chk2_all p d lo h.1 x h1 hx
    · exact chk2_all p d _ h.2 x (by omega) (by rw [Nat.pow_succ] at h2; omega)
def tzB (x : Nat) : Bool := x == 0 || (Nat.blt (tzN x) 16 && x.testBit (tzN x) && Nat.beq (x % 2 ^ tzN x) 0)
theorem tzB_all : chk2 tzB 16 0 = true := by kernel_rfl
/-- the least bit: it is set, and none below it is -/
theorem tz_ok {x : Nat} (h0 : 0 < x) (h : x < 65536) : tzN x < 16 ∧ x.testBit (tzN x) = true ∧ x % 2 ^ tzN x = 0 := by
  have h1 := chk2_all tzB 16 0 tzB_all x (by omega) (by omega)
  unfold tzB at h1
  simp only [Bool.or_eq_true, Bool.and_eq_true, beq_iff_eq] at h1
  rcases h1 with h1 | ⟨⟨h1, h2⟩, h3⟩
  · omega
  · exact ⟨by rw [Nat.blt_eq] at h1; exact h1, h2, Nat.eq_of_beq_eq_true h3⟩
theorem wrap_u64 {x : Nat} (h : x < 18446744073709551616) : IntKind.u64.wrap (x : Int) = (x : Int) := by
  unfold IntKind.wrap IntKind.signed IntKind.bits
  simp only [Bool.false_and, Bool.false_eq_true, if_false]
  omega
theorem ofInt_nat {x : Nat} (h : x < 18446744073709551616) : (BitVec.ofInt 64 (x : Int)).toNat = x := by
  rw [BitVec.ofInt_natCast, BitVec.toNat_ofNat]
  exact Nat.mod_eq_of_lt h
theorem and_u64 {x y : Nat} (hx : x < 18446744073709551616) (hy : y < 18446744073709551616) : bits BinOp.and IntKind.u64 (x : Int) (y : Int) = ((x &&& y : Nat) : Int) := by
  have h : (BitVec.ofInt 64 (x : Int) &&& BitVec.ofInt 64 (y : Int)).toNat = x &&& y := by rw [BitVec.toNat_and, ofInt_nat hx, ofInt_nat hy]
  show IntKind.u64.wrap ((BitVec.ofInt 64 (x : Int) &&& BitVec.ofInt 64 (y : Int)).toNat : Int) = _
  rw [h]
  exact wrap_u64 (Nat.lt_of_le_of_lt Nat.and_le_left hx)
theorem and_i64 {x y : Nat} (hx : x < 9223372036854775808) (hy : y < 9223372036854775808) : bits BinOp.and IntKind.i64 (x : Int) (y : Int) = ((x &&& y : Nat) : Int) := by
  have h : (BitVec.ofInt 64 (x : Int) &&& BitVec.ofInt 64 (y : Int)).toNat = x &&& y := by rw [BitVec.toNat_and, ofInt_nat (by omega), ofInt_nat (by omega)]
  show IntKind.i64.wrap ((BitVec.ofInt 64 (x : Int) &&& BitVec.ofInt 64 (y : Int)).toNat : Int) = _
  rw [h, IntKind.wrap_i64]
  have := Nat.lt_of_le_of_lt (Nat.and_le_left (n := x) (m := y)) hx
  omega
end Go.Ky
namespace Go.Proofs.YthfegbcbpeedbaaGreatDoor
open Go.RowKit Go.Nm Go.Ky

/-- the table of bits -/
def TabH (w : World) : Prop := ∀ k, k < 64 → w.cell? ⟨0, k, none⟩ = some (.int .u8 ((tab64.getD k 0 : Nat) : Int))
theorem TabH.step {w w' : World} (h : TabH w) (hb : Below w.heap.size w w') : TabH w' := fun k hk => (hb.cell (World.block_lt_of_cell? _ _ (h k hk))).trans (h k hk)
set_option maxRecDepth 100000 in
set_option maxHeartbeats 4000000 in
theorem Tz64_any (x : Nat) (w : World) (hT : TabH w) (h0 : 0 < x) (hx : x < 65536) :
    Calls Tryz.prog 70 #[.int .u64 (x : Int)] w fun e w' => e = .returned (.int .i64 ((tzN x : Nat) : Int)) ∧ w = w' := by
  obtain ⟨n1, hn1⟩ : ∃ n1, 18446744073709551616 - x = n1 := ⟨_, rfl⟩
  have h1 : IntKind.u64.wrap (-(x : Int)) = (n1 : Int) := by
    unfold IntKind.wrap IntKind.signed IntKind.bits
    simp only [Bool.false_and, Bool.false_eq_true, if_false]
    omega
  obtain ⟨n2, hn2⟩ : ∃ n2, x &&& n1 = n2 := ⟨_, rfl⟩
  have h2 : bits BinOp.and IntKind.u64 (x : Int) (n1 : Int) = (n2 : Int) := by rw [and_u64 (by omega) (by omega), hn2]
  obtain ⟨n3, hn3⟩ : ∃ n3, n2 * 285870213051353865 % 18446744073709551616 = n3 := ⟨_, rfl⟩
  have h3 : IntKind.u64.wrap ((n2 : Int) * 285870213051353865) = (n3 : Int) := by
    unfold IntKind.wrap IntKind.signed IntKind.bits
    simp only [Bool.false_and, Bool.false_eq_true, if_false]
    omega
  obtain ⟨n4, hn4⟩ : ∃ n4, n3 / 288230376151711744 = n4 := ⟨_, rfl⟩
  have h4 : (n3 : Int) / 2 ^ 58 = (n4 : Int) := by omega
  have h4b : (n3 : Int) / 288230376151711744 = (n4 : Int) := by omega
  have hlt : n4 < 64 := by omega
  have hc := hT n4 hlt
  have hz := tab_lt n4
  obtain ⟨t, ht⟩ : ∃ t, tab64.getD n4 0 = t := ⟨_, rfl⟩
  rw [ht] at hc hz
  have HR := Lib.hid (show tzN x = t from by unfold tzN; rw [hn1, hn2, hn3, hn4, ht])
  have hx0 : ((x : Int) == 0) = false := by simp; omega
  obtain ⟨r, hr⟩ : ∃ r, tzN x = r := ⟨_, rfl⟩
  rw [hr] at HR ⊢
  clear hT hn1 hn2 hn3 hn4 ht hr
  go_enter Tryz.func70, Tryz.ntmps70
  go_wp2_with fail
  go_ret
  exact ⟨by rw [HR.out]; rfl, rfl⟩
set_option maxRecDepth 100000 in
set_option maxHeartbeats 4000000 in
theorem Tz_any (x : Nat) (w : World) (hT : TabH w) (h0 : 0 < x) (hx : x < 65536) :
    Calls Tryz.prog 43 #[.int .u64 (x : Int)] w fun e w' => e = .returned (.int .i64 ((tzN x : Nat) : Int)) ∧ w = w' := by
  have HC := Lib.hid (Tz64_any x w hT h0 hx)
  clear hT h0 hx
  go_enter Tryz.func43, Tryz.ntmps43
  go_wp2_with fail
  (with_reducible refine HC.out.mono ?_)
  rintro e w1 ⟨rfl, rfl⟩
  go_wp2_with fail
  go_ret
  exact ⟨rfl, rfl⟩
theorem IwI.low {W W' X : World} {gw n : Nat} {f : Nat → Int} (h : IwI W' gw n f X) (hb : Below W.heap.size W W') : IwI W gw n f X := ⟨hb.trans (h.bel.mono hb.size), h.cs, Nat.le_trans hb.size h.base⟩
set_option maxRecDepth 100000 in
set_option maxHeartbeats 8000000 in
theorem common_any (u v : Value) (a b : List Int) (w : World) (hu : InSl w w.heap.size u a) (hv : InSl w w.heap.size v b) (hl : b.length = a.length) (hn : a.length ≤ 100000) :
    Calls Tryz.prog 75 #[u, v] w fun e w' => ∃ (gw : Nat) (f : Nat → Int), e = .returned (.slice (some ⟨gw, 0, none⟩) a.length a.length) ∧ IwI w gw a.length f w' ∧ ∀ k x y, a[k]? = some x → b[k]? = some y → f k = meetF x y := by
  have HU := Lib.hid hu
  have HV := Lib.hid hv
  obtain ⟨A, c, rfl, _⟩ := hu.form
  obtain ⟨B, d, rfl, _⟩ := hv.form
  obtain ⟨n, h⟩ : ∃ n, a.length = n := ⟨_, rfl⟩
  have HN := Lib.hid (And.intro h (hl.trans h))
  rw [hl, h] at HV
  rw [h] at HU hn
  rw [hl, h]
  clear hu hv h hl
  go_enter Tryz.func75, Tryz.ntmps75
  go_wp2_with (refine wpList_make_ints rfl _ _ rfl n rfl rfl (by omega) ?_; intro cs hcs1 hcs2; have HI0 := Lib.hid (IwI.start (W := w) hcs1 hcs2); clear hcs1 hcs2)
  obtain ⟨gw, hgw⟩ : ∃ gw, w.heap.size = gw := ⟨_, rfl⟩
  have HGw := Lib.hid hgw
  rw [hgw] at HI0 ⊢
  clear hgw
  go_loopw [12] (fun iv wr => ∃ (i : Nat) (f : Nat → Int), iv = .int .i64 (i : Int) ∧ i ≤ n ∧ IwI w gw n f wr ∧ ∀ k x y, k < i → a[k]? = some x → b[k]? = some y → f k = meetF x y) (fun iv _ => n - (intOf iv).toNat)
  case atStart => exact ⟨0, _, rfl, by omega, HI0.out, fun k x y hk => absurd hk (by omega)⟩
  case round =>
    obtain ⟨i, f, rfl, hin, hI, hf⟩ := hrel
    have HI := Lib.hid hI
    have HF := Lib.hid hf
    clear hI hf
    by_cases hlt : i < n
    · have HA := Lib.hid (show InA wr wr.heap.size A a from by obtain ⟨_, _, e, _, _, h⟩ := HU.out.step HI.out.bel; cases e; exact h)
      have HB := Lib.hid (show InA wr wr.heap.size B b from by obtain ⟨_, _, e, _, _, h⟩ := HV.out.step HI.out.bel; cases e; exact h)
      obtain ⟨x, ad, hx, rfl, _, hcx⟩ := HA.out.at_ HN.out.1 hlt
      obtain ⟨y, bd, hy, rfl, _, hcy⟩ := HB.out.at_ HN.out.2 hlt
      have HXY := Lib.hid (And.intro hx hy)
      have HId := Lib.hid (HI.out.step (Below.refl _ _).drew)
      have hco := HId.out.cell hlt
      have hfz := HId.out.froz i
      obtain ⟨z, hz⟩ : ∃ z, bits BinOp.and IntKind.i64 x y = z := ⟨_, rfl⟩
      have HZ := Lib.hid hz
      clear hx hy
      go_wp2_with fail
      refine wp_region_tail 12 (by kernel_rfl) (by kernel_rfl) ?_
      simp only [List.take_succ_cons, List.take_zero, List.drop_succ_cons, List.drop_zero]
      iterate 12 ((with_reducible refine wpStill_step ?_); intro K hK; go_simp; (try (refine ite_neg_of (by simp [undef] <;> assumption) ?_)); (with_reducible refine hK _ ?_); clear hK K)
      (with_reducible refine wpStill_nil ?_)
      go_wp2_with fail
      go_roundw
      case rel => exact ⟨i + 1, _, by go_num, by omega, HId.out.set i z, fun k x' y' hk hx' hy' => by
        by_cases e : k = i
        · subst e
          rw [HXY.out.1] at hx'; injection hx' with hx'; subst hx'
          rw [HXY.out.2] at hy'; injection hy' with hy'; subst hy'
          rw [upd_same, ← HZ.out]; rfl
        · rw [upd_other _ _ e]; exact HF.out k x' y' (by omega) hx' hy'⟩
      case measure => simp [intOf]; omega
    · obtain rfl : n = i := by omega
      have HFin := Lib.hid (show ∀ k x y, a[k]? = some x → b[k]? = some y → f k = meetF x y from fun k x y hx hy => HF.out k x y (by have := (List.getElem?_eq_some_iff.1 hx).1; have := HN.out.1; omega) hx hy)
      go_wp2_with fail
      go_ret
      exact ⟨gw, f, rfl, HI.out, HFin.out⟩
end Go.Proofs.YthfegbcbpeedbaaGreatDoor
namespace Go.Ky
open Go.Nm
def comE (m : Mx) (a b : Int) : Int := if rowE m a = 0 then rowE m b else rowE m a
def comL (m : Mx) (a b : Int) : List Int := List.zipWith meetF (rowF m a).may (rowF m b).may
theorem row_all (m : Mx) (name : Int) : (rowE m name = 0 ∧ mxF m = true ∧ (rowF m name).may.length = m.st.length ∧ rowF m name ∈ m.rows ∧ (rowF m name).nm = name) ∨ ((rowE m name = 1 ∨ rowE m name = 30) ∧ rowF m name = ⟨0, []⟩) := by
  cases hm : mxF m with
  | false => exact .inr ⟨.inr (by unfold rowE; simp [hm]), by unfold rowF; simp [hm]⟩
  | true =>
    rcases row_cases (name := name) hm with ⟨h1, h2, h3, h4⟩ | ⟨h1, h2⟩
    · exact .inl ⟨h1, rfl, h2, h3, h4⟩
    · exact .inr ⟨.inl h1, h2⟩
theorem com_ok {m : Mx} {a b : Int} (h : comE m a b = 0) : mxF m = true ∧ rowE m a = 0 ∧ rowE m b = 0 ∧ (rowF m a).may.length = m.st.length ∧ (rowF m b).may.length = m.st.length ∧ (comL m a b).length = m.st.length := by
  unfold comE at h
  rcases row_all m a with ⟨h1, h2, h3, _⟩ | ⟨h1, _⟩
  · rw [if_pos h1] at h
    rcases row_all m b with ⟨h4, _, h5, _⟩ | ⟨h4, _⟩
    · exact ⟨h2, h1, h4, h3, h5, by unfold comL; rw [List.length_zipWith, h3, h5]; omega⟩
    · omega
  · rw [if_neg (by omega)] at h; omega
end Go.Ky
namespace Go.Proofs.YthfegbcbpeedbaaGreatDoor
open Go.RowKit Go.Nm Go.Ky

set_option maxRecDepth 100000 in
set_option maxHeartbeats 8000000 in
theorem commonOf_any (v : Value) (m : Mx) (a b : Int) (w : World) (hv : MxV w v m) (hs : MSm m) :
    Calls Tryz.prog 42 #[v, .int .i64 a, .int .i64 b] w fun e w' =>
      ((comE m a b = 0 ∧ ∃ gw : Nat, e = .returned (.tuple #[.slice (some ⟨gw, 0, none⟩) m.st.length m.st.length, .int .i64 0]) ∧ ∃ f : Nat → Int, IwI w gw m.st.length f w' ∧ ∀ k z, (comL m a b)[k]? = some z → f k = z) ∨ (comE m a b ≠ 0 ∧ e = .returned (.tuple #[.slice none 0 0, .int .i64 (comE m a b)]))) ∧ Below w.heap.size w w' := by
  obtain ⟨A1, c1, A2, c2, W0, rfl, hW0, hb0, hM, hS, hR, hX⟩ := mx_box hv
  have HB0 := Lib.hid hb0
  have HW0 := Lib.hid hW0
  have HX := Lib.hid hX
  have HRw := Lib.hid (fun name Y (h : Below W0.heap.size W0 Y) => Row_any _ m name Y (hM Y h) hs)
  obtain ⟨k0, k1⟩ := hX W0 (Below.refl _ _)
  have HKa := Lib.hid (row_all m a)
  have HKb := Lib.hid (row_all m b)
  have HO := Lib.hid (show comE m a b = (if rowE m a = 0 then rowE m b else rowE m a) ∧ comL m a b = List.zipWith meetF (rowF m a).may (rowF m b).may from ⟨rfl, rfl⟩)
  have HRa := Lib.hid (HRw.out a W0 (Below.refl _ _))
  have HRb := Lib.hid (HRw.out b)
  have hns : m.st.length ≤ 1000 := hs.1
  rw [HO.out.1, HO.out.2]
  obtain ⟨ra, hra⟩ : ∃ r, rowF m a = r := ⟨_, rfl⟩
  obtain ⟨rb, hrb⟩ : ∃ r, rowF m b = r := ⟨_, rfl⟩
  obtain ⟨ea, hea⟩ : ∃ r, rowE m a = r := ⟨_, rfl⟩
  obtain ⟨eb, heb⟩ : ∃ r, rowE m b = r := ⟨_, rfl⟩
  rw [hra, hea] at HKa HRa
  rw [hrb, heb] at HKb HRb
  rw [hra, hrb, hea, heb]
  generalize m.rows.length = nr at *
  obtain ⟨ns, hn⟩ : ∃ n, m.st.length = n := ⟨_, rfl⟩
  rw [hn] at HX HW0 HRa HRb HKa HKb k0 hns ⊢
  clear hv hs hW0 hb0 hM hS hR hX hra hrb hea heb hn HRw HO
  go_enter Tryz.func42, Tryz.ntmps42
  go_wp2_with fail
  rw [HW0.out]
  (try go_wp2_with fail)
  (with_reducible refine HRa.out.mono ?_)
  rintro e w1 ⟨⟨va, rfl, hva⟩, hb⟩
  obtain ⟨Aa, ca, rfl, _⟩ := hva.1.form
  have HVa := Lib.hid hva
  have hbx := below_new (w := w1) (.cells #[.int .i64 ra.nm, .slice Aa ra.may.length ca] 58)
  have HBx := Lib.hid hbx
  have HNx := Lib.hid (World.alloc_heap_new w1 (.cells #[.int .i64 ra.nm, .slice Aa ra.may.length ca] 58))
  have HB1 := Lib.hid (hb.trans (hbx.mono hb.size))
  have HB1w := Lib.hid hb
  clear hva hb k0 k1 HRa hbx
  rcases HKa.out with ⟨rfl, hm, hla, h3, h4⟩ | ⟨hea, hra⟩
  case inr =>
    clear HKa HRb HKb
    rcases hea with rfl | rfl
    · clear hra
      go_wp2_with fail
      go_ret2
      exact ⟨rfl, HB0.out.trans (HB1.out.mono HB0.out.size)⟩
    · clear hra
      go_wp2_with fail
      go_ret2
      exact ⟨rfl, HB0.out.trans (HB1.out.mono HB0.out.size)⟩
  case inl =>
  have HLa := Lib.hid hla
  rw [hla] at HB1 HBx HNx HVa ⊢
  clear hm hla h3 h4 HKa
  obtain ⟨k0, k1⟩ := HX.out _ HB1.out
  have HRb1 := Lib.hid (HRb.out _ HB1.out)
  clear HRb
  go_wp2_with fail
  (with_reducible refine HRb1.out.mono ?_)
  rintro e w2 ⟨⟨vb, rfl, hvb⟩, hb⟩
  obtain ⟨Ab, cb, rfl, _⟩ := hvb.1.form
  have HVb := Lib.hid hvb
  have hbx := below_new (w := w2) (.cells #[.int .i64 rb.nm, .slice Ab rb.may.length cb] 58)
  have hnx := World.alloc_heap_new w2 (.cells #[.int .i64 rb.nm, .slice Ab rb.may.length cb] 58)
  have hna := (hbx.block _ (Nat.lt_of_lt_of_le (Array.getElem?_eq_some_iff.1 HNx.out).1 hb.size)).trans ((hb.block _ (Array.getElem?_eq_some_iff.1 HNx.out).1).trans HNx.out)
  have HB2 := Lib.hid (HB1.out.trans ((hb.trans (hbx.mono hb.size)).mono HB1.out.size))
  have HBy := Lib.hid (hb.trans (hbx.mono hb.size))
  have HBz := Lib.hid hbx
  clear hvb hb k0 k1 HRb1 hbx
  rcases HKb.out with ⟨rfl, hm, hlb, h3, h4⟩ | ⟨heb, hrb⟩
  case inr =>
    clear HKb hnx hna
    rcases heb with rfl | rfl
    · clear hrb
      go_wp2_with fail
      go_ret2
      exact ⟨rfl, HB0.out.trans (HB2.out.mono HB0.out.size)⟩
    · clear hrb
      go_wp2_with fail
      go_ret2
      exact ⟨rfl, HB0.out.trans (HB2.out.mono HB0.out.size)⟩
  case inl =>
  have HLb := Lib.hid hlb
  rw [hlb] at HB2 HBy HBz HVb hnx hna ⊢
  clear hm hlb h3 h4 HKb
  obtain ⟨a0, a1⟩ := cells_two hna
  obtain ⟨b0, b1⟩ := cells_two hnx
  have HCo := Lib.hid (common_any (.slice Aa ns ca) (.slice Ab ns cb) ra.may rb.may _ ((HVa.out.1.step HBx.out).step HBy.out) (HVb.out.1.step HBz.out) (by rw [HLa.out, HLb.out]) (by rw [HLa.out]; omega))
  rw [HLa.out] at HCo
  clear hna hnx
  go_wp2_with fail
  (with_reducible refine HCo.out.mono ?_)
  rintro e w3 ⟨gw, f, rfl, hI, hf⟩
  have HI := Lib.hid (hI.low (HB0.out.trans (HB2.out.mono HB0.out.size)))
  have HF := Lib.hid (show ∀ k z, (List.zipWith meetF ra.may rb.may)[k]? = some z → f k = z from fun k z hz => by
    rw [List.getElem?_zipWith] at hz
    cases hx : ra.may[k]? with
    | none => rw [hx] at hz; simp at hz
    | some x =>
      cases hy : rb.may[k]? with
      | none => rw [hx, hy] at hz; simp at hz
      | some y =>
        rw [hx, hy] at hz
        simp at hz
        rw [hf k x y hx hy, hz])
  clear hI hf a0 a1 b0 b1 HCo
  go_wp2_with fail
  go_ret2
  exact ⟨⟨gw, rfl, f, HI.out, HF.out⟩, HI.out.bel⟩
end Go.Proofs.YthfegbcbpeedbaaGreatDoor
namespace Go.Ky
open Go.Nm
def leastI (z : Int) : Int := ((tzN z.toNat : Nat) : Int)
def sameE (m : Mx) (a b : Int) : Int := if comE m a b = 0 then (if ((comL m a b).all fun z => decide (z ≠ 0)) = true then 0 else 3) else comE m a b
def sameL (m : Mx) (a b : Int) : List Int := if sameE m a b = 0 then (comL m a b).map leastI else []
theorem full_le {q : Int} (h1 : 2 ≤ q) (h2 : q ≤ 16) : full q ≤ 65535 := by
  obtain ⟨k, rfl⟩ : ∃ k : Nat, q = (k : Int) := ⟨q.toNat, by omega⟩
  rw [full_nat]
  have := (pow16 (k := k) (by omega)).1
  omega
theorem st_range {m : Mx} (h : mxF m = true) {q : Int} (hq : q ∈ m.st) : 2 ≤ q ∧ q ≤ 16 := by
  have hc := mx_chr h
  unfold chrF at hc
  rw [Bool.and_eq_true] at hc
  exact of_decide_eq_true ((List.all_eq_true.1 hc.2) q hq)
theorem sets_range {m : Mx} (h : mxF m = true) {l : List Int} (hl : setsF m.st l = true) {k : Nat} {x : Int} (hx : l[k]? = some x) : 1 ≤ x ∧ x ≤ 65535 := by
  have hlen := sets_len hl
  unfold setsF at hl
  rw [Bool.and_eq_true] at hl
  have hk : k < m.st.length := by rw [← hlen]; exact (List.getElem?_eq_some_iff.1 hx).1
  have hq : m.st[k]? = some m.st[k] := List.getElem?_eq_getElem hk
  have h2 := (List.all_eq_true.1 hl.2) _ (List.mem_of_getElem? (zip_get hq hx))
  have h3 := of_decide_eq_true h2
  have h4 := st_range h (List.mem_of_getElem? hq)
  have := full_le h4.1 h4.2
  simp only at h3
  omega
theorem may_sets {m : Mx} (h : mxF m = true) {r : Rw} (hr : r ∈ m.rows) : setsF m.st r.may = true := by
  have h2 := mx_rows h
  unfold rowsF at h2
  rw [Bool.and_eq_true, Bool.and_eq_true] at h2
  exact (List.all_eq_true.1 h2.2.2) r hr
theorem meet_range {x y : Int} (hx : 0 ≤ x ∧ x ≤ 65535) (hy : 0 ≤ y ∧ y ≤ 65535) : 0 ≤ meetF x y ∧ meetF x y ≤ 65535 ∧ meetF x y = ((x.toNat &&& y.toNat : Nat) : Int) := by
  obtain ⟨a, rfl⟩ : ∃ a : Nat, x = (a : Int) := ⟨x.toNat, by omega⟩
  obtain ⟨b, rfl⟩ : ∃ b : Nat, y = (b : Int) := ⟨y.toNat, by omega⟩
  have h : meetF (a : Int) (b : Int) = ((a &&& b : Nat) : Int) := and_i64 (by omega) (by omega)
  have := Nat.and_le_left (n := a) (m := b)
  rw [h]
  simp only [Int.toNat_natCast]
  exact ⟨by omega, by omega, by first | trivial | rfl⟩
theorem com_range {m : Mx} {a b : Int} (h : comE m a b = 0) {k : Nat} {z : Int} (hz : (comL m a b)[k]? = some z) : 0 ≤ z ∧ z ≤ 65535 := by
  obtain ⟨hm, ha, hb, _⟩ := com_ok h
  unfold comL at hz
  rw [List.getElem?_zipWith] at hz
  rcases row_all m a with ⟨_, _, _, hra, _⟩ | ⟨h1, _⟩
  case inr => omega
  rcases row_all m b with ⟨_, _, _, hrb, _⟩ | ⟨h1, _⟩
  case inr => omega
  cases hx : (rowF m a).may[k]? with
  | none => rw [hx] at hz; simp at hz
  | some x =>
    cases hy : (rowF m b).may[k]? with
    | none => rw [hx, hy] at hz; simp at hz
    | some y =>
      rw [hx, hy] at hz
      simp at hz
      have h1 := sets_range hm (may_sets hm hra) hx
      have h2 := sets_range hm (may_sets hm hrb) hy
      have := meet_range (x := x) (y := y) (by omega) (by omega)
      omega
end Go.Ky
namespace Go.Proofs.YthfegbcbpeedbaaGreatDoor
open Go.RowKit Go.Nm Go.Ky

set_option maxRecDepth 100000 in
set_option maxHeartbeats 8000000 in
theorem Same_any (v : Value) (m : Mx) (a b : Int) (w : World) (hv : MxV w v m) (hs : MSm m) (hT : TabH w) :
    Calls Tryz.prog 19 #[v, .int .i64 a, .int .i64 b] w fun e w' => (∃ u, e = .returned (.tuple #[u, .int .i64 (sameE m a b)]) ∧ InSl w' w'.heap.size u (sameL m a b) ∧ ∀ g, u.ownBlock = some g → w.heap.size ≤ g) ∧ Below w.heap.size w w' := by
  obtain ⟨A1, c1, A2, c2, W0, rfl, hW0, hb0, hM, hS, hR, hX⟩ := mx_box hv
  have HB0 := Lib.hid hb0
  have HW0 := Lib.hid hW0
  have HTl := Lib.hid (World.block_lt_of_cell? _ _ (hT 0 (by omega)))
  have HT := Lib.hid (fun Y (h : Below W0.heap.size W0 Y) => (hT.step hb0).step h)
  obtain ⟨k0, k1⟩ := hX W0 (Below.refl _ _)
  have HC := Lib.hid (commonOf_any _ m a b W0 (hM W0 (Below.refl _ _)) hs)
  have HO := Lib.hid (show sameE m a b = (if comE m a b = 0 then (if ((comL m a b).all fun z => decide (z ≠ 0)) = true then 0 else 3) else comE m a b) ∧ sameL m a b = (if sameE m a b = 0 then (comL m a b).map leastI else []) from ⟨rfl, rfl⟩)
  have HOk := Lib.hid (fun h : comE m a b = 0 => And.intro (com_ok h).2.2.2.2.2 (fun k z (hz : (comL m a b)[k]? = some z) => com_range h hz))
  have hns : m.st.length ≤ 1000 := hs.1
  have HCe := Lib.hid (show comE m a b = 0 ∨ comE m a b = 1 ∨ comE m a b = 30 from by
    unfold comE
    rcases row_all m a with ⟨h1, _⟩ | ⟨h1, _⟩
    · rw [if_pos h1]
      rcases row_all m b with ⟨h2, _⟩ | ⟨h2, _⟩ <;> omega
    · rw [if_neg (by omega)]; omega)
  obtain ⟨ce, hce⟩ : ∃ r, comE m a b = r := ⟨_, rfl⟩
  obtain ⟨CL, hCL⟩ : ∃ r, comL m a b = r := ⟨_, rfl⟩
  obtain ⟨se, hse⟩ : ∃ r, sameE m a b = r := ⟨_, rfl⟩
  obtain ⟨sl, hsl⟩ : ∃ r, sameL m a b = r := ⟨_, rfl⟩
  rw [hce, hCL] at HC HOk
  rw [hce] at HCe
  rw [hce, hCL, hse, hsl] at HO
  rw [hse, hsl]
  generalize m.rows.length = nr at *
  obtain ⟨ns, hn⟩ : ∃ n, m.st.length = n := ⟨_, rfl⟩
  rw [hn] at HW0 HC HOk k0 hns
  rw [hn]
  clear hv hs hW0 hb0 hM hS hR hX hce hCL hse hsl hn hT
  go_enter Tryz.func19, Tryz.ntmps19
  go_wp2_with fail
  rw [HW0.out]
  (try go_wp2_with fail)
  (with_reducible refine HC.out.mono ?_)
  rintro e w1 ⟨hcase, hb⟩
  have HB1 := Lib.hid hb
  clear hb k0 k1 HC
  rcases hcase with ⟨rfl, gw, rfl, f, hI, hf⟩ | ⟨hne, rfl⟩
  case inr =>
    rcases HCe.out with rfl | rfl | rfl
    · exact absurd rfl hne
    · have HF := Lib.hid (show se = 1 ∧ sl = [] from by
        have h := HO.out.1
        simp at h
        exact ⟨h, by rw [HO.out.2, h]; simp⟩)
      clear hne
      go_wp2_with fail
      go_ret2
      exact ⟨⟨_, by rw [HF.out.1]; rfl, by rw [HF.out.2]; exact InSl.nil _ _, fun g e => by cases e⟩, HB0.out.trans (HB1.out.mono HB0.out.size)⟩
    · have HF := Lib.hid (show se = 30 ∧ sl = [] from by
        have h := HO.out.1
        simp at h
        exact ⟨h, by rw [HO.out.2, h]; simp⟩)
      clear hne
      go_wp2_with fail
      go_ret2
      exact ⟨⟨_, by rw [HF.out.1]; rfl, by rw [HF.out.2]; exact InSl.nil _ _, fun g e => by cases e⟩, HB0.out.trans (HB1.out.mono HB0.out.size)⟩
  case inl =>
  have HOk1 := Lib.hid (HOk.out rfl)
  have HE := Lib.hid (show se = (if (CL.all fun z => decide (z ≠ 0)) = true then 0 else 3) ∧ sl = (if se = 0 then CL.map leastI else []) from ⟨by rw [HO.out.1]; simp, HO.out.2⟩)
  have HF0 := Lib.hid hf
  have HI0 := Lib.hid (hI.low HB0.out)
  clear hI hf HO HOk HCe
  go_wp2_with fail
  go_loopw [24] (fun iv wr => ∃ (i : Nat) (g : Nat → Int), iv = .int .i64 (i : Int) ∧ i ≤ ns ∧ IwI w gw ns g wr ∧ Below w1.heap.size w1 w1 ∧ (∀ k, i ≤ k → g k = f k) ∧ (∀ k z, k < i → CL[k]? = some z → g k = leastI z) ∧ ((CL.take i).all fun z => decide (z ≠ 0)) = true ∧ TabH wr) (fun iv _ => ns - (intOf iv).toNat)
  case atStart => exact ⟨0, f, rfl, by omega, HI0.out, Below.refl _ _, fun k _ => rfl, fun k z h => absurd h (by omega), rfl, HT.out w1 HB1.out⟩
  case round =>
    obtain ⟨i, g, rfl, hin, hI, _, hg1, hg2, hg3, hT⟩ := hrel
    have HI := Lib.hid hI
    have HG := Lib.hid (And.intro hg1 (And.intro hg2 hg3))
    have HTw := Lib.hid hT
    clear hI hg1 hg2 hg3 hT
    by_cases hlt : i < ns
    · obtain ⟨z, hz⟩ : ∃ z, CL[i]? = some z := ⟨_, List.getElem?_eq_getElem (by have := HOk1.out.1; omega)⟩
      obtain ⟨hz0, hz1⟩ := HOk1.out.2 i z hz
      have hgz : g i = z := (HG.out.1 i (Nat.le_refl _)).trans (HF0.out i z hz)
      obtain ⟨n, rfl⟩ : ∃ n : Nat, z = (n : Int) := ⟨z.toNat, by omega⟩
      have hco := HI.out.cell hlt
      have hfz := HI.out.froz i
      rw [hgz] at hco
      rw [← add_zero_k gw i] at hco
      have hco2 := hco
      rw [add_zero_k] at hco2
      have HZ := Lib.hid hz
      clear hz hgz
      by_cases hn0 : n = 0
      · subst hn0
        have HF := Lib.hid (show se = 3 ∧ sl = [] from by
          have h : se = 3 := by rw [HE.out.1, all_false HZ.out (by simp)]; simp
          exact ⟨h, by rw [HE.out.2, h]; simp⟩)
        go_wp2_with fail
        go_ret2
        exact ⟨⟨_, by rw [HF.out.1]; rfl, by rw [HF.out.2]; exact InSl.nil _ _, fun g e => by cases e⟩, HI.out.bel⟩
      · have hni : ¬ (n : Int) = 0 := by omega
        have HTz := Lib.hid (Tz_any n wr HTw.out (by omega) (by omega))
        have hwz : IntKind.u64.wrap (n : Int) = (n : Int) := wrap_u64 (by omega)
        obtain ⟨t, ht⟩ : ∃ t, tzN n = t := ⟨_, rfl⟩
        have HTt := Lib.hid (show leastI (n : Int) = (t : Int) from by unfold leastI; simp [ht])
        rw [ht] at HTz
        have HIs := Lib.hid (HI.out.set i (t : Int))
        have HT2 := Lib.hid (show TabH (wr.setCell ⟨gw, i, none⟩ (.int .i64 (t : Int))) from fun k hk => by rw [World.cell?_of_block ((setCell_grown' wr gw i _).block 0 (World.block_lt_of_cell? _ _ (HTw.out k hk)) (by intro e; injection e with e; have := HI.out.base; have := HTl.out; omega))]; exact HTw.out k hk)
        clear ht hn0
        go_wp2_with fail
        (with_reducible refine HTz.out.mono ?_)
        rintro e w2 ⟨rfl, rfl⟩
        go_wp2_with fail
        go_roundw
        case rel => exact ⟨i + 1, _, by go_num, by omega, HIs.out, Below.refl _ _, fun k hk => by rw [upd_other _ _ (by omega)]; exact HG.out.1 k (by omega), fun k z hk hz => by
          by_cases e : k = i
          · subst e
            rw [HZ.out] at hz; injection hz with hz; subst hz
            rw [upd_same, HTt.out]
          · rw [upd_other _ _ e]; exact HG.out.2.1 k z (by omega) hz, by rw [all_take HZ.out, HG.out.2.2]; simp; omega, HT2.out⟩
        case measure => simp [intOf]; omega
    · obtain rfl : ns = i := by omega
      have HF := Lib.hid (show se = 0 ∧ sl = CL.map leastI from by
        have h : se = 0 := by rw [HE.out.1, all_end HOk1.out.1 HG.out.2.2]; simp
        exact ⟨h, by rw [HE.out.2, h]; simp⟩)
      have HSl := Lib.hid (HI.out.sl (by omega) (L := CL.map leastI) (by rw [List.length_map, HOk1.out.1]) (fun k x hx => by
        rw [List.getElem?_map] at hx
        cases hr : CL[k]? with
        | none => rw [hr] at hx; cases hx
        | some r =>
          rw [hr] at hx
          simp only [Option.map_some, Option.some.injEq] at hx
          rw [HG.out.2.1 k r (by have := (List.getElem?_eq_some_iff.1 hr).1; have := HOk1.out.1; omega) hr, hx]))
      go_wp2_with fail
      go_ret2
      exact ⟨⟨_, by rw [HF.out.1]; rfl, by rw [HF.out.2]; exact HSl.out, fun g e => by
        have : gw = g := by simpa [Value.ownBlock] using e
        have := HI.out.base
        omega⟩, HI.out.bel⟩
end Go.Proofs.YthfegbcbpeedbaaGreatDoor
namespace Go.Ky
open Go.Nm
def bitB (z : Int) (s : Nat) : Bool := z.toNat.testBit s
def bitI (z : Int) (s : Nat) : Int := if bitB z s = true then 1 else 0
theorem bit_eq {z : Int} (h : 0 ≤ z ∧ z ≤ 65535) (s : Nat) : bits BinOp.and IntKind.i64 (z / 2 ^ s) 1 = bitI z s := by
  obtain ⟨n, rfl⟩ : ∃ n : Nat, z = (n : Int) := ⟨z.toNat, by omega⟩
  have e : ((n : Int) / 2 ^ s) = ((n / 2 ^ s : Nat) : Int) := by simp
  have hd : n / 2 ^ s ≤ n := Nat.div_le_self _ _
  have h1 : bits BinOp.and IntKind.i64 ((n / 2 ^ s : Nat) : Int) 1 = ((n / 2 ^ s &&& 1 : Nat) : Int) := and_i64 (x := n / 2 ^ s) (y := 1) (by omega) (by decide)
  rw [e, h1]
  unfold bitI bitB
  rw [Int.toNat_natCast, Nat.testBit, Nat.shiftRight_eq_div_pow, Nat.and_comm 1]
  have h2 : (n / 2 ^ s &&& 1) = n / 2 ^ s % 2 := Nat.and_one_is_mod _
  rw [h2]
  rcases Nat.mod_two_eq_zero_or_one (n / 2 ^ s) with h3 | h3 <;> rw [h3] <;> rfl
def cntR (L : List Rw) (c : Nat) (set : Int) (s : Nat) : Int := (((L.filter fun r => bitB (meetF (r.may.getD c 0) set) s).length : Nat) : Int)
def worstF (L : List Rw) (c : Nat) (set : Int) : Int := ((List.range 16).map fun s => cntR L c set s).foldl max 0
theorem cnt_next {L : List Rw} {c : Nat} {set : Int} {s i : Nat} {r : Rw} (h : L[i]? = some r) : cntR (L.take (i + 1)) c set s = cntR (L.take i) c set s + bitI (meetF (r.may.getD c 0) set) s := by
  unfold cntR bitI
  rw [filter_take h, List.length_append]
  cases hb : bitB (meetF (r.may.getD c 0) set) s <;> simp
theorem cnt_le (L : List Rw) (c : Nat) (set : Int) (s : Nat) : 0 ≤ cntR L c set s ∧ cntR L c set s ≤ (L.length : Int) := by
  unfold cntR
  have := List.length_filter_le (fun r : Rw => bitB (meetF (r.may.getD c 0) set) s) L
  omega
theorem bitI_le (z : Int) (s : Nat) : 0 ≤ bitI z s ∧ bitI z s ≤ 1 := by unfold bitI; split <;> omega
end Go.Ky
namespace Go.Proofs.YthfegbcbpeedbaaGreatDoor
open Go.RowKit Go.Nm Go.Ky

theorem fold_take {L : List Int} {i : Nat} {x : Int} (h : L[i]? = some x) : (L.take (i + 1)).foldl max 0 = max ((L.take i).foldl max 0) x := by
  rw [show L.take (i + 1) = L.take i ++ [x] from by rw [List.take_add_one, h]; rfl, List.foldl_append]
  rfl
set_option maxRecDepth 100000 in
set_option maxHeartbeats 4000000 in
theorem greatest_any (u : Value) (L : List Int) (w : World) (hu : InSl w w.heap.size u L) (hn : L.length ≤ 1000000) :
    Calls Tryz.prog 95 #[u] w fun e w' => e = .returned (.int .i64 (L.foldl max 0)) ∧ w = w' := by
  obtain ⟨A, c, rfl, _⟩ := hu.form
  have HA := Lib.hid (show InA w w.heap.size A L from by obtain ⟨_, _, e, _, _, h⟩ := hu; cases e; exact h)
  obtain ⟨n, h⟩ : ∃ n, L.length = n := ⟨_, rfl⟩
  have HN := Lib.hid h
  obtain ⟨r, hr⟩ : ∃ r, L.foldl max 0 = r := ⟨_, rfl⟩
  have HR := Lib.hid hr
  rw [hr]
  rw [h] at hn ⊢
  clear hu h hr
  go_enter Tryz.func95, Tryz.ntmps95
  go_wp2_with fail
  go_loopw [3, 8] (fun ov iv wr => ∃ (i : Nat) (g : Int), iv = .int .i64 (i : Int) ∧ ov = .int .i64 g ∧ i ≤ n ∧ w = wr ∧ (L.take i).foldl max 0 = g) (fun _ iv _ => n - (intOf iv).toNat)
  case atStart => exact ⟨0, 0, rfl, rfl, by omega, rfl, rfl⟩
  case round =>
    obtain ⟨i, g, rfl, rfl, hin, rfl, hg⟩ := hrel
    have HG := Lib.hid hg
    clear hg
    by_cases hlt : i < n
    · obtain ⟨x, ad, hx, rfl, _, hcx⟩ := HA.out.at_ HN.out hlt
      have HX := Lib.hid (fold_take hx)
      clear hx
      go_wp2_with fail
      go_roundw
      case rel => exact ⟨i + 1, _, by go_num, rfl, by omega, by first | trivial | rfl, by rw [HX.out, HG.out]; first | rfl | omega⟩
      case measure => simp [intOf]; omega
    · obtain rfl : n = i := by omega
      have HF := Lib.hid (show g = r from by rw [← HG.out, ← HR.out, List.take_of_length_le (by have := HN.out; omega)])
      go_wp2_with fail
      go_ret
      exact ⟨by rw [← HF.out]; rfl, rfl⟩
/-- an array of numbers of the call's own -/
structure IwT (t : TypeId) (W : World) (gw n : Nat) (f : Nat → Int) (X : World) : Prop where
  bel : Below W.heap.size W X
  cs : ∃ cs : Array Value, X.heap[gw]? = some (.cells cs t) ∧ cs.size = n ∧ ∀ k, k < n → cs[k]? = some (.int .i64 (f k))
  base : W.heap.size ≤ gw
section
variable {t : TypeId} {W X Y : World} {gw n : Nat} {f : Nat → Int}
theorem IwT.step (h : IwT t W gw n f X) (hb : Below X.heap.size X Y) : IwT t W gw n f Y := by
  obtain ⟨cs, h1, h2⟩ := h.cs
  exact ⟨h.bel.trans (hb.mono h.bel.size), ⟨cs, (hb.block _ (Array.getElem?_eq_some_iff.1 h1).1).trans h1, h2⟩, h.base⟩
theorem IwT.start {W : World} {cs : Array Value} (h1 : cs.size = n) (h2 : ∀ k, k < n → cs[k]? = some (.int .i64 0)) : IwT t W W.heap.size n (fun _ => 0) (W.alloc (.cells cs t)) :=
  ⟨below_new _, ⟨cs, World.alloc_heap_new W _, h1, h2⟩, Nat.le_refl _⟩
theorem IwT.cell (h : IwT t W gw n f X) {k : Nat} (hk : k < n) : X.cell? ⟨gw, k, none⟩ = some (.int .i64 (f k)) := by
  obtain ⟨cs, h1, h2, h3⟩ := h.cs
  simp only [World.cell?, h1]
  exact h3 k hk
theorem IwT.froz (h : IwT t W gw n f X) (k : Nat) : X.frozen? ⟨gw, k, none⟩ = false := by
  obtain ⟨cs, h1, _⟩ := h.cs
  exact frozen_cells h1 k
theorem IwT.lt (h : IwT t W gw n f X) : gw < X.heap.size := by
  obtain ⟨cs, h1, _⟩ := h.cs
  exact (Array.getElem?_eq_some_iff.1 h1).1
theorem IwT.set (h : IwT t W gw n f X) (k : Nat) (z : Int) : IwT t W gw n (updP f k z) (X.setCell ⟨gw, k, none⟩ (.int .i64 z)) := by
  obtain ⟨cs, h1, h2, h3⟩ := h.cs
  refine ⟨h.bel.setCell h.base _, ⟨cs.setIfInBounds k (.int .i64 z), heap_setCell_same X gw k _ _ _ h1, by simp [h2], fun j hj => ?_⟩, h.base⟩
  unfold updP
  by_cases e : j = k
  · subst e
    rw [Array.getElem?_setIfInBounds_self_of_lt (by omega), if_pos rfl]
  · rw [Array.getElem?_setIfInBounds_ne (by omega), h3 j hj, if_neg e]
theorem IwT.sl (h : IwT t W gw n f X) (hn : n ≤ 1000000) {L : List Int} (hL : L.length = n) (hf : ∀ k x, L[k]? = some x → f k = x) : InSl X X.heap.size (.slice (some ⟨gw, 0, none⟩) n n) L :=
  ⟨some ⟨gw, 0, none⟩, n, by rw [hL], by omega, by unfold maxLen; omega, fun i x hx => by
    have hi : i < n := by have := (List.getElem?_eq_some_iff.1 hx).1; omega
    refine ⟨⟨gw, 0, none⟩, rfl, h.lt, ?_⟩
    rw [add_zero_k, h.cell hi, hf i x hx]⟩
end
set_option maxRecDepth 100000 in
set_option maxHeartbeats 8000000 in
theorem worst_any (v : Value) (L : List Rw) (c : Nat) (set : Int) (w : World) (hv : IlSl w w.heap.size v L) (hn : L.length ≤ 1000) (hs : 0 ≤ set ∧ set ≤ 65535) (hL : ∀ r ∈ L, ∃ y, r.may[c]? = some y ∧ 0 ≤ y ∧ y ≤ 65535) :
    Calls Tryz.prog 77 #[v, .int .i64 (c : Int), .int .i64 set] w fun e w' => e = .returned (.int .i64 (worstF L c set)) ∧ Below w.heap.size w w' := by
  have HU := Lib.hid hv
  have HLr := Lib.hid hL
  obtain ⟨A, cc, rfl⟩ := hv.form
  obtain ⟨n, h⟩ : ∃ n, L.length = n := ⟨_, rfl⟩
  have HN := Lib.hid h
  rw [h] at HU hn ⊢
  have HS := Lib.hid hs
  obtain ⟨res, hres⟩ : ∃ r, worstF L c set = r := ⟨_, rfl⟩
  have HRes := Lib.hid hres
  rw [hres]
  clear hv h hL hres hs
  have HI0 := Lib.hid (IwT.start (t := 130) (W := w) (n := 16) (cs := #[.int .i64 0, .int .i64 0, .int .i64 0, .int .i64 0, .int .i64 0, .int .i64 0, .int .i64 0, .int .i64 0, .int .i64 0, .int .i64 0, .int .i64 0, .int .i64 0, .int .i64 0, .int .i64 0, .int .i64 0, .int .i64 0]) rfl (fun k hk => by
    have h : ∀ i : Fin 16, (#[.int .i64 0, .int .i64 0, .int .i64 0, .int .i64 0, .int .i64 0, .int .i64 0, .int .i64 0, .int .i64 0, .int .i64 0, .int .i64 0, .int .i64 0, .int .i64 0, .int .i64 0, .int .i64 0, .int .i64 0, .int .i64 0] : Array Value)[i.val]? = some (.int .i64 0) := fun i => by
      obtain ⟨i, hi⟩ := i
      rcases (show i = 0 ∨ i = 1 ∨ i = 2 ∨ i = 3 ∨ i = 4 ∨ i = 5 ∨ i = 6 ∨ i = 7 ∨ i = 8 ∨ i = 9 ∨ i = 10 ∨ i = 11 ∨ i = 12 ∨ i = 13 ∨ i = 14 ∨ i = 15 by omega) with rfl | rfl | rfl | rfl | rfl | rfl | rfl | rfl | rfl | rfl | rfl | rfl | rfl | rfl | rfl | rfl <;> rfl
    exact h ⟨k, hk⟩))
  obtain ⟨gw, hgw⟩ : ∃ gw, w.heap.size = gw := ⟨_, rfl⟩
  have HGw := Lib.hid hgw
  go_enter Tryz.func77, Tryz.ntmps77
  go_wp2_with fail
  obtain ⟨W1, hW1⟩ : ∃ W1, w.alloc (.cells #[.int .i64 0, .int .i64 0, .int .i64 0, .int .i64 0, .int .i64 0, .int .i64 0, .int .i64 0, .int .i64 0, .int .i64 0, .int .i64 0, .int .i64 0, .int .i64 0, .int .i64 0, .int .i64 0, .int .i64 0, .int .i64 0] 130) = W1 := ⟨_, rfl⟩
  rw [hW1] at HI0 ⊢
  rw [hgw] at HI0
  (try rw [hgw])
  clear hgw hW1
  go_loopw [14] (fun iv wr => ∃ (i : Nat) (f : Nat → Int), iv = .int .i64 (i : Int) ∧ i ≤ n ∧ IwT 130 w gw 16 f wr ∧ ∀ s, s < 16 → f s = cntR (L.take i) c set s) (fun iv _ => n - (intOf iv).toNat)
  case atStart => exact ⟨0, _, rfl, by omega, HI0.out, fun s _ => by unfold cntR; simp⟩
  case round =>
    obtain ⟨i, f, rfl, hin, hI, hf⟩ := hrel
    have HI := Lib.hid hI
    have HF := Lib.hid hf
    clear hI hf
    by_cases hlt : i < n
    · obtain ⟨r, ad, Am, cm, hr, rfl, hY⟩ := HU.out.at_ hlt
      obtain ⟨⟨d0, d1⟩, _⟩ := hY wr HI.out.bel
      obtain ⟨y, hy, hy0⟩ := HLr.out r (List.mem_of_getElem? hr)
      have HY0 := Lib.hid hy0
      have hcl : c < r.may.length := (List.getElem?_eq_some_iff.1 hy).1
      have hIx := HI.out.step (below_new (.cells #[.int .i64 r.nm, .slice Am r.may.length cm] 58))
      have HIx := Lib.hid hIx
      have HR := Lib.hid hr
      obtain ⟨_, _, e, _, _, hA⟩ := (hY _ hIx.bel).2
      obtain ⟨y', ad2, hy', ha2, _, hcy⟩ := hA.at_ rfl hcl
      rw [hy] at hy'; injection hy' with hy'; subst hy'
      injection e with e1 e2 e3
      subst e1; subst ha2
      have HGd := Lib.hid (show r.may.getD c 0 = y from by rw [List.getD_eq_getElem?_getD, hy]; rfl)
      obtain ⟨q, hq⟩ : ∃ q, r.may.length = q := ⟨_, rfl⟩
      rw [hq] at d1 hcl HIx hcy
      obtain ⟨z, hz⟩ : ∃ z, bits BinOp.and IntKind.i64 y set = z := ⟨_, rfl⟩
      have HZ := Lib.hid (show meetF y set = z ∧ 0 ≤ z ∧ z ≤ 65535 from by
        have := meet_range (x := y) (y := set) hy0 HS.out
        have e : meetF y set = z := hz
        rw [e] at this
        exact ⟨e, this.1, this.2.1⟩)
      clear hr hY hIx hA hy hq e2 e3 hy0
      go_wp2_with fail
      obtain ⟨W2, hW2⟩ : ∃ W2, wr.alloc (.cells #[.int .i64 r.nm, .slice (some ad2) q cm] 58) = W2 := ⟨_, rfl⟩
      rw [hW2] at HIx ⊢
      clear hW2 hcy d0 d1 hz
      go_loopw [25] (fun sv wr2 => ∃ (s : Nat) (g : Nat → Int), sv = .int .i64 (s : Int) ∧ s ≤ 16 ∧ IwT 130 w gw 16 g wr2 ∧ (∀ k, k < s → g k = f k + bitI z k) ∧ ∀ k, s ≤ k → g k = f k) (fun sv _ => 16 - (intOf sv).toNat)
      case atStart => exact ⟨0, f, rfl, by omega, HIx.out, fun k h => absurd h (by omega), fun k _ => rfl⟩
      case round =>
        obtain ⟨s, g, rfl, hsn, hI2, hg1, hg2⟩ := hrel
        have HI2 := Lib.hid (hI2.step (Below.refl _ _).drew)
        have HG := Lib.hid (And.intro hg1 hg2)
        have HI2w := Lib.hid hI2
        clear hI2 hg1 hg2
        by_cases hlt2 : s < 16
        · have hco := HI2.out.cell hlt2
          have hfz := HI2.out.froz s
          obtain ⟨fv, hfv⟩ : ∃ fv, g s = fv := ⟨_, rfl⟩
          have hfb : 0 ≤ fv ∧ fv ≤ 1000 := by
            have h1 := HG.out.2 s (Nat.le_refl _)
            have h2 := HF.out s hlt2
            have h3 := cnt_le (L.take i) c set s
            have h4 := List.length_take_le i L
            omega
          rw [hfv] at hco
          obtain ⟨b, hb⟩ : ∃ b, bitI z s = b := ⟨_, rfl⟩
          have hbi : bits BinOp.and IntKind.i64 (z / 2 ^ s) 1 = b := by rw [bit_eq HZ.out.2, hb]
          have hbb : 0 ≤ b ∧ b ≤ 1 := by rw [← hb]; exact bitI_le z s
          have HV := Lib.hid (And.intro hfv hb)
          obtain ⟨hfb0, hfb1⟩ := hfb
          obtain ⟨hbb0, hbb1⟩ := hbb
          have hsi : (s : Int) < 16 := by omega
          clear hfv hb
          go_wp2_with fail
          refine wp_region_tail 9 (by kernel_rfl) (by kernel_rfl) ?_
          simp only [List.take_succ_cons, List.take_zero, List.drop_succ_cons, List.drop_zero]
          iterate 9 ((with_reducible refine wpStill_step ?_); intro K hK; go_simp; (try (refine ite_neg_of (by simp [undef] <;> assumption) ?_)); (with_reducible refine hK _ ?_); clear hK K)
          (with_reducible refine wpStill_nil ?_)
          go_wp2_with fail
          go_roundw
          case rel => exact ⟨s + 1, _, by go_num, by omega, HI2.out.set s (fv + b), fun k hk => by
            by_cases e : k = s
            · subst e
              rw [upd_same, ← HV.out.1, HV.out.2, HG.out.2 k (Nat.le_refl _)]
            · rw [upd_other _ _ e]; exact HG.out.1 k (by omega), fun k hk => by rw [upd_other _ _ (by omega)]; exact HG.out.2 k (by omega)⟩
          case measure => simp [intOf]; omega
        · obtain rfl : 16 = s := by omega
          go_wp2_with fail
          go_roundw
          case rel => exact ⟨i + 1, g, by go_num, by omega, HI2w.out, fun s hs => by rw [HG.out.1 s hs, HF.out s hs, cnt_next HR.out, HGd.out, HZ.out.1]⟩
          case measure => simp [intOf]; omega
    · obtain rfl : n = i := by omega
      have HGr := Lib.hid (greatest_any (.slice (some ⟨gw, 0, none⟩) 16 16) ((List.range 16).map fun s => cntR L c set s) wr (HI.out.sl (by omega) (by simp) (fun k x hx => by
        rw [List.getElem?_map] at hx
        have hk : k < 16 := by
          by_cases h : k < 16
          · exact h
          · rw [List.getElem?_eq_none (by simp; omega)] at hx; simp at hx
        rw [List.getElem?_range hk] at hx
        simp only [Option.map_some, Option.some.injEq] at hx
        rw [HF.out k hk, ← hx, List.take_of_length_le (by have := HN.out; omega)])) (by simp))
      have HE := Lib.hid (show ((List.range 16).map fun s => cntR L c set s).foldl max 0 = res from HRes.out)
      rw [HE.out] at HGr
      go_wp2_with fail
      (with_reducible refine HGr.out.mono ?_)
      rintro e w2 ⟨rfl, rfl⟩
      go_wp2_with fail
      go_ret
      exact ⟨rfl, HI.out.bel⟩
end Go.Proofs.YthfegbcbpeedbaaGreatDoor
namespace Go.Ky
open Go.Nm
theorem mx_all {m : Mx} (h : mxF m = true) : chrF m.st = true ∧ m.rows.length ≤ 400 ∧ ∀ r ∈ m.rows, setsF m.st r.may = true := by
  unfold mxF rowsF at h
  simp only [Bool.and_eq_true, decide_eq_true_eq] at h
  exact ⟨h.1, h.2.1, fun r hr => (List.all_eq_true.1 h.2.2.2) r hr⟩
theorem sets_len' {st l : List Int} (h : setsF st l = true) : l.length = st.length := by
  unfold setsF at h
  rw [Bool.and_eq_true] at h
  exact of_decide_eq_true h.1
def p1 (x : Nat) : Nat := (x / 2 &&& 6148914691236517205) + (x &&& 6148914691236517205)
def p2 (x : Nat) : Nat := (x / 4 &&& 3689348814741910323) + (x &&& 3689348814741910323)
def p3 (x : Nat) : Nat := (x / 16 + x) &&& 1085102592571150095
def popN (x : Nat) : Nat := (let x3 := p3 (p2 (p1 x)); let x4 := x3 + x3 / 256; let x5 := x4 + x4 / 65536; x5 + x5 / 4294967296) &&& 127
def decZ (z : Int) : Bool := decide (popN z.toNat = 1)
def popB (x : Nat) : Bool := Nat.beq x 0 || ((Nat.beq (popN x) 1) == (Nat.beq x (2 ^ tzN x)))
theorem popB_all : chk2 popB 16 0 = true := by kernel_rfl
/-- one bit: it is the least -/
theorem dec_iff {x : Nat} (h0 : 0 < x) (h : x < 65536) : popN x = 1 ↔ x = 2 ^ tzN x := by
  have h1 := chk2_all popB 16 0 popB_all x (by omega) (by omega)
  unfold popB at h1
  rw [Bool.or_eq_true] at h1
  rcases h1 with h1 | h1
  · have := Nat.eq_of_beq_eq_true h1; omega
  · have h2 : Nat.beq (popN x) 1 = Nat.beq x (2 ^ tzN x) := by simpa using h1
    constructor
    · intro h3
      exact Nat.eq_of_beq_eq_true (h2.symm.trans (by rw [h3]; rfl))
    · intro h3
      exact Nat.eq_of_beq_eq_true (h2.trans (by rw [← h3]; exact Nat.beq_refl x))
end Go.Ky
namespace Go.Proofs.YthfegbcbpeedbaaGreatDoor
open Go.RowKit Go.Nm Go.Ky

set_option maxRecDepth 100000 in
set_option maxHeartbeats 8000000 in
theorem Ones64_any (x : Nat) (w : World) (hx : x < 65536) :
    Calls Tryz.prog 97 #[.int .u64 (x : Int)] w fun e w' => e = .returned (.int .i64 ((popN x : Nat) : Int)) ∧ w = w' := by
  obtain ⟨q1, hq1⟩ : ∃ n, x / 2 = n := ⟨_, rfl⟩
  have bq1 : q1 ≤ 40000 := by rw [← hq1]; omega
  have sq1 : (x : Int) / 2 ^ 1 = (q1 : Int) := by omega
  have sq1b : (x : Int) / 2 = (q1 : Int) := by omega
  obtain ⟨a1, ha1⟩ : ∃ n, q1 &&& 6148914691236517205 = n := ⟨_, rfl⟩
  have ba1 : a1 ≤ 40000 := by rw [← ha1]; have := Nat.and_le_left (n := q1) (m := 6148914691236517205); omega
  have aa1 : bits BinOp.and IntKind.u64 (q1 : Int) 6148914691236517205 = (a1 : Int) := by rw [← ha1]; exact and_u64 (x := q1) (y := 6148914691236517205) (by omega) (by decide)
  obtain ⟨c1, hc1⟩ : ∃ n, x &&& 6148914691236517205 = n := ⟨_, rfl⟩
  have bc1 : c1 ≤ 65535 := by rw [← hc1]; have := Nat.and_le_left (n := x) (m := 6148914691236517205); omega
  have ac1 : bits BinOp.and IntKind.u64 (x : Int) 6148914691236517205 = (c1 : Int) := by rw [← hc1]; exact and_u64 (x := x) (y := 6148914691236517205) (by omega) (by decide)
  obtain ⟨x1, hx1⟩ : ∃ n, a1 + c1 = n := ⟨_, rfl⟩
  have bx1 : x1 ≤ 110000 := by rw [← hx1]; omega
  have wx1 : IntKind.u64.wrap ((a1 : Int) + (c1 : Int)) = (x1 : Int) := by rw [show (a1 : Int) + (c1 : Int) = (x1 : Int) from by omega]; exact wrap_u64 (by omega)
  have vx1 : (a1 : Int) + (c1 : Int) = (x1 : Int) := by omega
  obtain ⟨q2, hq2⟩ : ∃ n, x1 / 4 = n := ⟨_, rfl⟩
  have bq2 : q2 ≤ 30000 := by rw [← hq2]; omega
  have sq2 : (x1 : Int) / 2 ^ 2 = (q2 : Int) := by omega
  have sq2b : (x1 : Int) / 4 = (q2 : Int) := by omega
  obtain ⟨a2, ha2⟩ : ∃ n, q2 &&& 3689348814741910323 = n := ⟨_, rfl⟩
  have ba2 : a2 ≤ 30000 := by rw [← ha2]; have := Nat.and_le_left (n := q2) (m := 3689348814741910323); omega
  have aa2 : bits BinOp.and IntKind.u64 (q2 : Int) 3689348814741910323 = (a2 : Int) := by rw [← ha2]; exact and_u64 (x := q2) (y := 3689348814741910323) (by omega) (by decide)
  obtain ⟨c2, hc2⟩ : ∃ n, x1 &&& 3689348814741910323 = n := ⟨_, rfl⟩
  have bc2 : c2 ≤ 110000 := by rw [← hc2]; have := Nat.and_le_left (n := x1) (m := 3689348814741910323); omega
  have ac2 : bits BinOp.and IntKind.u64 (x1 : Int) 3689348814741910323 = (c2 : Int) := by rw [← hc2]; exact and_u64 (x := x1) (y := 3689348814741910323) (by omega) (by decide)
  obtain ⟨x2, hx2⟩ : ∃ n, a2 + c2 = n := ⟨_, rfl⟩
  have bx2 : x2 ≤ 140000 := by rw [← hx2]; omega
  have wx2 : IntKind.u64.wrap ((a2 : Int) + (c2 : Int)) = (x2 : Int) := by rw [show (a2 : Int) + (c2 : Int) = (x2 : Int) from by omega]; exact wrap_u64 (by omega)
  have vx2 : (a2 : Int) + (c2 : Int) = (x2 : Int) := by omega
  obtain ⟨q3, hq3⟩ : ∃ n, x2 / 16 = n := ⟨_, rfl⟩
  have bq3 : q3 ≤ 10000 := by rw [← hq3]; omega
  have sq3 : (x2 : Int) / 2 ^ 4 = (q3 : Int) := by omega
  have sq3b : (x2 : Int) / 16 = (q3 : Int) := by omega
  obtain ⟨y3, hy3⟩ : ∃ n, q3 + x2 = n := ⟨_, rfl⟩
  have by3 : y3 ≤ 150000 := by rw [← hy3]; omega
  have wy3 : IntKind.u64.wrap ((q3 : Int) + (x2 : Int)) = (y3 : Int) := by rw [show (q3 : Int) + (x2 : Int) = (y3 : Int) from by omega]; exact wrap_u64 (by omega)
  have vy3 : (q3 : Int) + (x2 : Int) = (y3 : Int) := by omega
  obtain ⟨x3, hx3⟩ : ∃ n, y3 &&& 1085102592571150095 = n := ⟨_, rfl⟩
  have bx3 : x3 ≤ 150000 := by rw [← hx3]; have := Nat.and_le_left (n := y3) (m := 1085102592571150095); omega
  have ax3 : bits BinOp.and IntKind.u64 (y3 : Int) 1085102592571150095 = (x3 : Int) := by rw [← hx3]; exact and_u64 (x := y3) (y := 1085102592571150095) (by omega) (by decide)
  obtain ⟨q4, hq4⟩ : ∃ n, x3 / 256 = n := ⟨_, rfl⟩
  have bq4 : q4 ≤ 600 := by rw [← hq4]; omega
  have sq4 : (x3 : Int) / 2 ^ 8 = (q4 : Int) := by omega
  have sq4b : (x3 : Int) / 256 = (q4 : Int) := by omega
  obtain ⟨x4, hx4⟩ : ∃ n, x3 + q4 = n := ⟨_, rfl⟩
  have bx4 : x4 ≤ 151000 := by rw [← hx4]; omega
  have wx4 : IntKind.u64.wrap ((x3 : Int) + (q4 : Int)) = (x4 : Int) := by rw [show (x3 : Int) + (q4 : Int) = (x4 : Int) from by omega]; exact wrap_u64 (by omega)
  have vx4 : (x3 : Int) + (q4 : Int) = (x4 : Int) := by omega
  obtain ⟨q5, hq5⟩ : ∃ n, x4 / 65536 = n := ⟨_, rfl⟩
  have bq5 : q5 ≤ 3 := by rw [← hq5]; omega
  have sq5 : (x4 : Int) / 2 ^ 16 = (q5 : Int) := by omega
  have sq5b : (x4 : Int) / 65536 = (q5 : Int) := by omega
  obtain ⟨x5, hx5⟩ : ∃ n, x4 + q5 = n := ⟨_, rfl⟩
  have bx5 : x5 ≤ 152000 := by rw [← hx5]; omega
  have wx5 : IntKind.u64.wrap ((x4 : Int) + (q5 : Int)) = (x5 : Int) := by rw [show (x4 : Int) + (q5 : Int) = (x5 : Int) from by omega]; exact wrap_u64 (by omega)
  have vx5 : (x4 : Int) + (q5 : Int) = (x5 : Int) := by omega
  obtain ⟨q6, hq6⟩ : ∃ n, x5 / 4294967296 = n := ⟨_, rfl⟩
  have bq6 : q6 ≤ 0 := by rw [← hq6]; omega
  have sq6 : (x5 : Int) / 2 ^ 32 = (q6 : Int) := by omega
  have sq6b : (x5 : Int) / 4294967296 = (q6 : Int) := by omega
  obtain ⟨x6, hx6⟩ : ∃ n, x5 + q6 = n := ⟨_, rfl⟩
  have bx6 : x6 ≤ 153000 := by rw [← hx6]; omega
  have wx6 : IntKind.u64.wrap ((x5 : Int) + (q6 : Int)) = (x6 : Int) := by rw [show (x5 : Int) + (q6 : Int) = (x6 : Int) from by omega]; exact wrap_u64 (by omega)
  have vx6 : (x5 : Int) + (q6 : Int) = (x6 : Int) := by omega
  obtain ⟨r, hr⟩ : ∃ n, x6 &&& 127 = n := ⟨_, rfl⟩
  have ar : bits BinOp.and IntKind.i64 (x6 : Int) 127 = (r : Int) := by rw [← hr]; exact and_i64 (x := x6) (y := 127) (by omega) (by decide)
  have cw : IntKind.i64.wrap (x6 : Int) = (x6 : Int) := by rw [IntKind.wrap_i64]; omega
  have HR := Lib.hid (show popN x = r from by
    have e1 : p1 x = x1 := by unfold p1; rw [hq1, ha1, hc1, hx1]
    have e2 : p2 x1 = x2 := by unfold p2; rw [hq2, ha2, hc2, hx2]
    have e3 : p3 x2 = x3 := by unfold p3; rw [hq3, hy3, hx3]
    unfold popN
    simp only [e1, e2, e3, hq4, hx4, hq5, hx5, hq6, hx6, hr])
  rw [HR.out]
  clear hq1 ha1 hc1 hx1 hq2 ha2 hc2 hx2 hq3 hy3 hx3 hq4 hx4 hq5 hx5 hq6 hx6 hr HR vx1 vx2 vy3 vx4 vx5 vx6
  go_enter Tryz.func97, Tryz.ntmps97
  go_wp2_with fail
  go_ret
  exact ⟨rfl, rfl⟩
set_option maxRecDepth 100000 in
set_option maxHeartbeats 4000000 in
theorem Ones_any (x : Nat) (w : World) (hx : x < 65536) :
    Calls Tryz.prog 78 #[.int .u64 (x : Int)] w fun e w' => e = .returned (.int .i64 ((popN x : Nat) : Int)) ∧ w = w' := by
  have HC := Lib.hid (Ones64_any x w hx)
  clear hx
  go_enter Tryz.func78, Tryz.ntmps78
  go_wp2_with fail
  (with_reducible refine HC.out.mono ?_)
  rintro e w1 ⟨rfl, rfl⟩
  go_wp2_with fail
  go_ret
  exact ⟨rfl, rfl⟩
set_option maxRecDepth 100000 in
set_option maxHeartbeats 4000000 in
theorem isDecided_any (z : Int) (w : World) (hz : 0 ≤ z ∧ z ≤ 65535) :
    Calls Tryz.prog 46 #[.int .i64 z] w fun e w' => e = .returned (.bool (decZ z)) ∧ w = w' := by
  obtain ⟨n, rfl⟩ : ∃ n : Nat, z = (n : Int) := ⟨z.toNat, by omega⟩
  have HC := Lib.hid (Ones_any n w (by omega))
  have hwz : IntKind.u64.wrap (n : Int) = (n : Int) := wrap_u64 (by omega)
  have HD := Lib.hid (show decZ (n : Int) = decide (popN n = 1) from by unfold decZ; rw [Int.toNat_natCast])
  rw [HD.out]
  obtain ⟨p, hp⟩ : ∃ p, popN n = p := ⟨_, rfl⟩
  rw [hp] at HC ⊢
  clear hz hp
  go_enter Tryz.func46, Tryz.ntmps46
  go_wp2_with fail
  (with_reducible refine HC.out.mono ?_)
  rintro e w1 ⟨rfl, rfl⟩
  go_wp2_with fail
  go_ret
  exact ⟨by
    have e : decide (p = 1) = decide ((p : Int) = 1) := decide_eq_decide.2 (by omega)
    rw [e]; first | rfl | simp, rfl⟩
set_option maxRecDepth 100000 in
set_option maxHeartbeats 4000000 in
/-- the closure of Best -/
theorem best1_any (c : Nat) (g : Nat) (v : Value) (l : List Int) (x : Int) (w : World) (hg : w.cell? ⟨g, 0, none⟩ = some v) (hv : InSl w w.heap.size v l) (hx : l[c]? = some x) (hr : 0 ≤ x ∧ x ≤ 65535) :
    Calls Tryz.prog 45 #[.int .i64 (c : Int), .pointer (some ⟨g, 0, none⟩)] w fun e w' => e = .returned (.bool (!decZ x)) ∧ w = w' := by
  obtain ⟨A, cc, rfl, _⟩ := hv.form
  have hA : InA w w.heap.size A l := by obtain ⟨_, _, e, _, _, h⟩ := hv; cases e; exact h
  have hlt : c < l.length := (List.getElem?_eq_some_iff.1 hx).1
  obtain ⟨x', ad, hx', rfl, _, hcx⟩ := hA.at_ rfl hlt
  rw [hx] at hx'; injection hx' with hx'; subst hx'
  have HC := Lib.hid (isDecided_any x w hr)
  generalize l.length = n at *
  obtain ⟨d, hd⟩ : ∃ d, decZ x = d := ⟨_, rfl⟩
  rw [hd] at HC ⊢
  clear hA hv hx hr hd
  go_enter Tryz.func45, Tryz.ntmps45
  go_wp2_with fail
  (with_reducible refine HC.out.mono ?_)
  rintro e w1 ⟨rfl, rfl⟩
  go_wp2_with fail
  go_ret
  exact ⟨rfl, rfl⟩
end Go.Proofs.YthfegbcbpeedbaaGreatDoor
namespace Go.Ky
open Go.Nm
def bestStep (L : List Rw) (l : List Int) (P : Nat → Bool) (c : Nat) (st : Int × Bool × Int) : Int × Bool × Int :=
  if P c = true then (if (!st.2.1 || decide (worstF L c (l.getD c 0) < st.2.2)) = true then ((c : Int), true, worstF L c (l.getD c 0)) else st) else st
def bestS (L : List Rw) (l : List Int) (P : Nat → Bool) : Nat → Int × Bool × Int
  | 0 => (0, false, 0)
  | c + 1 => bestStep L l P c (bestS L l P c)
theorem bestS_next (L : List Rw) (l : List Int) (P : Nat → Bool) (c : Nat) : bestS L l P (c + 1) = bestStep L l P c (bestS L l P c) := rfl
def bestE (m : Mx) (l : List Int) : Int := if seenE m [l] = 0 then (if (bestS (remL m.rows l) l (fun c => !decZ (l.getD c 0)) l.length).2.1 = true then 0 else 3) else seenE m [l]
def bestC (m : Mx) (l : List Int) : Int := if bestE m l = 0 then (bestS (remL m.rows l) l (fun c => !decZ (l.getD c 0)) l.length).1 else 0
theorem bestS_zero (L : List Rw) (l : List Int) (P : Nat → Bool) : ∀ n, (bestS L l P n).2.1 = false → (bestS L l P n).1 = 0
  | 0, _ => rfl
  | n + 1, h => by
    rw [bestS_next] at h ⊢
    unfold bestStep at h ⊢
    split at h
    · rename_i hp
      rw [if_pos hp]
      split at h
      · cases h
      · rename_i hq
        rw [if_neg hq]
        exact bestS_zero L l P n h
    · rename_i hp
      rw [if_neg hp]
      exact bestS_zero L l P n h
end Go.Ky
namespace Go.Proofs.YthfegbcbpeedbaaGreatDoor
open Go.RowKit Go.Nm Go.Ky

set_option maxRecDepth 100000 in
set_option maxHeartbeats 8000000 in
theorem bestB_any (g : Nat) (v u : Value) (L : List Rw) (l : List Int) (P : Nat → Bool) (w : World) (hv : IlSl w w.heap.size v L) (hu : InSl w w.heap.size u l) (hn : L.length ≤ 1000) (hl : l.length ≤ 1000) (hs : ∀ (k : Nat) (x : Int), l[k]? = some x → 0 ≤ x ∧ x ≤ 65535) (hL : ∀ r ∈ L, ∀ c < l.length, ∃ y, r.may[c]? = some y ∧ 0 ≤ y ∧ y ≤ 65535)
    (hF : ∀ X, Below w.heap.size w X → ∀ (c : Nat) (x : Int), l[c]? = some x → Calls Tryz.prog 45 #[.int .i64 (c : Int), .pointer (some ⟨g, 0, none⟩)] X fun e w' => e = .returned (.bool (P c)) ∧ Below X.heap.size X w') :
    Calls Tryz.prog 44 #[v, u, .func (.func 45) #[] #[.pointer (some ⟨g, 0, none⟩)]] w fun e w' => e = .returned (.tuple #[.int .i64 (bestS L l P l.length).1, .bool (bestS L l P l.length).2.1]) ∧ Below w.heap.size w w' := by
  have HU := Lib.hid hv
  have HT := Lib.hid hu
  have HF := Lib.hid hF
  have HS := Lib.hid hs
  have HLc := Lib.hid hL
  have HWo := Lib.hid (fun Y (h : Below w.heap.size w Y) (c : Nat) (x : Int) (hx : l[c]? = some x) => worst_any v L c x Y (((hv.below h).mono h.size)) hn (hs c x hx) (fun r hr => hL r hr c (List.getElem?_eq_some_iff.1 hx).1))
  obtain ⟨A, cc, rfl⟩ := hv.form
  obtain ⟨Al, cl, rfl, _⟩ := hu.form
  obtain ⟨nl, hnl⟩ : ∃ nl, l.length = nl := ⟨_, rfl⟩
  have HNl := Lib.hid hnl
  obtain ⟨n, h⟩ : ∃ n, L.length = n := ⟨_, rfl⟩
  rw [h] at HU HWo hn ⊢
  rw [hnl] at HT hl ⊢
  clear hv hu h hF hs hL hnl
  go_enter Tryz.func44, Tryz.ntmps44
  go_wp2_with fail
  go_loopw [6, 7, 8, 14] (fun cv fv lv iv wr => ∃ (i : Nat) (st : Int × Bool × Int), iv = .int .i64 (i : Int) ∧ cv = .int .i64 st.1 ∧ fv = .bool st.2.1 ∧ lv = .int .i64 st.2.2 ∧ i ≤ nl ∧ Below w.heap.size w wr ∧ bestS L l P i = st) (fun _ _ _ iv _ => nl - (intOf iv).toNat)
  case atStart => exact ⟨0, (0, false, 0), rfl, rfl, rfl, rfl, by omega, Below.refl _ _, rfl⟩
  case round =>
    obtain ⟨i, ⟨bc, bf, bl⟩, rfl, rfl, rfl, rfl, hin, hb, hst⟩ := hrel
    have HB := Lib.hid hb
    have HSt := Lib.hid hst
    clear hb hst
    simp only at *
    by_cases hlt : i < nl
    · have HA := Lib.hid (show InA wr wr.heap.size Al l from by obtain ⟨_, _, e, _, _, h⟩ := HT.out.step HB.out; cases e; exact h)
      obtain ⟨x, ad, hx, rfl, _, hcx⟩ := HA.out.at_ HNl.out hlt
      have HX := Lib.hid hx
      have HFi := Lib.hid (HF.out wr HB.out i x hx)
      have HN1 := Lib.hid (show bestS L l P (i + 1) = bestStep L l P i (bc, bf, bl) from by rw [← HSt.out]; exact bestS_next L l P i)
      clear hx
      go_wp2_with fail
      (with_reducible refine HFi.out.mono ?_)
      rintro e w1 ⟨rfl, hb⟩
      have HB1 := Lib.hid (HB.out.trans (hb.mono HB.out.size))
      clear hb HFi
      cases hp : P i with
      | false =>
        have HR := Lib.hid (show bestS L l P (i + 1) = (bc, bf, bl) from by rw [HN1.out]; unfold bestStep; rw [hp]; rfl)
        clear hp
        go_wp2_with fail
        go_roundw
        case rel => exact ⟨i + 1, (bc, bf, bl), by go_num, rfl, rfl, rfl, by omega, HB1.out, HR.out⟩
        case measure => simp [intOf]; omega
      | true =>
        have HW := Lib.hid (HWo.out w1 HB1.out i x HX.out)
        have HG := Lib.hid (show l.getD i 0 = x from by rw [List.getD_eq_getElem?_getD, HX.out]; rfl)
        have HR0 := Lib.hid (show bestS L l P (i + 1) = (if (!bf || decide (worstF L i x < bl)) = true then ((i : Int), true, worstF L i x) else (bc, bf, bl)) from by rw [HN1.out]; unfold bestStep; rw [hp, HG.out]; rfl)
        obtain ⟨wv, hwv⟩ : ∃ wv, worstF L i x = wv := ⟨_, rfl⟩
        rw [hwv] at HW HR0
        clear hp hwv
        go_wp2_with fail
        (with_reducible refine HW.out.mono ?_)
        rintro e w2 ⟨rfl, hb⟩
        have HB2 := Lib.hid (HB1.out.trans (hb.mono HB1.out.size))
        clear hb HW
        cases bf with
        | false =>
          have HR := Lib.hid (show bestS L l P (i + 1) = ((i : Int), true, wv) from by rw [HR0.out]; simp)
          go_wp2_with fail
          go_roundw
          case rel => exact ⟨i + 1, ((i : Int), true, wv), by go_num, rfl, rfl, rfl, by omega, HB2.out, HR.out⟩
          case measure => simp [intOf]; omega
        | true =>
          by_cases hlw : wv < bl
          · have HR := Lib.hid (show bestS L l P (i + 1) = ((i : Int), true, wv) from by rw [HR0.out]; simp [hlw])
            go_wp2_with fail
            go_roundw
            case rel => exact ⟨i + 1, ((i : Int), true, wv), by go_num, rfl, rfl, rfl, by omega, HB2.out, HR.out⟩
            case measure => simp [intOf]; omega
          · have HR := Lib.hid (show bestS L l P (i + 1) = (bc, true, bl) from by rw [HR0.out]; simp [hlw])
            go_wp2_with fail
            go_roundw
            case rel => exact ⟨i + 1, (bc, true, bl), by go_num, rfl, rfl, rfl, by omega, HB2.out, HR.out⟩
            case measure => simp [intOf]; omega
    · obtain rfl : nl = i := by omega
      go_wp2_with fail
      go_ret2
      exact ⟨by rw [HSt.out]; rfl, HB.out⟩
set_option maxRecDepth 100000 in
set_option maxHeartbeats 8000000 in
theorem bestG_any (g1 g2 : Nat) (v u : Value) (L : List Rw) (l : List Int) (P : Nat → Bool) (w : World) (hv : IlSl w w.heap.size v L) (hu : InSl w w.heap.size u l) (hn : L.length ≤ 1000) (hl : l.length ≤ 1000) (hs : ∀ (k : Nat) (x : Int), l[k]? = some x → 0 ≤ x ∧ x ≤ 65535) (hL : ∀ r ∈ L, ∀ c < l.length, ∃ y, r.may[c]? = some y ∧ 0 ≤ y ∧ y ≤ 65535)
    (hF : ∀ X, Below w.heap.size w X → ∀ (c : Nat) (x : Int), l[c]? = some x → Calls Tryz.prog 80 #[.int .i64 (c : Int), .pointer (some ⟨g1, 0, none⟩), .pointer (some ⟨g2, 0, none⟩)] X fun e w' => e = .returned (.bool (P c)) ∧ Below X.heap.size X w') :
    Calls Tryz.prog 44 #[v, u, .func (.func 80) #[] #[.pointer (some ⟨g1, 0, none⟩), .pointer (some ⟨g2, 0, none⟩)]] w fun e w' => e = .returned (.tuple #[.int .i64 (bestS L l P l.length).1, .bool (bestS L l P l.length).2.1]) ∧ Below w.heap.size w w' := by
  have HU := Lib.hid hv
  have HT := Lib.hid hu
  have HF := Lib.hid hF
  have HS := Lib.hid hs
  have HLc := Lib.hid hL
  have HWo := Lib.hid (fun Y (h : Below w.heap.size w Y) (c : Nat) (x : Int) (hx : l[c]? = some x) => worst_any v L c x Y (((hv.below h).mono h.size)) hn (hs c x hx) (fun r hr => hL r hr c (List.getElem?_eq_some_iff.1 hx).1))
  obtain ⟨A, cc, rfl⟩ := hv.form
  obtain ⟨Al, cl, rfl, _⟩ := hu.form
  obtain ⟨nl, hnl⟩ : ∃ nl, l.length = nl := ⟨_, rfl⟩
  have HNl := Lib.hid hnl
  obtain ⟨n, h⟩ : ∃ n, L.length = n := ⟨_, rfl⟩
  rw [h] at HU HWo hn ⊢
  rw [hnl] at HT hl ⊢
  clear hv hu h hF hs hL hnl
  go_enter Tryz.func44, Tryz.ntmps44
  go_wp2_with fail
  go_loopw [6, 7, 8, 14] (fun cv fv lv iv wr => ∃ (i : Nat) (st : Int × Bool × Int), iv = .int .i64 (i : Int) ∧ cv = .int .i64 st.1 ∧ fv = .bool st.2.1 ∧ lv = .int .i64 st.2.2 ∧ i ≤ nl ∧ Below w.heap.size w wr ∧ bestS L l P i = st) (fun _ _ _ iv _ => nl - (intOf iv).toNat)
  case atStart => exact ⟨0, (0, false, 0), rfl, rfl, rfl, rfl, by omega, Below.refl _ _, rfl⟩
  case round =>
    obtain ⟨i, ⟨bc, bf, bl⟩, rfl, rfl, rfl, rfl, hin, hb, hst⟩ := hrel
    have HB := Lib.hid hb
    have HSt := Lib.hid hst
    clear hb hst
    simp only at *
    by_cases hlt : i < nl
    · have HA := Lib.hid (show InA wr wr.heap.size Al l from by obtain ⟨_, _, e, _, _, h⟩ := HT.out.step HB.out; cases e; exact h)
      obtain ⟨x, ad, hx, rfl, _, hcx⟩ := HA.out.at_ HNl.out hlt
      have HX := Lib.hid hx
      have HFi := Lib.hid (HF.out wr HB.out i x hx)
      have HN1 := Lib.hid (show bestS L l P (i + 1) = bestStep L l P i (bc, bf, bl) from by rw [← HSt.out]; exact bestS_next L l P i)
      clear hx
      go_wp2_with fail
      (with_reducible refine HFi.out.mono ?_)
      rintro e w1 ⟨rfl, hb⟩
      have HB1 := Lib.hid (HB.out.trans (hb.mono HB.out.size))
      clear hb HFi
      cases hp : P i with
      | false =>
        have HR := Lib.hid (show bestS L l P (i + 1) = (bc, bf, bl) from by rw [HN1.out]; unfold bestStep; rw [hp]; rfl)
        clear hp
        go_wp2_with fail
        go_roundw
        case rel => exact ⟨i + 1, (bc, bf, bl), by go_num, rfl, rfl, rfl, by omega, HB1.out, HR.out⟩
        case measure => simp [intOf]; omega
      | true =>
        have HW := Lib.hid (HWo.out w1 HB1.out i x HX.out)
        have HG := Lib.hid (show l.getD i 0 = x from by rw [List.getD_eq_getElem?_getD, HX.out]; rfl)
        have HR0 := Lib.hid (show bestS L l P (i + 1) = (if (!bf || decide (worstF L i x < bl)) = true then ((i : Int), true, worstF L i x) else (bc, bf, bl)) from by rw [HN1.out]; unfold bestStep; rw [hp, HG.out]; rfl)
        obtain ⟨wv, hwv⟩ : ∃ wv, worstF L i x = wv := ⟨_, rfl⟩
        rw [hwv] at HW HR0
        clear hp hwv
        go_wp2_with fail
        (with_reducible refine HW.out.mono ?_)
        rintro e w2 ⟨rfl, hb⟩
        have HB2 := Lib.hid (HB1.out.trans (hb.mono HB1.out.size))
        clear hb HW
        cases bf with
        | false =>
          have HR := Lib.hid (show bestS L l P (i + 1) = ((i : Int), true, wv) from by rw [HR0.out]; simp)
          go_wp2_with fail
          go_roundw
          case rel => exact ⟨i + 1, ((i : Int), true, wv), by go_num, rfl, rfl, rfl, by omega, HB2.out, HR.out⟩
          case measure => simp [intOf]; omega
        | true =>
          by_cases hlw : wv < bl
          · have HR := Lib.hid (show bestS L l P (i + 1) = ((i : Int), true, wv) from by rw [HR0.out]; simp [hlw])
            go_wp2_with fail
            go_roundw
            case rel => exact ⟨i + 1, ((i : Int), true, wv), by go_num, rfl, rfl, rfl, by omega, HB2.out, HR.out⟩
            case measure => simp [intOf]; omega
          · have HR := Lib.hid (show bestS L l P (i + 1) = (bc, true, bl) from by rw [HR0.out]; simp [hlw])
            go_wp2_with fail
            go_roundw
            case rel => exact ⟨i + 1, (bc, true, bl), by go_num, rfl, rfl, rfl, by omega, HB2.out, HR.out⟩
            case measure => simp [intOf]; omega
    · obtain rfl : nl = i := by omega
      go_wp2_with fail
      go_ret2
      exact ⟨by rw [HSt.out]; rfl, HB.out⟩
end Go.Proofs.YthfegbcbpeedbaaGreatDoor
namespace Go.Proofs.YthfegbcbpeedbaaGreatDoor
open Go.RowKit Go.Nm Go.Ky

set_option maxRecDepth 100000 in
set_option maxHeartbeats 8000000 in
theorem Best_any (v u : Value) (m : Mx) (l : List Int) (w : World) (hv : MxV w v m) (hs : MSm m) (hu : InSl w w.heap.size u l) (hl : l.length ≤ 1000) :
    Calls Tryz.prog 20 #[v, u] w fun e w' => e = .returned (.tuple #[.int .i64 (bestC m l), .int .i64 (bestE m l)]) ∧ Below w.heap.size w w' := by
  obtain ⟨A1, c1, A2, c2, W0, rfl, hW0, hb0, hM, hS, hR, hX⟩ := mx_box hv
  have hz : W0.heap.size = w.heap.size + 1 := by rw [← hW0]; simp
  have hu0 := hu.step hb0
  obtain ⟨Au, cu, rfl, _⟩ := hu0.form
  have hba := below_new (w := W0) (.cells #[.slice Au l.length cu] 22)
  have hna := World.alloc_heap_new W0 (.cells #[.slice Au l.length cu] 22)
  have hu1 := hu0.step hba
  obtain ⟨W1, hW1⟩ : ∃ W1, W0.alloc (.cells #[.slice Au l.length cu] 22) = W1 := ⟨_, rfl⟩
  have hz1 : W1.heap.size = w.heap.size + 1 + 1 := by rw [← hW1, ← hz]; simp
  rw [hz] at hna
  rw [hW1] at hba hna hu1
  have hbb := below_new (w := W1) (.cells #[.slice Au l.length cu] 22)
  have hC := checkSeen_any _ _ m [l] _ (hM _ (hba.trans (hbb.mono hba.size))) hs (one_box hu1) (by intro L hL; simp at hL; subst hL; omega) (by simp)
  rw [hz1] at hC
  have HC := Lib.hid hC
  have HB0 := Lib.hid hb0
  have HBa := Lib.hid hba
  have HBb := Lib.hid hbb
  have HW := Lib.hid (And.intro hW0 hW1)
  have HX := Lib.hid (fun Y (h : Below W1.heap.size W1 Y) => And.intro (hX Y (hba.trans (h.mono hba.size))) (cell_one ((h.block _ (Array.getElem?_eq_some_iff.1 hna).1).trans hna)))
  have HRm := Lib.hid (fun (hm : mxF m = true ∧ setsF m.st l = true) Y (h : Below W1.heap.size W1 Y) => remaining_any _ _ m.rows l Y (hR Y (hba.trans (h.mono hba.size))) (hu1.step h) (fun r hr => by rw [mx_may hm.1 hr]; exact sets_len hm.2) hs.2.1 (by omega))
  have HNl := Lib.hid (show (remL m.rows l).length ≤ 1000 from by have := List.length_filter_le (fun r : Rw => fitsF r.may l) m.rows; have := hs.2.1; unfold remL; omega)
  have HMy := Lib.hid (fun (hm : mxF m = true ∧ setsF m.st l = true) (r : Rw) (hr : r ∈ remL m.rows l) (c : Nat) (hc : c < l.length) => (show ∃ y, r.may[c]? = some y ∧ 0 ≤ y ∧ y ≤ 65535 from by
    have hr2 : r ∈ m.rows := (List.mem_filter.1 hr).1
    have hc2 : c < r.may.length := by rw [mx_may hm.1 hr2, ← sets_len hm.2]; exact hc
    have := sets_range hm.1 (may_sets hm.1 hr2) (List.getElem?_eq_getElem hc2)
    exact ⟨_, List.getElem?_eq_getElem hc2, by omega, by omega⟩))
  have HSr := Lib.hid (fun (hm : mxF m = true ∧ setsF m.st l = true) (k : Nat) (x : Int) (hx : l[k]? = some x) => (show 0 ≤ x ∧ x ≤ 65535 from by have := sets_range hm.1 hm.2 hx; omega))
  have HU1 := Lib.hid hu1
  have HLl := Lib.hid hl
  have HE := Lib.hid (seen_cases m [l])
  have HO := Lib.hid (show bestE m l = (if seenE m [l] = 0 then (if (bestS (remL m.rows l) l (fun c => !decZ (l.getD c 0)) l.length).2.1 = true then 0 else 3) else seenE m [l]) ∧ bestC m l = (if bestE m l = 0 then (bestS (remL m.rows l) l (fun c => !decZ (l.getD c 0)) l.length).1 else 0) from ⟨rfl, rfl⟩)
  have HG := Lib.hid (fun h : seenE m [l] = 0 => seen_ok h)
  obtain ⟨er, hr⟩ : ∃ r, seenE m [l] = r := ⟨_, rfl⟩
  obtain ⟨be, hbe⟩ : ∃ r, bestE m l = r := ⟨_, rfl⟩
  obtain ⟨bc, hbc⟩ : ∃ r, bestC m l = r := ⟨_, rfl⟩
  rw [hr] at HC HE HG
  rw [hr, hbe, hbc] at HO
  rw [hbe, hbc]
  generalize m.st.length = ns at *
  generalize m.rows.length = nr at *
  obtain ⟨n, hn⟩ : ∃ n, l.length = n := ⟨_, rfl⟩
  have HNn := Lib.hid hn
  rw [hn] at HC HBb HRm HX HU1 HW
  rw [hn]
  obtain ⟨⟨k0, k1⟩, k2⟩ := HX.out W1 (Below.refl _ _)
  obtain ⟨⟨d0, d1⟩, d2⟩ := HX.out _ HBb.out
  clear hv hu hu0 hu1 hW0 hW1 hb0 hba hbb hna hM hS hR hX hl hr hs hz hz1 hn hbe hbc hC
  go_enter Tryz.func20, Tryz.ntmps20
  go_wp2_with fail
  rw [HW.out.1, HW.out.2]
  (try go_wp2_with fail)
  (with_reducible refine HC.out.mono ?_)
  rintro e w1 ⟨rfl, hb⟩
  have HB2 := Lib.hid (HBb.out.trans (hb.mono HBb.out.size))
  have HBw := Lib.hid (fun Y (h : Below W1.heap.size W1 Y) => HB0.out.trans ((HBa.out.trans (h.mono HBa.out.size)).mono HB0.out.size))
  clear hb k0 k1 k2 d0 d1 d2 HC
  rcases HE.out with rfl | rfl | rfl
  · obtain ⟨⟨k0, k1⟩, k2⟩ := HX.out w1 HB2.out
    have HG1 := Lib.hid (HG.out rfl)
    have HR1 := Lib.hid (HRm.out HG1.out w1 HB2.out)
    have HO1 := Lib.hid (show be = (if (bestS (remL m.rows l) l (fun c => !decZ (l.getD c 0)) n).2.1 = true then 0 else 3) ∧ bc = (if be = 0 then (bestS (remL m.rows l) l (fun c => !decZ (l.getD c 0)) n).1 else 0) from by
      have h := HO.out
      rw [HNn.out] at h
      simpa using h)
    clear HRm HG HE HO
    go_wp2_with fail
    (with_reducible refine HR1.out.mono ?_)
    rintro e w2 ⟨⟨vs, rfl, hvs, _⟩, hb⟩
    have HB3 := Lib.hid (HB2.out.trans (hb.mono HB2.out.size))
    have HBs := Lib.hid (bestB_any (w.heap.size + 1) vs (.slice Au n cu) (remL m.rows l) l (fun c => !decZ (l.getD c 0)) w2 hvs (HU1.out.step HB3.out) HNl.out HLl.out (HSr.out HG1.out) (fun r hr c hc => HMy.out HG1.out r hr c hc)
      (fun X hX c x hx => by
        have hb4 := HB3.out.trans (hX.mono HB3.out.size)
        refine (best1_any c (w.heap.size + 1) (.slice Au n cu) l x X (HX.out X hb4).2 (HU1.out.step hb4) hx (HSr.out HG1.out c x hx)).mono ?_
        rintro e w' ⟨rfl, rfl⟩
        exact ⟨by rw [List.getD_eq_getElem?_getD, hx]; rfl, Below.refl _ _⟩))
    obtain ⟨Av, cv, rfl⟩ := hvs.form
    rw [HNn.out] at HBs
    obtain ⟨⟨bs1, bs2, bs3⟩, hbs⟩ : ∃ bs, bestS (remL m.rows l) l (fun c => !decZ (l.getD c 0)) n = bs := ⟨_, rfl⟩
    rw [hbs] at HBs HO1
    generalize (remL m.rows l).length = q at *
    clear hvs hb k0 k1 k2 HR1 hbs
    simp only at HBs HO1
    obtain ⟨⟨k0, k1⟩, k2⟩ := HX.out w2 HB3.out
    go_wp2_with fail
    (with_reducible refine HBs.out.mono ?_)
    rintro e w3 ⟨rfl, hb⟩
    have HB4 := Lib.hid (HB3.out.trans (hb.mono HB3.out.size))
    clear hb k0 k1 k2 HBs
    cases bs2 with
    | false =>
      have HF := Lib.hid (show be = 3 ∧ bc = 0 from by
        have h := HO1.out.1
        simp at h
        exact ⟨h, by rw [HO1.out.2, h]; simp⟩)
      go_wp2_with fail
      go_ret2
      exact ⟨by rw [HF.out.1, HF.out.2]; rfl, HBw.out _ HB4.out⟩
    | true =>
      have HF := Lib.hid (show be = 0 ∧ bc = bs1 from by
        have h := HO1.out.1
        simp at h
        exact ⟨h, by rw [HO1.out.2, h]; simp⟩)
      go_wp2_with fail
      go_ret2
      exact ⟨by rw [HF.out.1, HF.out.2]; rfl, HBw.out _ HB4.out⟩
  · have HF := Lib.hid (show be = 30 ∧ bc = 0 from by
      have h := HO.out.1
      simp at h
      exact ⟨h, by rw [HO.out.2, h]; simp⟩)
    go_wp2_with fail
    go_ret2
    exact ⟨by rw [HF.out.1, HF.out.2]; rfl, HBw.out _ HB2.out⟩
  · have HF := Lib.hid (show be = 32 ∧ bc = 0 from by
      have h := HO.out.1
      simp at h
      exact ⟨h, by rw [HO.out.2, h]; simp⟩)
    go_wp2_with fail
    go_ret2
    exact ⟨by rw [HF.out.1, HF.out.2]; rfl, HBw.out _ HB2.out⟩
end Go.Proofs.YthfegbcbpeedbaaGreatDoor
