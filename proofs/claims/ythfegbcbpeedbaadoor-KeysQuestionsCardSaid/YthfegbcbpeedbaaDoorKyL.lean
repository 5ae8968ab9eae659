/- What two rows have in common. -/
import Derived.Test.YthfegbcbpeedbaaDoorKyJ
namespace Go.Ky
open Go.Nm
def tab64 : List Nat := [0, 1, 56, 2, 57, 49, 28, 3, 61, 58, 42, 50, 38, 29, 17, 4, 62, 47, 59, 36, 45, 43, 51, 22, 53, 39, 33, 30, 24, 18, 12, 5, 63, 55, 48, 27, 60, 41, 37, 16, 46, 35, 44, 21, 52, 32, 23, 11, 54, 26, 40, 15, 34, 20, 31, 10, 25, 14, 19, 9, 13, 8, 7, 6]
def tzN (x : Nat) : Nat := tab64.getD ((x &&& (18446744073709551616 - x)) * 285870213051353865 % 18446744073709551616 / 288230376151711744) 0
theorem tab_lt (k : Nat) : tab64.getD k 0 < 64 := by
  by_cases h : k < 64
  · have h2 : ∀ i : Fin 64, tab64.getD i.val 0 < 64 := by decide
    exact h2 ⟨k, h⟩
  · rw [List.getD_eq_getElem?_getD, List.getElem?_eq_none (by show 64 ≤ k; omega)]; decide
def chk2 (p : Nat → Bool) : Nat → Nat → Bool
  | 0, lo => p lo
  | d + 1, lo => chk2 p d lo && chk2 p d (lo + 2 ^ d)
theorem chk2_all (p : Nat → Bool) : ∀ (d lo : Nat), chk2 p d lo = true → ∀ x, lo ≤ x → x < lo + 2 ^ d → p x = true
  | 0, lo, h, x, h1, h2 => by
    obtain rfl : x = lo := by simp at h2; omega
    exact h
  | d + 1, lo, h, x, h1, h2 => by
    unfold chk2 at h
    rw [Bool.and_eq_true] at h
    by_cases hx : x < lo + 2 ^ d
    · exact chk2_all p d lo h.1 x h1 hx
    · exact chk2_all p d _ h.2 x (by omega) (by rw [Nat.pow_succ] at h2; omega)
def tzB (x : Nat) : Bool := x == 0 || (Nat.blt (tzN x) 16 && x.testBit (tzN x) && Nat.beq (x % 2 ^ tzN x) 0)
theorem tzB_all : chk2 tzB 16 0 = true := by kernel_rfl
/-- the least bit: it is set, and none below it is -/
theorem tz_ok {x : Nat} (h0 : 0 < x) (h : x < 65536) : tzN x < 16 ∧ x.testBit (tzN x) = true ∧ x % 2 ^ tzN x = 0 := by
  have h1 := chk2_all tzB 16 0 tzB_all x (by omega) (by omega)
  unfold tzB at h1
  simp only [Bool.or_eq_true, Bool.and_eq_true, beq_iff_eq] at h1
  rcases h1 with h1 | ⟨⟨h1, h2⟩, h3⟩
  · omega
  · exact ⟨by rw [Nat.blt_eq] at h1; exact h1, h2, Nat.eq_of_beq_eq_true h3⟩
theorem wrap_u64 {x : Nat} (h : x < 18446744073709551616) : IntKind.u64.wrap (x : Int) = (x : Int) := by
  unfold IntKind.wrap IntKind.signed IntKind.bits
  simp only [Bool.false_and, Bool.false_eq_true, if_false]
  omega
theorem ofInt_nat {x : Nat} (h : x < 18446744073709551616) : (BitVec.ofInt 64 (x : Int)).toNat = x := by
  rw [BitVec.ofInt_natCast, BitVec.toNat_ofNat]
  exact Nat.mod_eq_of_lt h
theorem and_u64 {x y : Nat} (hx : x < 18446744073709551616) (hy : y < 18446744073709551616) : bits BinOp.and IntKind.u64 (x : Int) (y : Int) = ((x &&& y : Nat) : Int) := by
  have h : (BitVec.ofInt 64 (x : Int) &&& BitVec.ofInt 64 (y : Int)).toNat = x &&& y := by rw [BitVec.toNat_and, ofInt_nat hx, ofInt_nat hy]
  show IntKind.u64.wrap ((BitVec.ofInt 64 (x : Int) &&& BitVec.ofInt 64 (y : Int)).toNat : Int) = _
  rw [h]
  exact wrap_u64 (Nat.lt_of_le_of_lt Nat.and_le_left hx)
theorem and_i64 {x y : Nat} (hx : x < 9223372036854775808) (hy : y < 9223372036854775808) : bits BinOp.and IntKind.i64 (x : Int) (y : Int) = ((x &&& y : Nat) : Int) := by
  have h : (BitVec.ofInt 64 (x : Int) &&& BitVec.ofInt 64 (y : Int)).toNat = x &&& y := by rw [BitVec.toNat_and, ofInt_nat (by omega), ofInt_nat (by omega)]
  show IntKind.i64.wrap ((BitVec.ofInt 64 (x : Int) &&& BitVec.ofInt 64 (y : Int)).toNat : Int) = _
  rw [h, IntKind.wrap_i64]
  have := Nat.lt_of_le_of_lt (Nat.and_le_left (n := x) (m := y)) hx
  omega
end Go.Ky
namespace Go.Proofs.YthfegbcbpeedbaaDoor
open Go.RowKit Go.Nm Go.Ky

/-- the table of bits -/
def TabH (w : World) : Prop := ∀ k, k < 64 → w.cell? ⟨1, k, none⟩ = some (.int .u8 ((tab64.getD k 0 : Nat) : Int))
theorem TabH.step {w w' : World} (h : TabH w) (hb : Below w.heap.size w w') : TabH w' := fun k hk => (hb.cell (World.block_lt_of_cell? _ _ (h k hk))).trans (h k hk)
set_option maxRecDepth 100000 in
set_option maxHeartbeats 4000000 in
theorem Tz64_any (x : Nat) (w : World) (hT : TabH w) (h0 : 0 < x) (hx : x < 65536) :
    Calls Tryd.prog 114 #[.int .u64 (x : Int)] w fun e w' => e = .returned (.int .i64 ((tzN x : Nat) : Int)) ∧ w = w' := by
  obtain ⟨n1, hn1⟩ : ∃ n1, 18446744073709551616 - x = n1 := ⟨_, rfl⟩
  have h1 : IntKind.u64.wrap (-(x : Int)) = (n1 : Int) := by
    unfold IntKind.wrap IntKind.signed IntKind.bits
    simp only [Bool.false_and, Bool.false_eq_true, if_false]
    omega
  obtain ⟨n2, hn2⟩ : ∃ n2, x &&& n1 = n2 := ⟨_, rfl⟩
  have h2 : bits BinOp.and IntKind.u64 (x : Int) (n1 : Int) = (n2 : Int) := by rw [and_u64 (by omega) (by omega), hn2]
  obtain ⟨n3, hn3⟩ : ∃ n3, n2 * 285870213051353865 % 18446744073709551616 = n3 := ⟨_, rfl⟩
  have h3 : IntKind.u64.wrap ((n2 : Int) * 285870213051353865) = (n3 : Int) := by
    unfold IntKind.wrap IntKind.signed IntKind.bits
    simp only [Bool.false_and, Bool.false_eq_true, if_false]
    omega
  obtain ⟨n4, hn4⟩ : ∃ n4, n3 / 288230376151711744 = n4 := ⟨_, rfl⟩
  have h4 : (n3 : Int) / 2 ^ 58 = (n4 : Int) := by omega
  have h4b : (n3 : Int) / 288230376151711744 = (n4 : Int) := by omega
  have hlt : n4 < 64 := by omega
  have hc := hT n4 hlt
  have hz := tab_lt n4
  obtain ⟨t, ht⟩ : ∃ t, tab64.getD n4 0 = t := ⟨_, rfl⟩
  rw [ht] at hc hz
  have HR := Lib.hid (show tzN x = t from by unfold tzN; rw [hn1, hn2, hn3, hn4, ht])
  have hx0 : ((x : Int) == 0) = false := by simp; omega
  obtain ⟨r, hr⟩ : ∃ r, tzN x = r := ⟨_, rfl⟩
  rw [hr] at HR ⊢
  clear hT hn1 hn2 hn3 hn4 ht hr
  go_enter Tryd.func114, Tryd.ntmps114
  go_wp2_with fail
  go_ret
  exact ⟨by rw [HR.out]; rfl, rfl⟩
set_option maxRecDepth 100000 in
set_option maxHeartbeats 4000000 in
theorem Tz_any (x : Nat) (w : World) (hT : TabH w) (h0 : 0 < x) (hx : x < 65536) :
    Calls Tryd.prog 79 #[.int .u64 (x : Int)] w fun e w' => e = .returned (.int .i64 ((tzN x : Nat) : Int)) ∧ w = w' := by
  have HC := Lib.hid (Tz64_any x w hT h0 hx)
  clear hT h0 hx
  go_enter Tryd.func79, Tryd.ntmps79
  go_wp2_with fail
  (with_reducible refine HC.out.mono ?_)
  rintro e w1 ⟨rfl, rfl⟩
  go_wp2_with fail
  go_ret
  exact ⟨rfl, rfl⟩
theorem IwI.low {W W' X : World} {gw n : Nat} {f : Nat → Int} (h : IwI W' gw n f X) (hb : Below W.heap.size W W') : IwI W gw n f X := ⟨hb.trans (h.bel.mono hb.size), h.cs, Nat.le_trans hb.size h.base⟩
set_option maxRecDepth 100000 in
set_option maxHeartbeats 8000000 in
theorem common_any (u v : Value) (a b : List Int) (w : World) (hu : InSl w w.heap.size u a) (hv : InSl w w.heap.size v b) (hl : b.length = a.length) (hn : a.length ≤ 100000) :
    Calls Tryd.prog 76 #[u, v] w fun e w' => ∃ (gw : Nat) (f : Nat → Int), e = .returned (.slice (some ⟨gw, 0, none⟩) a.length a.length) ∧ IwI w gw a.length f w' ∧ ∀ k x y, a[k]? = some x → b[k]? = some y → f k = meetF x y := by
  have HU := Lib.hid hu
  have HV := Lib.hid hv
  obtain ⟨A, c, rfl, _⟩ := hu.form
  obtain ⟨B, d, rfl, _⟩ := hv.form
  obtain ⟨n, h⟩ : ∃ n, a.length = n := ⟨_, rfl⟩
  have HN := Lib.hid (And.intro h (hl.trans h))
  rw [hl, h] at HV
  rw [h] at HU hn
  rw [hl, h]
  clear hu hv h hl
  go_enter Tryd.func76, Tryd.ntmps76
  go_wp2_with (refine wpList_make_ints rfl _ _ rfl n rfl rfl (by omega) ?_; intro cs hcs1 hcs2; have HI0 := Lib.hid (IwI.start (W := w) hcs1 hcs2); clear hcs1 hcs2)
  obtain ⟨gw, hgw⟩ : ∃ gw, w.heap.size = gw := ⟨_, rfl⟩
  have HGw := Lib.hid hgw
  rw [hgw] at HI0 ⊢
  clear hgw
  go_loopw [12] (fun iv wr => ∃ (i : Nat) (f : Nat → Int), iv = .int .i64 (i : Int) ∧ i ≤ n ∧ IwI w gw n f wr ∧ ∀ k x y, k < i → a[k]? = some x → b[k]? = some y → f k = meetF x y) (fun iv _ => n - (intOf iv).toNat)
  case atStart => exact ⟨0, _, rfl, by omega, HI0.out, fun k x y hk => absurd hk (by omega)⟩
  case round =>
    obtain ⟨i, f, rfl, hin, hI, hf⟩ := hrel
    have HI := Lib.hid hI
    have HF := Lib.hid hf
    clear hI hf
    by_cases hlt : i < n
    · have HA := Lib.hid (show InA wr wr.heap.size A a from by obtain ⟨_, _, e, _, _, h⟩ := HU.out.step HI.out.bel; cases e; exact h)
      have HB := Lib.hid (show InA wr wr.heap.size B b from by obtain ⟨_, _, e, _, _, h⟩ := HV.out.step HI.out.bel; cases e; exact h)
      obtain ⟨x, ad, hx, rfl, _, hcx⟩ := HA.out.at_ HN.out.1 hlt
      obtain ⟨y, bd, hy, rfl, _, hcy⟩ := HB.out.at_ HN.out.2 hlt
      have HXY := Lib.hid (And.intro hx hy)
      have HId := Lib.hid (HI.out.step (Below.refl _ _).drew)
      have hco := HId.out.cell hlt
      have hfz := HId.out.froz i
      obtain ⟨z, hz⟩ : ∃ z, bits BinOp.and IntKind.i64 x y = z := ⟨_, rfl⟩
      have HZ := Lib.hid hz
      clear hx hy
      go_wp2_with fail
      refine wp_region_tail 12 (by kernel_rfl) (by kernel_rfl) ?_
      simp only [List.take_succ_cons, List.take_zero, List.drop_succ_cons, List.drop_zero]
      iterate 12 ((with_reducible refine wpStill_step ?_); intro K hK; go_simp; (try (refine ite_neg_of (by simp [undef] <;> assumption) ?_)); (with_reducible refine hK _ ?_); clear hK K)
      (with_reducible refine wpStill_nil ?_)
      go_wp2_with fail
      go_roundw
      case rel => exact ⟨i + 1, _, by go_num, by omega, HId.out.set i z, fun k x' y' hk hx' hy' => by
        by_cases e : k = i
        · subst e
          rw [HXY.out.1] at hx'; injection hx' with hx'; subst hx'
          rw [HXY.out.2] at hy'; injection hy' with hy'; subst hy'
          rw [upd_same, ← HZ.out]; rfl
        · rw [upd_other _ _ e]; exact HF.out k x' y' (by omega) hx' hy'⟩
      case measure => simp [intOf]; omega
    · obtain rfl : n = i := by omega
      have HFin := Lib.hid (show ∀ k x y, a[k]? = some x → b[k]? = some y → f k = meetF x y from fun k x y hx hy => HF.out k x y (by have := (List.getElem?_eq_some_iff.1 hx).1; have := HN.out.1; omega) hx hy)
      go_wp2_with fail
      go_ret
      exact ⟨gw, f, rfl, HI.out, HFin.out⟩
end Go.Proofs.YthfegbcbpeedbaaDoor
namespace Go.Ky
open Go.Nm
def comE (m : Mx) (a b : Int) : Int := if rowE m a = 0 then rowE m b else rowE m a
def comL (m : Mx) (a b : Int) : List Int := List.zipWith meetF (rowF m a).may (rowF m b).may
theorem row_all (m : Mx) (name : Int) : (rowE m name = 0 ∧ mxF m = true ∧ (rowF m name).may.length = m.st.length ∧ rowF m name ∈ m.rows ∧ (rowF m name).nm = name) ∨ ((rowE m name = 1 ∨ rowE m name = 30) ∧ rowF m name = ⟨0, []⟩) := by
  cases hm : mxF m with
  | false => exact .inr ⟨.inr (by unfold rowE; simp [hm]), by unfold rowF; simp [hm]⟩
  | true =>
    rcases row_cases (name := name) hm with ⟨h1, h2, h3, h4⟩ | ⟨h1, h2⟩
    · exact .inl ⟨h1, rfl, h2, h3, h4⟩
    · exact .inr ⟨.inl h1, h2⟩
theorem com_ok {m : Mx} {a b : Int} (h : comE m a b = 0) : mxF m = true ∧ rowE m a = 0 ∧ rowE m b = 0 ∧ (rowF m a).may.length = m.st.length ∧ (rowF m b).may.length = m.st.length ∧ (comL m a b).length = m.st.length := by
  unfold comE at h
  rcases row_all m a with ⟨h1, h2, h3, _⟩ | ⟨h1, _⟩
  · rw [if_pos h1] at h
    rcases row_all m b with ⟨h4, _, h5, _⟩ | ⟨h4, _⟩
    · exact ⟨h2, h1, h4, h3, h5, by unfold comL; rw [List.length_zipWith, h3, h5]; omega⟩
    · omega
  · rw [if_neg (by omega)] at h; omega
end Go.Ky
namespace Go.Proofs.YthfegbcbpeedbaaDoor
open Go.RowKit Go.Nm Go.Ky

set_option maxRecDepth 100000 in
set_option maxHeartbeats 8000000 in
theorem commonOf_any (v : Value) (m : Mx) (a b : Int) (w : World) (hv : MxV w v m) (hs : MSm m) :
    Calls Tryd.prog 78 #[v, .int .i64 a, .int .i64 b] w fun e w' =>
      ((comE m a b = 0 ∧ ∃ gw : Nat, e = .returned (.tuple #[.slice (some ⟨gw, 0, none⟩) m.st.length m.st.length, .int .i64 0]) ∧ ∃ f : Nat → Int, IwI w gw m.st.length f w' ∧ ∀ k z, (comL m a b)[k]? = some z → f k = z) ∨ (comE m a b ≠ 0 ∧ e = .returned (.tuple #[.slice none 0 0, .int .i64 (comE m a b)]))) ∧ Below w.heap.size w w' := by
  obtain ⟨A1, c1, A2, c2, W0, rfl, hW0, hb0, hM, hS, hR, hX⟩ := mx_box hv
  have HB0 := Lib.hid hb0
  have HW0 := Lib.hid hW0
  have HX := Lib.hid hX
  have HRw := Lib.hid (fun name Y (h : Below W0.heap.size W0 Y) => Row_any _ m name Y (hM Y h) hs)
  obtain ⟨k0, k1⟩ := hX W0 (Below.refl _ _)
  have HKa := Lib.hid (row_all m a)
  have HKb := Lib.hid (row_all m b)
  have HO := Lib.hid (show comE m a b = (if rowE m a = 0 then rowE m b else rowE m a) ∧ comL m a b = List.zipWith meetF (rowF m a).may (rowF m b).may from ⟨rfl, rfl⟩)
  have HRa := Lib.hid (HRw.out a W0 (Below.refl _ _))
  have HRb := Lib.hid (HRw.out b)
  have hns : m.st.length ≤ 1000 := hs.1
  rw [HO.out.1, HO.out.2]
  obtain ⟨ra, hra⟩ : ∃ r, rowF m a = r := ⟨_, rfl⟩
  obtain ⟨rb, hrb⟩ : ∃ r, rowF m b = r := ⟨_, rfl⟩
  obtain ⟨ea, hea⟩ : ∃ r, rowE m a = r := ⟨_, rfl⟩
  obtain ⟨eb, heb⟩ : ∃ r, rowE m b = r := ⟨_, rfl⟩
  rw [hra, hea] at HKa HRa
  rw [hrb, heb] at HKb HRb
  rw [hra, hrb, hea, heb]
  generalize m.rows.length = nr at *
  obtain ⟨ns, hn⟩ : ∃ n, m.st.length = n := ⟨_, rfl⟩
  rw [hn] at HX HW0 HRa HRb HKa HKb k0 hns ⊢
  clear hv hs hW0 hb0 hM hS hR hX hra hrb hea heb hn HRw HO
  go_enter Tryd.func78, Tryd.ntmps78
  go_wp2_with fail
  rw [HW0.out]
  (try go_wp2_with fail)
  (with_reducible refine HRa.out.mono ?_)
  rintro e w1 ⟨⟨va, rfl, hva⟩, hb⟩
  obtain ⟨Aa, ca, rfl, _⟩ := hva.1.form
  have HVa := Lib.hid hva
  have hbx := below_new (w := w1) (.cells #[.int .i64 ra.nm, .slice Aa ra.may.length ca] 35)
  have HBx := Lib.hid hbx
  have HNx := Lib.hid (World.alloc_heap_new w1 (.cells #[.int .i64 ra.nm, .slice Aa ra.may.length ca] 35))
  have HB1 := Lib.hid (hb.trans (hbx.mono hb.size))
  have HB1w := Lib.hid hb
  clear hva hb k0 k1 HRa hbx
  rcases HKa.out with ⟨rfl, hm, hla, h3, h4⟩ | ⟨hea, hra⟩
  case inr =>
    clear HKa HRb HKb
    rcases hea with rfl | rfl
    · clear hra
      go_wp2_with fail
      go_ret2
      exact ⟨rfl, HB0.out.trans (HB1.out.mono HB0.out.size)⟩
    · clear hra
      go_wp2_with fail
      go_ret2
      exact ⟨rfl, HB0.out.trans (HB1.out.mono HB0.out.size)⟩
  case inl =>
  have HLa := Lib.hid hla
  rw [hla] at HB1 HBx HNx HVa ⊢
  clear hm hla h3 h4 HKa
  obtain ⟨k0, k1⟩ := HX.out _ HB1.out
  have HRb1 := Lib.hid (HRb.out _ HB1.out)
  clear HRb
  go_wp2_with fail
  (with_reducible refine HRb1.out.mono ?_)
  rintro e w2 ⟨⟨vb, rfl, hvb⟩, hb⟩
  obtain ⟨Ab, cb, rfl, _⟩ := hvb.1.form
  have HVb := Lib.hid hvb
  have hbx := below_new (w := w2) (.cells #[.int .i64 rb.nm, .slice Ab rb.may.length cb] 35)
  have hnx := World.alloc_heap_new w2 (.cells #[.int .i64 rb.nm, .slice Ab rb.may.length cb] 35)
  have hna := (hbx.block _ (Nat.lt_of_lt_of_le (Array.getElem?_eq_some_iff.1 HNx.out).1 hb.size)).trans ((hb.block _ (Array.getElem?_eq_some_iff.1 HNx.out).1).trans HNx.out)
  have HB2 := Lib.hid (HB1.out.trans ((hb.trans (hbx.mono hb.size)).mono HB1.out.size))
  have HBy := Lib.hid (hb.trans (hbx.mono hb.size))
  have HBz := Lib.hid hbx
  clear hvb hb k0 k1 HRb1 hbx
  rcases HKb.out with ⟨rfl, hm, hlb, h3, h4⟩ | ⟨heb, hrb⟩
  case inr =>
    clear HKb hnx hna
    rcases heb with rfl | rfl
    · clear hrb
      go_wp2_with fail
      go_ret2
      exact ⟨rfl, HB0.out.trans (HB2.out.mono HB0.out.size)⟩
    · clear hrb
      go_wp2_with fail
      go_ret2
      exact ⟨rfl, HB0.out.trans (HB2.out.mono HB0.out.size)⟩
  case inl =>
  have HLb := Lib.hid hlb
  rw [hlb] at HB2 HBy HBz HVb hnx hna ⊢
  clear hm hlb h3 h4 HKb
  obtain ⟨a0, a1⟩ := cells_two hna
  obtain ⟨b0, b1⟩ := cells_two hnx
  have HCo := Lib.hid (common_any (.slice Aa ns ca) (.slice Ab ns cb) ra.may rb.may _ ((HVa.out.1.step HBx.out).step HBy.out) (HVb.out.1.step HBz.out) (by rw [HLa.out, HLb.out]) (by rw [HLa.out]; omega))
  rw [HLa.out] at HCo
  clear hna hnx
  go_wp2_with fail
  (with_reducible refine HCo.out.mono ?_)
  rintro e w3 ⟨gw, f, rfl, hI, hf⟩
  have HI := Lib.hid (hI.low (HB0.out.trans (HB2.out.mono HB0.out.size)))
  have HF := Lib.hid (show ∀ k z, (List.zipWith meetF ra.may rb.may)[k]? = some z → f k = z from fun k z hz => by
    rw [List.getElem?_zipWith] at hz
    cases hx : ra.may[k]? with
    | none => rw [hx] at hz; simp at hz
    | some x =>
      cases hy : rb.may[k]? with
      | none => rw [hx, hy] at hz; simp at hz
      | some y =>
        rw [hx, hy] at hz
        simp at hz
        rw [hf k x y hx hy, hz])
  clear hI hf a0 a1 b0 b1 HCo
  go_wp2_with fail
  go_ret2
  exact ⟨⟨gw, rfl, f, HI.out, HF.out⟩, HI.out.bel⟩
end Go.Proofs.YthfegbcbpeedbaaDoor
