/- How many bits a set has. -/
import Derived.Test.YthfegbcbpeedbaaDoorKyN
namespace Go.Ky
open Go.Nm
def p1 (x : Nat) : Nat := (x / 2 &&& 6148914691236517205) + (x &&& 6148914691236517205)
def p2 (x : Nat) : Nat := (x / 4 &&& 3689348814741910323) + (x &&& 3689348814741910323)
def p3 (x : Nat) : Nat := (x / 16 + x) &&& 1085102592571150095
def popN (x : Nat) : Nat := (let x3 := p3 (p2 (p1 x)); let x4 := x3 + x3 / 256; let x5 := x4 + x4 / 65536; x5 + x5 / 4294967296) &&& 127
def decZ (z : Int) : Bool := decide (popN z.toNat = 1)
def popB (x : Nat) : Bool := Nat.beq x 0 || ((Nat.beq (popN x) 1) == (Nat.beq x (2 ^ tzN x)))
theorem popB_all : chk2 popB 16 0 = true := by kernel_rfl
/-- one bit: it is the least -/
theorem dec_iff {x : Nat} (h0 : 0 < x) (h : x < 65536) : popN x = 1 ↔ x = 2 ^ tzN x := by
  have h1 := chk2_all popB 16 0 popB_all x (by omega) (by omega)
  unfold popB at h1
  rw [Bool.or_eq_true] at h1
  rcases h1 with h1 | h1
  · have := Nat.eq_of_beq_eq_true h1; omega
  · have h2 : Nat.beq (popN x) 1 = Nat.beq x (2 ^ tzN x) := by simpa using h1
    constructor
    · intro h3
      exact Nat.eq_of_beq_eq_true (h2.symm.trans (by rw [h3]; rfl))
    · intro h3
      exact Nat.eq_of_beq_eq_true (h2.trans (by rw [← h3]; exact Nat.beq_refl x))
end Go.Ky
namespace Go.Proofs.YthfegbcbpeedbaaDoor
open Go.RowKit Go.Nm Go.Ky

set_option maxRecDepth 100000 in
set_option maxHeartbeats 8000000 in
theorem Ones64_any (x : Nat) (w : World) (hx : x < 65536) :
    Calls Tryd.prog 132 #[.int .u64 (x : Int)] w fun e w' => e = .returned (.int .i64 ((popN x : Nat) : Int)) ∧ w = w' := by
  obtain ⟨q1, hq1⟩ : ∃ n, x / 2 = n := ⟨_, rfl⟩
  have bq1 : q1 ≤ 40000 := by rw [← hq1]; omega
  have sq1 : (x : Int) / 2 ^ 1 = (q1 : Int) := by omega
  have sq1b : (x : Int) / 2 = (q1 : Int) := by omega
  obtain ⟨a1, ha1⟩ : ∃ n, q1 &&& 6148914691236517205 = n := ⟨_, rfl⟩
  have ba1 : a1 ≤ 40000 := by rw [← ha1]; have := Nat.and_le_left (n := q1) (m := 6148914691236517205); omega
  have aa1 : bits BinOp.and IntKind.u64 (q1 : Int) 6148914691236517205 = (a1 : Int) := by rw [← ha1]; exact and_u64 (x := q1) (y := 6148914691236517205) (by omega) (by decide)
  obtain ⟨c1, hc1⟩ : ∃ n, x &&& 6148914691236517205 = n := ⟨_, rfl⟩
  have bc1 : c1 ≤ 65535 := by rw [← hc1]; have := Nat.and_le_left (n := x) (m := 6148914691236517205); omega
  have ac1 : bits BinOp.and IntKind.u64 (x : Int) 6148914691236517205 = (c1 : Int) := by rw [← hc1]; exact and_u64 (x := x) (y := 6148914691236517205) (by omega) (by decide)
  obtain ⟨x1, hx1⟩ : ∃ n, a1 + c1 = n := ⟨_, rfl⟩
  have bx1 : x1 ≤ 110000 := by rw [← hx1]; omega
  have wx1 : IntKind.u64.wrap ((a1 : Int) + (c1 : Int)) = (x1 : Int) := by rw [show (a1 : Int) + (c1 : Int) = (x1 : Int) from by omega]; exact wrap_u64 (by omega)
  have vx1 : (a1 : Int) + (c1 : Int) = (x1 : Int) := by omega
  obtain ⟨q2, hq2⟩ : ∃ n, x1 / 4 = n := ⟨_, rfl⟩
  have bq2 : q2 ≤ 30000 := by rw [← hq2]; omega
  have sq2 : (x1 : Int) / 2 ^ 2 = (q2 : Int) := by omega
  have sq2b : (x1 : Int) / 4 = (q2 : Int) := by omega
  obtain ⟨a2, ha2⟩ : ∃ n, q2 &&& 3689348814741910323 = n := ⟨_, rfl⟩
  have ba2 : a2 ≤ 30000 := by rw [← ha2]; have := Nat.and_le_left (n := q2) (m := 3689348814741910323); omega
  have aa2 : bits BinOp.and IntKind.u64 (q2 : Int) 3689348814741910323 = (a2 : Int) := by rw [← ha2]; exact and_u64 (x := q2) (y := 3689348814741910323) (by omega) (by decide)
  obtain ⟨c2, hc2⟩ : ∃ n, x1 &&& 3689348814741910323 = n := ⟨_, rfl⟩
  have bc2 : c2 ≤ 110000 := by rw [← hc2]; have := Nat.and_le_left (n := x1) (m := 3689348814741910323); omega
  have ac2 : bits BinOp.and IntKind.u64 (x1 : Int) 3689348814741910323 = (c2 : Int) := by rw [← hc2]; exact and_u64 (x := x1) (y := 3689348814741910323) (by omega) (by decide)
  obtain ⟨x2, hx2⟩ : ∃ n, a2 + c2 = n := ⟨_, rfl⟩
  have bx2 : x2 ≤ 140000 := by rw [← hx2]; omega
  have wx2 : IntKind.u64.wrap ((a2 : Int) + (c2 : Int)) = (x2 : Int) := by rw [show (a2 : Int) + (c2 : Int) = (x2 : Int) from by omega]; exact wrap_u64 (by omega)
  have vx2 : (a2 : Int) + (c2 : Int) = (x2 : Int) := by omega
  obtain ⟨q3, hq3⟩ : ∃ n, x2 / 16 = n := ⟨_, rfl⟩
  have bq3 : q3 ≤ 10000 := by rw [← hq3]; omega
  have sq3 : (x2 : Int) / 2 ^ 4 = (q3 : Int) := by omega
  have sq3b : (x2 : Int) / 16 = (q3 : Int) := by omega
  obtain ⟨y3, hy3⟩ : ∃ n, q3 + x2 = n := ⟨_, rfl⟩
  have by3 : y3 ≤ 150000 := by rw [← hy3]; omega
  have wy3 : IntKind.u64.wrap ((q3 : Int) + (x2 : Int)) = (y3 : Int) := by rw [show (q3 : Int) + (x2 : Int) = (y3 : Int) from by omega]; exact wrap_u64 (by omega)
  have vy3 : (q3 : Int) + (x2 : Int) = (y3 : Int) := by omega
  obtain ⟨x3, hx3⟩ : ∃ n, y3 &&& 1085102592571150095 = n := ⟨_, rfl⟩
  have bx3 : x3 ≤ 150000 := by rw [← hx3]; have := Nat.and_le_left (n := y3) (m := 1085102592571150095); omega
  have ax3 : bits BinOp.and IntKind.u64 (y3 : Int) 1085102592571150095 = (x3 : Int) := by rw [← hx3]; exact and_u64 (x := y3) (y := 1085102592571150095) (by omega) (by decide)
  obtain ⟨q4, hq4⟩ : ∃ n, x3 / 256 = n := ⟨_, rfl⟩
  have bq4 : q4 ≤ 600 := by rw [← hq4]; omega
  have sq4 : (x3 : Int) / 2 ^ 8 = (q4 : Int) := by omega
  have sq4b : (x3 : Int) / 256 = (q4 : Int) := by omega
  obtain ⟨x4, hx4⟩ : ∃ n, x3 + q4 = n := ⟨_, rfl⟩
  have bx4 : x4 ≤ 151000 := by rw [← hx4]; omega
  have wx4 : IntKind.u64.wrap ((x3 : Int) + (q4 : Int)) = (x4 : Int) := by rw [show (x3 : Int) + (q4 : Int) = (x4 : Int) from by omega]; exact wrap_u64 (by omega)
  have vx4 : (x3 : Int) + (q4 : Int) = (x4 : Int) := by omega
  obtain ⟨q5, hq5⟩ : ∃ n, x4 / 65536 = n := ⟨_, rfl⟩
  have bq5 : q5 ≤ 3 := by rw [← hq5]; omega
  have sq5 : (x4 : Int) / 2 ^ 16 = (q5 : Int) := by omega
  have sq5b : (x4 : Int) / 65536 = (q5 : Int) := by omega
  obtain ⟨x5, hx5⟩ : ∃ n, x4 + q5 = n := ⟨_, rfl⟩
  have bx5 : x5 ≤ 152000 := by rw [← hx5]; omega
  have wx5 : IntKind.u64.wrap ((x4 : Int) + (q5 : Int)) = (x5 : Int) := by rw [show (x4 : Int) + (q5 : Int) = (x5 : Int) from by omega]; exact wrap_u64 (by omega)
  have vx5 : (x4 : Int) + (q5 : Int) = (x5 : Int) := by omega
  obtain ⟨q6, hq6⟩ : ∃ n, x5 / 4294967296 = n := ⟨_, rfl⟩
  have bq6 : q6 ≤ 0 := by rw [← hq6]; omega
  have sq6 : (x5 : Int) / 2 ^ 32 = (q6 : Int) := by omega
  have sq6b : (x5 : Int) / 4294967296 = (q6 : Int) := by omega
  obtain ⟨x6, hx6⟩ : ∃ n, x5 + q6 = n := ⟨_, rfl⟩
  have bx6 : x6 ≤ 153000 := by rw [← hx6]; omega
  have wx6 : IntKind.u64.wrap ((x5 : Int) + (q6 : Int)) = (x6 : Int) := by rw [show (x5 : Int) + (q6 : Int) = (x6 : Int) from by omega]; exact wrap_u64 (by omega)
  have vx6 : (x5 : Int) + (q6 : Int) = (x6 : Int) := by omega
  obtain ⟨r, hr⟩ : ∃ n, x6 &&& 127 = n := ⟨_, rfl⟩
  have ar : bits BinOp.and IntKind.i64 (x6 : Int) 127 = (r : Int) := by rw [← hr]; exact and_i64 (x := x6) (y := 127) (by omega) (by decide)
  have cw : IntKind.i64.wrap (x6 : Int) = (x6 : Int) := by rw [IntKind.wrap_i64]; omega
  have HR := Lib.hid (show popN x = r from by
    have e1 : p1 x = x1 := by unfold p1; rw [hq1, ha1, hc1, hx1]
    have e2 : p2 x1 = x2 := by unfold p2; rw [hq2, ha2, hc2, hx2]
    have e3 : p3 x2 = x3 := by unfold p3; rw [hq3, hy3, hx3]
    unfold popN
    simp only [e1, e2, e3, hq4, hx4, hq5, hx5, hq6, hx6, hr])
  rw [HR.out]
  clear hq1 ha1 hc1 hx1 hq2 ha2 hc2 hx2 hq3 hy3 hx3 hq4 hx4 hq5 hx5 hq6 hx6 hr HR vx1 vx2 vy3 vx4 vx5 vx6
  go_enter Tryd.func132, Tryd.ntmps132
  go_wp2_with fail
  go_ret
  exact ⟨rfl, rfl⟩
set_option maxRecDepth 100000 in
set_option maxHeartbeats 4000000 in
theorem Ones_any (x : Nat) (w : World) (hx : x < 65536) :
    Calls Tryd.prog 117 #[.int .u64 (x : Int)] w fun e w' => e = .returned (.int .i64 ((popN x : Nat) : Int)) ∧ w = w' := by
  have HC := Lib.hid (Ones64_any x w hx)
  clear hx
  go_enter Tryd.func117, Tryd.ntmps117
  go_wp2_with fail
  (with_reducible refine HC.out.mono ?_)
  rintro e w1 ⟨rfl, rfl⟩
  go_wp2_with fail
  go_ret
  exact ⟨rfl, rfl⟩
set_option maxRecDepth 100000 in
set_option maxHeartbeats 4000000 in
theorem isDecided_any (z : Int) (w : World) (hz : 0 ≤ z ∧ z ≤ 65535) :
    Calls Tryd.prog 86 #[.int .i64 z] w fun e w' => e = .returned (.bool (decZ z)) ∧ w = w' := by
  obtain ⟨n, rfl⟩ : ∃ n : Nat, z = (n : Int) := ⟨z.toNat, by omega⟩
  have HC := Lib.hid (Ones_any n w (by omega))
  have hwz : IntKind.u64.wrap (n : Int) = (n : Int) := wrap_u64 (by omega)
  have HD := Lib.hid (show decZ (n : Int) = decide (popN n = 1) from by unfold decZ; rw [Int.toNat_natCast])
  rw [HD.out]
  obtain ⟨p, hp⟩ : ∃ p, popN n = p := ⟨_, rfl⟩
  rw [hp] at HC ⊢
  clear hz hp
  go_enter Tryd.func86, Tryd.ntmps86
  go_wp2_with fail
  (with_reducible refine HC.out.mono ?_)
  rintro e w1 ⟨rfl, rfl⟩
  go_wp2_with fail
  go_ret
  exact ⟨by
    have e : decide (p = 1) = decide ((p : Int) = 1) := decide_eq_decide.2 (by omega)
    rw [e]; first | rfl | simp, rfl⟩
set_option maxRecDepth 100000 in
set_option maxHeartbeats 4000000 in
/-- the closure of Best -/
theorem best1_any (c : Nat) (g : Nat) (v : Value) (l : List Int) (x : Int) (w : World) (hg : w.cell? ⟨g, 0, none⟩ = some v) (hv : InSl w w.heap.size v l) (hx : l[c]? = some x) (hr : 0 ≤ x ∧ x ≤ 65535) :
    Calls Tryd.prog 85 #[.int .i64 (c : Int), .pointer (some ⟨g, 0, none⟩)] w fun e w' => e = .returned (.bool (!decZ x)) ∧ w = w' := by
  obtain ⟨A, cc, rfl, _⟩ := hv.form
  have hA : InA w w.heap.size A l := by obtain ⟨_, _, e, _, _, h⟩ := hv; cases e; exact h
  have hlt : c < l.length := (List.getElem?_eq_some_iff.1 hx).1
  obtain ⟨x', ad, hx', rfl, _, hcx⟩ := hA.at_ rfl hlt
  rw [hx] at hx'; injection hx' with hx'; subst hx'
  have HC := Lib.hid (isDecided_any x w hr)
  generalize l.length = n at *
  obtain ⟨d, hd⟩ : ∃ d, decZ x = d := ⟨_, rfl⟩
  rw [hd] at HC ⊢
  clear hA hv hx hr hd
  go_enter Tryd.func85, Tryd.ntmps85
  go_wp2_with fail
  (with_reducible refine HC.out.mono ?_)
  rintro e w1 ⟨rfl, rfl⟩
  go_wp2_with fail
  go_ret
  exact ⟨rfl, rfl⟩
end Go.Proofs.YthfegbcbpeedbaaDoor
