/- best, Best. -/
import Derived.Test.YthfegbcbpeedbaaDoorKyN
namespace Go.Ky
open Go.Nm
theorem mx_all {m : Mx} (h : mxF m = true) : chrF m.st = true ∧ m.rows.length ≤ 400 ∧ ∀ r ∈ m.rows, setsF m.st r.may = true := by
  unfold mxF rowsF at h
  simp only [Bool.and_eq_true, decide_eq_true_eq] at h
  exact ⟨h.1, h.2.1, fun r hr => (List.all_eq_true.1 h.2.2.2) r hr⟩
theorem sets_len' {st l : List Int} (h : setsF st l = true) : l.length = st.length := by
  unfold setsF at h
  rw [Bool.and_eq_true] at h
  exact of_decide_eq_true h.1
def p1 (x : Nat) : Nat := (x / 2 &&& 6148914691236517205) + (x &&& 6148914691236517205)
def p2 (x : Nat) : Nat := (x / 4 &&& 3689348814741910323) + (x &&& 3689348814741910323)
def p3 (x : Nat) : Nat := (x / 16 + x) &&& 1085102592571150095
def popN (x : Nat) : Nat := (let x3 := p3 (p2 (p1 x)); let x4 := x3 + x3 / 256; let x5 := x4 + x4 / 65536; x5 + x5 / 4294967296) &&& 127
def decZ (z : Int) : Bool := decide (popN z.toNat = 1)
def popB (x : Nat) : Bool := Nat.beq x 0 || ((Nat.beq (popN x) 1) == (Nat.beq x (2 ^ tzN x)))
theorem popB_all : chk2 popB 16 0 = true := by kernel_rfl
/-- one bit: it is the least -/
theorem dec_iff {x : Nat} (h0 : 0 < x) (h : x < 65536) : popN x = 1 ↔ x = 2 ^ tzN x := by
  have h1 := chk2_all popB 16 0 popB_all x (by omega) (by omega)
  unfold popB at h1
  rw [Bool.or_eq_true] at h1
  rcases h1 with h1 | h1
  · have := Nat.eq_of_beq_eq_true h1; omega
  · have h2 : Nat.beq (popN x) 1 = Nat.beq x (2 ^ tzN x) := by simpa using h1
    constructor
    · intro h3
      exact Nat.eq_of_beq_eq_true (h2.symm.trans (by rw [h3]; rfl))
    · intro h3
      exact Nat.eq_of_beq_eq_true (h2.trans (by rw [← h3]; exact Nat.beq_refl x))
end Go.Ky
namespace Go.Proofs.YthfegbcbpeedbaaDoor
open Go.RowKit Go.Nm Go.Ky

set_option maxRecDepth 100000 in
set_option maxHeartbeats 8000000 in
theorem Ones64_any (x : Nat) (w : World) (hx : x < 65536) :
    Calls Tryd.prog 132 #[.int .u64 (x : Int)] w fun e w' => e = .returned (.int .i64 ((popN x : Nat) : Int)) ∧ w = w' := by
  obtain ⟨q1, hq1⟩ : ∃ n, x / 2 = n := ⟨_, rfl⟩
  have bq1 : q1 ≤ 40000 := by rw [← hq1]; omega
  have sq1 : (x : Int) / 2 ^ 1 = (q1 : Int) := by omega
  have sq1b : (x : Int) / 2 = (q1 : Int) := by omega
  obtain ⟨a1, ha1⟩ : ∃ n, q1 &&& 6148914691236517205 = n := ⟨_, rfl⟩
  have ba1 : a1 ≤ 40000 := by rw [← ha1]; have := Nat.and_le_left (n := q1) (m := 6148914691236517205); omega
  have aa1 : bits BinOp.and IntKind.u64 (q1 : Int) 6148914691236517205 = (a1 : Int) := by rw [← ha1]; exact and_u64 (x := q1) (y := 6148914691236517205) (by omega) (by decide)
  obtain ⟨c1, hc1⟩ : ∃ n, x &&& 6148914691236517205 = n := ⟨_, rfl⟩
  have bc1 : c1 ≤ 65535 := by rw [← hc1]; have := Nat.and_le_left (n := x) (m := 6148914691236517205); omega
  have ac1 : bits BinOp.and IntKind.u64 (x : Int) 6148914691236517205 = (c1 : Int) := by rw [← hc1]; exact and_u64 (x := x) (y := 6148914691236517205) (by omega) (by decide)
  obtain ⟨x1, hx1⟩ : ∃ n, a1 + c1 = n := ⟨_, rfl⟩
  have bx1 : x1 ≤ 110000 := by rw [← hx1]; omega
  have wx1 : IntKind.u64.wrap ((a1 : Int) + (c1 : Int)) = (x1 : Int) := by rw [show (a1 : Int) + (c1 : Int) = (x1 : Int) from by omega]; exact wrap_u64 (by omega)
  have vx1 : (a1 : Int) + (c1 : Int) = (x1 : Int) := by omega
  obtain ⟨q2, hq2⟩ : ∃ n, x1 / 4 = n := ⟨_, rfl⟩
  have bq2 : q2 ≤ 30000 := by rw [← hq2]; omega
  have sq2 : (x1 : Int) / 2 ^ 2 = (q2 : Int) := by omega
  have sq2b : (x1 : Int) / 4 = (q2 : Int) := by omega
  obtain ⟨a2, ha2⟩ : ∃ n, q2 &&& 3689348814741910323 = n := ⟨_, rfl⟩
  have ba2 : a2 ≤ 30000 := by rw [← ha2]; have := Nat.and_le_left (n := q2) (m := 3689348814741910323); omega
  have aa2 : bits BinOp.and IntKind.u64 (q2 : Int) 3689348814741910323 = (a2 : Int) := by rw [← ha2]; exact and_u64 (x := q2) (y := 3689348814741910323) (by omega) (by decide)
  obtain ⟨c2, hc2⟩ : ∃ n, x1 &&& 3689348814741910323 = n := ⟨_, rfl⟩
  have bc2 : c2 ≤ 110000 := by rw [← hc2]; have := Nat.and_le_left (n := x1) (m := 3689348814741910323); omega
  have ac2 : bits BinOp.and IntKind.u64 (x1 : Int) 3689348814741910323 = (c2 : Int) := by rw [← hc2]; exact and_u64 (x := x1) (y := 3689348814741910323) (by omega) (by decide)
  obtain ⟨x2, hx2⟩ : ∃ n, a2 + c2 = n := ⟨_, rfl⟩
  have bx2 : x2 ≤ 140000 := by rw [← hx2]; omega
  have wx2 : IntKind.u64.wrap ((a2 : Int) + (c2 : Int)) = (x2 : Int) := by rw [show (a2 : Int) + (c2 : Int) = (x2 : Int) from by omega]; exact wrap_u64 (by omega)
  have vx2 : (a2 : Int) + (c2 : Int) = (x2 : Int) := by omega
  obtain ⟨q3, hq3⟩ : ∃ n, x2 / 16 = n := ⟨_, rfl⟩
  have bq3 : q3 ≤ 10000 := by rw [← hq3]; omega
  have sq3 : (x2 : Int) / 2 ^ 4 = (q3 : Int) := by omega
  have sq3b : (x2 : Int) / 16 = (q3 : Int) := by omega
  obtain ⟨y3, hy3⟩ : ∃ n, q3 + x2 = n := ⟨_, rfl⟩
  have by3 : y3 ≤ 150000 := by rw [← hy3]; omega
  have wy3 : IntKind.u64.wrap ((q3 : Int) + (x2 : Int)) = (y3 : Int) := by rw [show (q3 : Int) + (x2 : Int) = (y3 : Int) from by omega]; exact wrap_u64 (by omega)
  have vy3 : (q3 : Int) + (x2 : Int) = (y3 : Int) := by omega
  obtain ⟨x3, hx3⟩ : ∃ n, y3 &&& 1085102592571150095 = n := ⟨_, rfl⟩
  have bx3 : x3 ≤ 150000 := by rw [← hx3]; have := Nat.and_le_left (n := y3) (m := 1085102592571150095); omega
  have ax3 : bits BinOp.and IntKind.u64 (y3 : Int) 1085102592571150095 = (x3 : Int) := by rw [← hx3]; exact and_u64 (x := y3) (y := 1085102592571150095) (by omega) (by decide)
  obtain ⟨q4, hq4⟩ : ∃ n, x3 / 256 = n := ⟨_, rfl⟩
  have bq4 : q4 ≤ 600 := by rw [← hq4]; omega
  have sq4 : (x3 : Int) / 2 ^ 8 = (q4 : Int) := by omega
  have sq4b : (x3 : Int) / 256 = (q4 : Int) := by omega
  obtain ⟨x4, hx4⟩ : ∃ n, x3 + q4 = n := ⟨_, rfl⟩
  have bx4 : x4 ≤ 151000 := by rw [← hx4]; omega
  have wx4 : IntKind.u64.wrap ((x3 : Int) + (q4 : Int)) = (x4 : Int) := by rw [show (x3 : Int) + (q4 : Int) = (x4 : Int) from by omega]; exact wrap_u64 (by omega)
  have vx4 : (x3 : Int) + (q4 : Int) = (x4 : Int) := by omega
  obtain ⟨q5, hq5⟩ : ∃ n, x4 / 65536 = n := ⟨_, rfl⟩
  have bq5 : q5 ≤ 3 := by rw [← hq5]; omega
  have sq5 : (x4 : Int) / 2 ^ 16 = (q5 : Int) := by omega
  have sq5b : (x4 : Int) / 65536 = (q5 : Int) := by omega
  obtain ⟨x5, hx5⟩ : ∃ n, x4 + q5 = n := ⟨_, rfl⟩
  have bx5 : x5 ≤ 152000 := by rw [← hx5]; omega
  have wx5 : IntKind.u64.wrap ((x4 : Int) + (q5 : Int)) = (x5 : Int) := by rw [show (x4 : Int) + (q5 : Int) = (x5 : Int) from by omega]; exact wrap_u64 (by omega)
  have vx5 : (x4 : Int) + (q5 : Int) = (x5 : Int) := by omega
  obtain ⟨q6, hq6⟩ : ∃ n, x5 / 4294967296 = n := ⟨_, rfl⟩
  have bq6 : q6 ≤ 0 := by rw [← hq6]; omega
  have sq6 : (x5 : Int) / 2 ^ 32 = (q6 : Int) := by omega
  have sq6b : (x5 : Int) / 4294967296 = (q6 : Int) := by omega
  obtain ⟨x6, hx6⟩ : ∃ n, x5 + q6 = n := ⟨_, rfl⟩
  have bx6 : x6 ≤ 153000 := by rw [← hx6]; omega
  have wx6 : IntKind.u64.wrap ((x5 : Int) + (q6 : Int)) = (x6 : Int) := by rw [show (x5 : Int) + (q6 : Int) = (x6 : Int) from by omega]; exact wrap_u64 (by omega)
  have vx6 : (x5 : Int) + (q6 : Int) = (x6 : Int) := by omega
  obtain ⟨r, hr⟩ : ∃ n, x6 &&& 127 = n := ⟨_, rfl⟩
  have ar : bits BinOp.and IntKind.i64 (x6 : Int) 127 = (r : Int) := by rw [← hr]; exact and_i64 (x := x6) (y := 127) (by omega) (by decide)
  have cw : IntKind.i64.wrap (x6 : Int) = (x6 : Int) := by rw [IntKind.wrap_i64]; omega
  have HR := Lib.hid (show popN x = r from by
    have e1 : p1 x = x1 := by unfold p1; rw [hq1, ha1, hc1, hx1]
    have e2 : p2 x1 = x2 := by unfold p2; rw [hq2, ha2, hc2, hx2]
    have e3 : p3 x2 = x3 := by unfold p3; rw [hq3, hy3, hx3]
    unfold popN
    simp only [e1, e2, e3, hq4, hx4, hq5, hx5, hq6, hx6, hr])
  rw [HR.out]
  clear hq1 ha1 hc1 hx1 hq2 ha2 hc2 hx2 hq3 hy3 hx3 hq4 hx4 hq5 hx5 hq6 hx6 hr HR vx1 vx2 vy3 vx4 vx5 vx6
  go_enter Tryd.func132, Tryd.ntmps132
  go_wp2_with fail
  go_ret
  exact ⟨rfl, rfl⟩
set_option maxRecDepth 100000 in
set_option maxHeartbeats 4000000 in
theorem Ones_any (x : Nat) (w : World) (hx : x < 65536) :
    Calls Tryd.prog 117 #[.int .u64 (x : Int)] w fun e w' => e = .returned (.int .i64 ((popN x : Nat) : Int)) ∧ w = w' := by
  have HC := Lib.hid (Ones64_any x w hx)
  clear hx
  go_enter Tryd.func117, Tryd.ntmps117
  go_wp2_with fail
  (with_reducible refine HC.out.mono ?_)
  rintro e w1 ⟨rfl, rfl⟩
  go_wp2_with fail
  go_ret
  exact ⟨rfl, rfl⟩
set_option maxRecDepth 100000 in
set_option maxHeartbeats 4000000 in
theorem isDecided_any (z : Int) (w : World) (hz : 0 ≤ z ∧ z ≤ 65535) :
    Calls Tryd.prog 86 #[.int .i64 z] w fun e w' => e = .returned (.bool (decZ z)) ∧ w = w' := by
  obtain ⟨n, rfl⟩ : ∃ n : Nat, z = (n : Int) := ⟨z.toNat, by omega⟩
  have HC := Lib.hid (Ones_any n w (by omega))
  have hwz : IntKind.u64.wrap (n : Int) = (n : Int) := wrap_u64 (by omega)
  have HD := Lib.hid (show decZ (n : Int) = decide (popN n = 1) from by unfold decZ; rw [Int.toNat_natCast])
  rw [HD.out]
  obtain ⟨p, hp⟩ : ∃ p, popN n = p := ⟨_, rfl⟩
  rw [hp] at HC ⊢
  clear hz hp
  go_enter Tryd.func86, Tryd.ntmps86
  go_wp2_with fail
  (with_reducible refine HC.out.mono ?_)
  rintro e w1 ⟨rfl, rfl⟩
  go_wp2_with fail
  go_ret
  exact ⟨by
    have e : decide (p = 1) = decide ((p : Int) = 1) := decide_eq_decide.2 (by omega)
    rw [e]; first | rfl | simp, rfl⟩
set_option maxRecDepth 100000 in
set_option maxHeartbeats 4000000 in
/-- the closure of Best -/
theorem best1_any (c : Nat) (g : Nat) (v : Value) (l : List Int) (x : Int) (w : World) (hg : w.cell? ⟨g, 0, none⟩ = some v) (hv : InSl w w.heap.size v l) (hx : l[c]? = some x) (hr : 0 ≤ x ∧ x ≤ 65535) :
    Calls Tryd.prog 85 #[.int .i64 (c : Int), .pointer (some ⟨g, 0, none⟩)] w fun e w' => e = .returned (.bool (!decZ x)) ∧ w = w' := by
  obtain ⟨A, cc, rfl, _⟩ := hv.form
  have hA : InA w w.heap.size A l := by obtain ⟨_, _, e, _, _, h⟩ := hv; cases e; exact h
  have hlt : c < l.length := (List.getElem?_eq_some_iff.1 hx).1
  obtain ⟨x', ad, hx', rfl, _, hcx⟩ := hA.at_ rfl hlt
  rw [hx] at hx'; injection hx' with hx'; subst hx'
  have HC := Lib.hid (isDecided_any x w hr)
  generalize l.length = n at *
  obtain ⟨d, hd⟩ : ∃ d, decZ x = d := ⟨_, rfl⟩
  rw [hd] at HC ⊢
  clear hA hv hx hr hd
  go_enter Tryd.func85, Tryd.ntmps85
  go_wp2_with fail
  (with_reducible refine HC.out.mono ?_)
  rintro e w1 ⟨rfl, rfl⟩
  go_wp2_with fail
  go_ret
  exact ⟨rfl, rfl⟩
end Go.Proofs.YthfegbcbpeedbaaDoor
namespace Go.Ky
open Go.Nm
def bestStep (L : List Rw) (l : List Int) (P : Nat → Bool) (c : Nat) (st : Int × Bool × Int) : Int × Bool × Int :=
  if P c = true then (if (!st.2.1 || decide (worstF L c (l.getD c 0) < st.2.2)) = true then ((c : Int), true, worstF L c (l.getD c 0)) else st) else st
def bestS (L : List Rw) (l : List Int) (P : Nat → Bool) : Nat → Int × Bool × Int
  | 0 => (0, false, 0)
  | c + 1 => bestStep L l P c (bestS L l P c)
theorem bestS_next (L : List Rw) (l : List Int) (P : Nat → Bool) (c : Nat) : bestS L l P (c + 1) = bestStep L l P c (bestS L l P c) := rfl
def bestE (m : Mx) (l : List Int) : Int := if seenE m [l] = 0 then (if (bestS (remL m.rows l) l (fun c => !decZ (l.getD c 0)) l.length).2.1 = true then 0 else 3) else seenE m [l]
def bestC (m : Mx) (l : List Int) : Int := if bestE m l = 0 then (bestS (remL m.rows l) l (fun c => !decZ (l.getD c 0)) l.length).1 else 0
theorem bestS_zero (L : List Rw) (l : List Int) (P : Nat → Bool) : ∀ n, (bestS L l P n).2.1 = false → (bestS L l P n).1 = 0
  | 0, _ => rfl
  | n + 1, h => by
    rw [bestS_next] at h ⊢
    unfold bestStep at h ⊢
    split at h
    · rename_i hp
      rw [if_pos hp]
      split at h
      · cases h
      · rename_i hq
        rw [if_neg hq]
        exact bestS_zero L l P n h
    · rename_i hp
      rw [if_neg hp]
      exact bestS_zero L l P n h
end Go.Ky
namespace Go.Proofs.YthfegbcbpeedbaaDoor
open Go.RowKit Go.Nm Go.Ky

set_option maxRecDepth 100000 in
set_option maxHeartbeats 8000000 in
theorem bestB_any (g : Nat) (v u : Value) (L : List Rw) (l : List Int) (P : Nat → Bool) (w : World) (hv : IlSl w w.heap.size v L) (hu : InSl w w.heap.size u l) (hn : L.length ≤ 1000) (hl : l.length ≤ 1000) (hs : ∀ (k : Nat) (x : Int), l[k]? = some x → 0 ≤ x ∧ x ≤ 65535) (hL : ∀ r ∈ L, ∀ c < l.length, ∃ y, r.may[c]? = some y ∧ 0 ≤ y ∧ y ≤ 65535)
    (hF : ∀ X, Below w.heap.size w X → ∀ (c : Nat) (x : Int), l[c]? = some x → Calls Tryd.prog 85 #[.int .i64 (c : Int), .pointer (some ⟨g, 0, none⟩)] X fun e w' => e = .returned (.bool (P c)) ∧ Below X.heap.size X w') :
    Calls Tryd.prog 84 #[v, u, .func (.func 85) #[] #[.pointer (some ⟨g, 0, none⟩)]] w fun e w' => e = .returned (.tuple #[.int .i64 (bestS L l P l.length).1, .bool (bestS L l P l.length).2.1]) ∧ Below w.heap.size w w' := by
  have HU := Lib.hid hv
  have HT := Lib.hid hu
  have HF := Lib.hid hF
  have HS := Lib.hid hs
  have HLc := Lib.hid hL
  have HWo := Lib.hid (fun Y (h : Below w.heap.size w Y) (c : Nat) (x : Int) (hx : l[c]? = some x) => worst_any v L c x Y (((hv.below h).mono h.size)) hn (hs c x hx) (fun r hr => hL r hr c (List.getElem?_eq_some_iff.1 hx).1))
  obtain ⟨A, cc, rfl⟩ := hv.form
  obtain ⟨Al, cl, rfl, _⟩ := hu.form
  obtain ⟨nl, hnl⟩ : ∃ nl, l.length = nl := ⟨_, rfl⟩
  have HNl := Lib.hid hnl
  obtain ⟨n, h⟩ : ∃ n, L.length = n := ⟨_, rfl⟩
  rw [h] at HU HWo hn ⊢
  rw [hnl] at HT hl ⊢
  clear hv hu h hF hs hL hnl
  go_enter Tryd.func84, Tryd.ntmps84
  go_wp2_with fail
  go_loopw [6, 7, 8, 14] (fun cv fv lv iv wr => ∃ (i : Nat) (st : Int × Bool × Int), iv = .int .i64 (i : Int) ∧ cv = .int .i64 st.1 ∧ fv = .bool st.2.1 ∧ lv = .int .i64 st.2.2 ∧ i ≤ nl ∧ Below w.heap.size w wr ∧ bestS L l P i = st) (fun _ _ _ iv _ => nl - (intOf iv).toNat)
  case atStart => exact ⟨0, (0, false, 0), rfl, rfl, rfl, rfl, by omega, Below.refl _ _, rfl⟩
  case round =>
    obtain ⟨i, ⟨bc, bf, bl⟩, rfl, rfl, rfl, rfl, hin, hb, hst⟩ := hrel
    have HB := Lib.hid hb
    have HSt := Lib.hid hst
    clear hb hst
    simp only at *
    by_cases hlt : i < nl
    · have HA := Lib.hid (show InA wr wr.heap.size Al l from by obtain ⟨_, _, e, _, _, h⟩ := HT.out.step HB.out; cases e; exact h)
      obtain ⟨x, ad, hx, rfl, _, hcx⟩ := HA.out.at_ HNl.out hlt
      have HX := Lib.hid hx
      have HFi := Lib.hid (HF.out wr HB.out i x hx)
      have HN1 := Lib.hid (show bestS L l P (i + 1) = bestStep L l P i (bc, bf, bl) from by rw [← HSt.out]; exact bestS_next L l P i)
      clear hx
      go_wp2_with fail
      (with_reducible refine HFi.out.mono ?_)
      rintro e w1 ⟨rfl, hb⟩
      have HB1 := Lib.hid (HB.out.trans (hb.mono HB.out.size))
      clear hb HFi
      cases hp : P i with
      | false =>
        have HR := Lib.hid (show bestS L l P (i + 1) = (bc, bf, bl) from by rw [HN1.out]; unfold bestStep; rw [hp]; rfl)
        clear hp
        go_wp2_with fail
        go_roundw
        case rel => exact ⟨i + 1, (bc, bf, bl), by go_num, rfl, rfl, rfl, by omega, HB1.out, HR.out⟩
        case measure => simp [intOf]; omega
      | true =>
        have HW := Lib.hid (HWo.out w1 HB1.out i x HX.out)
        have HG := Lib.hid (show l.getD i 0 = x from by rw [List.getD_eq_getElem?_getD, HX.out]; rfl)
        have HR0 := Lib.hid (show bestS L l P (i + 1) = (if (!bf || decide (worstF L i x < bl)) = true then ((i : Int), true, worstF L i x) else (bc, bf, bl)) from by rw [HN1.out]; unfold bestStep; rw [hp, HG.out]; rfl)
        obtain ⟨wv, hwv⟩ : ∃ wv, worstF L i x = wv := ⟨_, rfl⟩
        rw [hwv] at HW HR0
        clear hp hwv
        go_wp2_with fail
        (with_reducible refine HW.out.mono ?_)
        rintro e w2 ⟨rfl, hb⟩
        have HB2 := Lib.hid (HB1.out.trans (hb.mono HB1.out.size))
        clear hb HW
        cases bf with
        | false =>
          have HR := Lib.hid (show bestS L l P (i + 1) = ((i : Int), true, wv) from by rw [HR0.out]; simp)
          go_wp2_with fail
          go_roundw
          case rel => exact ⟨i + 1, ((i : Int), true, wv), by go_num, rfl, rfl, rfl, by omega, HB2.out, HR.out⟩
          case measure => simp [intOf]; omega
        | true =>
          by_cases hlw : wv < bl
          · have HR := Lib.hid (show bestS L l P (i + 1) = ((i : Int), true, wv) from by rw [HR0.out]; simp [hlw])
            go_wp2_with fail
            go_roundw
            case rel => exact ⟨i + 1, ((i : Int), true, wv), by go_num, rfl, rfl, rfl, by omega, HB2.out, HR.out⟩
            case measure => simp [intOf]; omega
          · have HR := Lib.hid (show bestS L l P (i + 1) = (bc, true, bl) from by rw [HR0.out]; simp [hlw])
            go_wp2_with fail
            go_roundw
            case rel => exact ⟨i + 1, (bc, true, bl), by go_num, rfl, rfl, rfl, by omega, HB2.out, HR.out⟩
            case measure => simp [intOf]; omega
    · obtain rfl : nl = i := by omega
      go_wp2_with fail
      go_ret2
      exact ⟨by rw [HSt.out]; rfl, HB.out⟩
set_option maxRecDepth 100000 in
set_option maxHeartbeats 8000000 in
theorem bestG_any (g1 g2 : Nat) (v u : Value) (L : List Rw) (l : List Int) (P : Nat → Bool) (w : World) (hv : IlSl w w.heap.size v L) (hu : InSl w w.heap.size u l) (hn : L.length ≤ 1000) (hl : l.length ≤ 1000) (hs : ∀ (k : Nat) (x : Int), l[k]? = some x → 0 ≤ x ∧ x ≤ 65535) (hL : ∀ r ∈ L, ∀ c < l.length, ∃ y, r.may[c]? = some y ∧ 0 ≤ y ∧ y ≤ 65535)
    (hF : ∀ X, Below w.heap.size w X → ∀ (c : Nat) (x : Int), l[c]? = some x → Calls Tryd.prog 121 #[.int .i64 (c : Int), .pointer (some ⟨g1, 0, none⟩), .pointer (some ⟨g2, 0, none⟩)] X fun e w' => e = .returned (.bool (P c)) ∧ Below X.heap.size X w') :
    Calls Tryd.prog 84 #[v, u, .func (.func 121) #[] #[.pointer (some ⟨g1, 0, none⟩), .pointer (some ⟨g2, 0, none⟩)]] w fun e w' => e = .returned (.tuple #[.int .i64 (bestS L l P l.length).1, .bool (bestS L l P l.length).2.1]) ∧ Below w.heap.size w w' := by
  have HU := Lib.hid hv
  have HT := Lib.hid hu
  have HF := Lib.hid hF
  have HS := Lib.hid hs
  have HLc := Lib.hid hL
  have HWo := Lib.hid (fun Y (h : Below w.heap.size w Y) (c : Nat) (x : Int) (hx : l[c]? = some x) => worst_any v L c x Y (((hv.below h).mono h.size)) hn (hs c x hx) (fun r hr => hL r hr c (List.getElem?_eq_some_iff.1 hx).1))
  obtain ⟨A, cc, rfl⟩ := hv.form
  obtain ⟨Al, cl, rfl, _⟩ := hu.form
  obtain ⟨nl, hnl⟩ : ∃ nl, l.length = nl := ⟨_, rfl⟩
  have HNl := Lib.hid hnl
  obtain ⟨n, h⟩ : ∃ n, L.length = n := ⟨_, rfl⟩
  rw [h] at HU HWo hn ⊢
  rw [hnl] at HT hl ⊢
  clear hv hu h hF hs hL hnl
  go_enter Tryd.func84, Tryd.ntmps84
  go_wp2_with fail
  go_loopw [6, 7, 8, 14] (fun cv fv lv iv wr => ∃ (i : Nat) (st : Int × Bool × Int), iv = .int .i64 (i : Int) ∧ cv = .int .i64 st.1 ∧ fv = .bool st.2.1 ∧ lv = .int .i64 st.2.2 ∧ i ≤ nl ∧ Below w.heap.size w wr ∧ bestS L l P i = st) (fun _ _ _ iv _ => nl - (intOf iv).toNat)
  case atStart => exact ⟨0, (0, false, 0), rfl, rfl, rfl, rfl, by omega, Below.refl _ _, rfl⟩
  case round =>
    obtain ⟨i, ⟨bc, bf, bl⟩, rfl, rfl, rfl, rfl, hin, hb, hst⟩ := hrel
    have HB := Lib.hid hb
    have HSt := Lib.hid hst
    clear hb hst
    simp only at *
    by_cases hlt : i < nl
    · have HA := Lib.hid (show InA wr wr.heap.size Al l from by obtain ⟨_, _, e, _, _, h⟩ := HT.out.step HB.out; cases e; exact h)
      obtain ⟨x, ad, hx, rfl, _, hcx⟩ := HA.out.at_ HNl.out hlt
      have HX := Lib.hid hx
      have HFi := Lib.hid (HF.out wr HB.out i x hx)
      have HN1 := Lib.hid (show bestS L l P (i + 1) = bestStep L l P i (bc, bf, bl) from by rw [← HSt.out]; exact bestS_next L l P i)
      clear hx
      go_wp2_with fail
      (with_reducible refine HFi.out.mono ?_)
      rintro e w1 ⟨rfl, hb⟩
      have HB1 := Lib.hid (HB.out.trans (hb.mono HB.out.size))
      clear hb HFi
      cases hp : P i with
      | false =>
        have HR := Lib.hid (show bestS L l P (i + 1) = (bc, bf, bl) from by rw [HN1.out]; unfold bestStep; rw [hp]; rfl)
        clear hp
        go_wp2_with fail
        go_roundw
        case rel => exact ⟨i + 1, (bc, bf, bl), by go_num, rfl, rfl, rfl, by omega, HB1.out, HR.out⟩
        case measure => simp [intOf]; omega
      | true =>
        have HW := Lib.hid (HWo.out w1 HB1.out i x HX.out)
        have HG := Lib.hid (show l.getD i 0 = x from by rw [List.getD_eq_getElem?_getD, HX.out]; rfl)
        have HR0 := Lib.hid (show bestS L l P (i + 1) = (if (!bf || decide (worstF L i x < bl)) = true then ((i : Int), true, worstF L i x) else (bc, bf, bl)) from by rw [HN1.out]; unfold bestStep; rw [hp, HG.out]; rfl)
        obtain ⟨wv, hwv⟩ : ∃ wv, worstF L i x = wv := ⟨_, rfl⟩
        rw [hwv] at HW HR0
        clear hp hwv
        go_wp2_with fail
        (with_reducible refine HW.out.mono ?_)
        rintro e w2 ⟨rfl, hb⟩
        have HB2 := Lib.hid (HB1.out.trans (hb.mono HB1.out.size))
        clear hb HW
        cases bf with
        | false =>
          have HR := Lib.hid (show bestS L l P (i + 1) = ((i : Int), true, wv) from by rw [HR0.out]; simp)
          go_wp2_with fail
          go_roundw
          case rel => exact ⟨i + 1, ((i : Int), true, wv), by go_num, rfl, rfl, rfl, by omega, HB2.out, HR.out⟩
          case measure => simp [intOf]; omega
        | true =>
          by_cases hlw : wv < bl
          · have HR := Lib.hid (show bestS L l P (i + 1) = ((i : Int), true, wv) from by rw [HR0.out]; simp [hlw])
            go_wp2_with fail
            go_roundw
            case rel => exact ⟨i + 1, ((i : Int), true, wv), by go_num, rfl, rfl, rfl, by omega, HB2.out, HR.out⟩
            case measure => simp [intOf]; omega
          · have HR := Lib.hid (show bestS L l P (i + 1) = (bc, true, bl) from by rw [HR0.out]; simp [hlw])
            go_wp2_with fail
            go_roundw
            case rel => exact ⟨i + 1, (bc, true, bl), by go_num, rfl, rfl, rfl, by omega, HB2.out, HR.out⟩
            case measure => simp [intOf]; omega
    · obtain rfl : nl = i := by omega
      go_wp2_with fail
      go_ret2
      exact ⟨by rw [HSt.out]; rfl, HB.out⟩
end Go.Proofs.YthfegbcbpeedbaaDoor
