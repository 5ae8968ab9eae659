/- The reference's decimal digits. -/
import Derived.Test.YtabolonlkocopaaGreatDoorTxt
import Derived.Laws.BytesString
namespace Go.Proofs.YtabolonlkocopaaGreatDoor
open Go.RowKit Go.Plc
attribute [local go_sem] ba_app

/-- digits from the last one on: a further one as long as there is any number left, or there are too few -/
def digF : Nat → Nat → Nat → List UInt8 → List UInt8
  | 0, _, _, acc => acc
  | f + 1, n, k, acc => if 0 < n ∨ acc.length < k then digF f (n / 10) k (UInt8.ofNat (48 + n % 10) :: acc) else acc
theorem digF_go {f n k : Nat} {acc : List UInt8} (h : 0 < n ∨ acc.length < k) : digF (f + 1) n k acc = digF f (n / 10) k (UInt8.ofNat (48 + n % 10) :: acc) := by
  rw [digF, if_pos h]
theorem digF_end {f k : Nat} {acc : List UInt8} (h : ¬ acc.length < k) : digF f 0 k acc = acc := by
  cases f with
  | zero => rfl
  | succ f => rw [digF, if_neg (by omega)]
theorem digF_dec : ∀ (f n : Nat) (acc : List UInt8), 0 < n → n < 10 ^ f → ∀ k, k ≤ acc.length + 1 → digF f n k acc = Lib.decDigits n ++ acc
  | 0, n, acc, h0, h1, _, _ => by simp at h1; omega
  | f + 1, n, acc, h0, h1, k, hk => by
    rw [digF_go (.inl h0)]
    by_cases h10 : n < 10
    · rw [show n / 10 = 0 by omega, digF_end (by simp; omega), Lib.decDigits_one h10, show n % 10 = n by omega]; rfl
    · rw [digF_dec f (n / 10) _ (by omega) (by rw [Nat.pow_succ] at h1; omega) k (by simp; omega)]
      conv => rhs; rw [Lib.decDigits, dif_neg h10]
      rw [List.append_assoc]; rfl
theorem dig_one {n : Nat} (h : n < 10000) : digF 6 n 1 [] = Lib.itoa (n : Int) := by
  rw [Lib.itoa_nonneg]
  by_cases h0 : n = 0
  · subst h0; rw [digF_go (.inr (by simp)), digF_end (by simp), Lib.decDigits_one (by omega)]
  · rw [digF_dec 6 n [] (by omega) (by omega) 1 (by simp)]; simp
theorem dig_two {n : Nat} (h : n < 100) : digF 6 n 2 [] = two (n : Int) := by
  unfold two
  rw [show (n : Int) / 10 = ((n / 10 : Nat) : Int) by omega, show (n : Int) % 10 = ((n % 10 : Nat) : Int) by omega, Lib.itoa_nonneg, Lib.itoa_nonneg, Lib.decDigits_one (by omega), Lib.decDigits_one (by omega)]
  rw [digF_go (.inr (by simp)), digF_go (.inr (by simp)), show n / 10 / 10 = 0 by omega, digF_end (by simp), show n / 10 % 10 = n / 10 by omega]
  rfl
theorem dig_four {n : Nat} (h1 : 1000 ≤ n) (h : n < 10000) : digF 6 n 4 [] = Lib.itoa (n : Int) := by
  rw [Lib.itoa_nonneg, digF_go (.inl (by omega)), digF_go (.inl (by omega)), digF_go (.inl (by omega)), digF_dec 3 _ _ (by omega) (by omega) 4 (by simp)]
  conv => rhs; rw [Lib.decDigits, dif_neg (by omega), Lib.decDigits, dif_neg (by omega), Lib.decDigits, dif_neg (by omega)]
  simp

theorem infoU8 : (Tryz.prog.info? 5).map (fun i => (i.zero, i.size, i.bytes)) = some (some (.int .u8 0), 1, 1) := by kernel_rfl
/-- one byte made a string -/
theorem byte_string (W : World) (v : Int) (b : UInt8) (hb : UInt8.ofNat v.toNat = b) (c : Nat) (g : Nat) (h : W.cell? ⟨g, 0, none⟩ = some (.int .u8 v)) :
    (convert 105 9 (.slice (some ⟨g, 0, none⟩) 1 c)).run Tryz.prog W = .ok (.string ⟨[b].toArray⟩) W := by
  have h2 := run_loadCells_list (P := Tryz.prog) (w := W) ⟨g, 0, none⟩ [.int .u8 v] (fun j u hj => by
    have hj0 : j = 0 := by have := (List.getElem?_eq_some_iff.1 hj).1; simp at this; omega
    subst hj0
    have e : (⟨g, 0, none⟩ : Addr).add 0 = ⟨g, 0, none⟩ := by unfold Addr.add; rw [if_pos rfl]
    rw [e, h]
    simpa using hj)
  rw [run_convert_bytes_string W _ _ 5 _ _ _ Tryz.underlying105 Tryz.underlying5 Tryz.underlying9]
  rw [run_bytesToString W ⟨g, 0, none⟩ 1 c [v] h2]
  subst hb
  rfl

set_option maxRecDepth 100000 in
set_option maxHeartbeats 4000000 in
theorem rdigits_any (n k : Nat) (w : World) (hn : n < 10000) (hk : k ≤ 4) :
    Calls Tryz.prog 72 #[.int .i64 n, .int .i64 k] w fun e w' => e = .returned (.string ⟨(digF 6 n k []).toArray⟩) ∧ Below w.heap.size w w' := by
  generalize hR : digF 6 n k [] = R
  have HR := Lib.hid hR
  clear hR
  go_enter Tryz.func72, Tryz.ntmps72
  go_wp2_with fail
  go_loopw [0, 5] (fun nv sv wr => ∃ (f m : Nat) (acc : List UInt8), nv = .int .i64 (m : Int) ∧ sv = .string ⟨acc.toArray⟩ ∧ digF f m k acc = R ∧ m < 10 ^ f ∧ k ≤ acc.length + f ∧ f + acc.length = 6 ∧ Below w.heap.size w wr) (fun _ sv _ => 6 - (match sv with | .string b => b.size | _ => 0))
  case atStart => exact ⟨6, n, [], rfl, rfl, HR.out, by omega, by simp; omega, rfl, Below.refl _ _⟩
  case round =>
    obtain ⟨f, m, acc, rfl, rfl, hrun, hm, hka, hf, hbel⟩ := hrel
    have HRu := Lib.hid hrun
    have HB := Lib.hid hbel
    clear hrun hbel
    have hs1 : (⟨acc.toArray⟩ : ByteArray).size = acc.length := by simp [ByteArray.size]
    by_cases hc : 0 < m ∨ acc.length < k
    · obtain ⟨q, rfl⟩ : ∃ q, f = q + 1 := ⟨f - 1, by
        rcases Nat.eq_zero_or_pos f with h | h
        · subst h; simp at hm; omega
        · omega⟩
      have HR2 := Lib.hid (show digF q (m / 10) k (UInt8.ofNat (48 + m % 10) :: acc) = R from by rw [← HRu.out, digF_go hc])
      have hacc : acc.length ≤ 6 := by omega
      have hmb : m < 1000000 := Nat.lt_of_lt_of_le hm (Nat.pow_le_pow_right (by decide : 0 < 10) (by omega : q + 1 ≤ 6))
      have hw10 : IntKind.i64.wrap ((m : Int) / 10) = ((m / 10 : Nat) : Int) := by rw [IntKind.wrap_i64]; omega
      have HM10 := Lib.hid (show m / 10 < 10 ^ q from by rw [Nat.pow_succ] at hm; omega)
      obtain ⟨b, hb⟩ : ∃ b, UInt8.ofNat (48 + m % 10) = b := ⟨_, rfl⟩
      rw [hb] at HR2
      by_cases h0 : (0 : Int) < (m : Int)
      · have hcv := byte_string (wr.alloc (.cells #[.int .u8 (48 + (m : Int) % 10)] 5)) (48 + (m : Int) % 10) b (by rw [← hb]; congr 1) 1 wr.heap.size (by simp)
        clear hb
        go_wp2_with fail
        go_roundw
        case rel => exact ⟨q, m / 10, b :: acc, rfl, rfl, HR2.out, HM10.out, by simp; omega, by simp; omega, HB.out.trans ((below_new _).mono HB.out.size)⟩
        case measure => simp [ByteArray.size]; omega
      · have h1 : (acc.length : Int) < (k : Int) := by omega
        obtain rfl : m = 0 := by omega
        have hcv := byte_string (wr.alloc (.cells #[.int .u8 48] 5)) 48 b hb 1 wr.heap.size (by simp)
        clear hb hw10
        go_wp2_with fail
        go_roundw
        case rel => exact ⟨q, 0, b :: acc, rfl, rfl, HR2.out, HM10.out, by simp; omega, by simp; omega, HB.out.trans ((below_new _).mono HB.out.size)⟩
        case measure => simp [ByteArray.size]; omega
    · have h0 : ¬ (0 : Int) < (m : Int) := by omega
      have h1 : ¬ (acc.length : Int) < (k : Int) := by omega
      have HE := Lib.hid (show R = acc from by rw [← HRu.out, show m = 0 by omega, digF_end (by omega)])
      go_wp2_with fail
      go_ret
      exact ⟨ret_v (by rw [HE.out]; rfl), HB.out⟩
end Go.Proofs.YtabolonlkocopaaGreatDoor
