/- The reference's decimal digits. -/
import Derived.Test.YtabolonlkocopaaGreatDoorTxt
import Derived.Laws.BytesString
import Derived.Test.YtabolonlkocopaaGreatDoorRnt
import Derived.Test.YtabolonlkocopaaGreatDoorBck
import Derived.Test.YtabolonlkocopaaGreatDoorSquW
namespace Go.Proofs.YtabolonlkocopaaGreatDoor
open Go.RowKit Go.Plc
attribute [local go_sem] ba_app

/-- digits from the last one on: a further one as long as there is any number left, or there are too few -/
def digF : Nat → Nat → Nat → List UInt8 → List UInt8
  | 0, _, _, acc => acc
  | f + 1, n, k, acc => if 0 < n ∨ acc.length < k then digF f (n / 10) k (UInt8.ofNat (48 + n % 10) :: acc) else acc
theorem digF_go {f n k : Nat} {acc : List UInt8} (h : 0 < n ∨ acc.length < k) : digF (f + 1) n k acc = digF f (n / 10) k (UInt8.ofNat (48 + n % 10) :: acc) := by
  rw [digF, if_pos h]
theorem digF_end {f k : Nat} {acc : List UInt8} (h : ¬ acc.length < k) : digF f 0 k acc = acc := by
  cases f with
  | zero => rfl
  | succ f => rw [digF, if_neg (by omega)]
theorem digF_dec : ∀ (f n : Nat) (acc : List UInt8), 0 < n → n < 10 ^ f → ∀ k, k ≤ acc.length + 1 → digF f n k acc = Lib.decDigits n ++ acc
  | 0, n, acc, h0, h1, _, _ => by simp at h1; omega
  | f + 1, n, acc, h0, h1, k, hk => by
    rw [digF_go (.inl h0)]
    by_cases h10 : n < 10
    · rw [show n / 10 = 0 by omega, digF_end (by simp; omega), Lib.decDigits_one h10, show n % 10 = n by omega]; rfl
    · rw [digF_dec f (n / 10) _ (by omega) (by rw [Nat.pow_succ] at h1; omega) k (by simp; omega)]
      conv => rhs; rw [Lib.decDigits, dif_neg h10]
      rw [List.append_assoc]; rfl
theorem dig_one {n : Nat} (h : n < 10000) : digF 6 n 1 [] = Lib.itoa (n : Int) := by
  rw [Lib.itoa_nonneg]
  by_cases h0 : n = 0
  · subst h0; rw [digF_go (.inr (by simp)), digF_end (by simp), Lib.decDigits_one (by omega)]
  · rw [digF_dec 6 n [] (by omega) (by omega) 1 (by simp)]; simp
theorem dig_two {n : Nat} (h : n < 100) : digF 6 n 2 [] = two (n : Int) := by
  unfold two
  rw [show (n : Int) / 10 = ((n / 10 : Nat) : Int) by omega, show (n : Int) % 10 = ((n % 10 : Nat) : Int) by omega, Lib.itoa_nonneg, Lib.itoa_nonneg, Lib.decDigits_one (by omega), Lib.decDigits_one (by omega)]
  rw [digF_go (.inr (by simp)), digF_go (.inr (by simp)), show n / 10 / 10 = 0 by omega, digF_end (by simp), show n / 10 % 10 = n / 10 by omega]
  rfl
theorem dig_four {n : Nat} (h1 : 1000 ≤ n) (h : n < 10000) : digF 6 n 4 [] = Lib.itoa (n : Int) := by
  rw [Lib.itoa_nonneg, digF_go (.inl (by omega)), digF_go (.inl (by omega)), digF_go (.inl (by omega)), digF_dec 3 _ _ (by omega) (by omega) 4 (by simp)]
  conv => rhs; rw [Lib.decDigits, dif_neg (by omega), Lib.decDigits, dif_neg (by omega), Lib.decDigits, dif_neg (by omega)]
  simp

theorem infoU8 : (Tryz.prog.info? 5).map (fun i => (i.zero, i.size, i.bytes)) = some (some (.int .u8 0), 1, 1) := by kernel_rfl
/-- one byte made a string -/
theorem byte_string (W : World) (v : Int) (b : UInt8) (hb : UInt8.ofNat v.toNat = b) (c : Nat) (g : Nat) (h : W.cell? ⟨g, 0, none⟩ = some (.int .u8 v)) :
    (convert 105 9 (.slice (some ⟨g, 0, none⟩) 1 c)).run Tryz.prog W = .ok (.string ⟨[b].toArray⟩) W := by
  have h2 := run_loadCells_list (P := Tryz.prog) (w := W) ⟨g, 0, none⟩ [.int .u8 v] (fun j u hj => by
    have hj0 : j = 0 := by have := (List.getElem?_eq_some_iff.1 hj).1; simp at this; omega
    subst hj0
    have e : (⟨g, 0, none⟩ : Addr).add 0 = ⟨g, 0, none⟩ := by unfold Addr.add; rw [if_pos rfl]
    rw [e, h]
    simpa using hj)
  rw [run_convert_bytes_string W _ _ 5 _ _ _ Tryz.underlying105 Tryz.underlying5 Tryz.underlying9]
  rw [run_bytesToString W ⟨g, 0, none⟩ 1 c [v] h2]
  subst hb
  rfl

set_option maxRecDepth 100000 in
set_option maxHeartbeats 4000000 in
theorem rdigits_any (n k : Nat) (w : World) (hn : n < 10000) (hk : k ≤ 4) :
    Calls Tryz.prog 72 #[.int .i64 n, .int .i64 k] w fun e w' => e = .returned (.string ⟨(digF 6 n k []).toArray⟩) ∧ Below w.heap.size w w' := by
  generalize hR : digF 6 n k [] = R
  have HR := Lib.hid hR
  clear hR
  go_enter Tryz.func72, Tryz.ntmps72
  go_wp2_with fail
  go_loopw [0, 5] (fun nv sv wr => ∃ (f m : Nat) (acc : List UInt8), nv = .int .i64 (m : Int) ∧ sv = .string ⟨acc.toArray⟩ ∧ digF f m k acc = R ∧ m < 10 ^ f ∧ k ≤ acc.length + f ∧ f + acc.length = 6 ∧ Below w.heap.size w wr) (fun _ sv _ => 6 - (match sv with | .string b => b.size | _ => 0))
  case atStart => exact ⟨6, n, [], rfl, rfl, HR.out, by omega, by simp; omega, rfl, Below.refl _ _⟩
  case round =>
    obtain ⟨f, m, acc, rfl, rfl, hrun, hm, hka, hf, hbel⟩ := hrel
    have HRu := Lib.hid hrun
    have HB := Lib.hid hbel
    clear hrun hbel
    have hs1 : (⟨acc.toArray⟩ : ByteArray).size = acc.length := by simp [ByteArray.size]
    by_cases hc : 0 < m ∨ acc.length < k
    · obtain ⟨q, rfl⟩ : ∃ q, f = q + 1 := ⟨f - 1, by
        rcases Nat.eq_zero_or_pos f with h | h
        · subst h; simp at hm; omega
        · omega⟩
      have HR2 := Lib.hid (show digF q (m / 10) k (UInt8.ofNat (48 + m % 10) :: acc) = R from by rw [← HRu.out, digF_go hc])
      have hacc : acc.length ≤ 6 := by omega
      have hmb : m < 1000000 := Nat.lt_of_lt_of_le hm (Nat.pow_le_pow_right (by decide : 0 < 10) (by omega : q + 1 ≤ 6))
      have hw10 : IntKind.i64.wrap ((m : Int) / 10) = ((m / 10 : Nat) : Int) := by rw [IntKind.wrap_i64]; omega
      have HM10 := Lib.hid (show m / 10 < 10 ^ q from by rw [Nat.pow_succ] at hm; omega)
      obtain ⟨b, hb⟩ : ∃ b, UInt8.ofNat (48 + m % 10) = b := ⟨_, rfl⟩
      rw [hb] at HR2
      by_cases h0 : (0 : Int) < (m : Int)
      · have hcv := byte_string (wr.alloc (.cells #[.int .u8 (48 + (m : Int) % 10)] 5)) (48 + (m : Int) % 10) b (by rw [← hb]; congr 1) 1 wr.heap.size (by simp)
        clear hb
        go_wp2_with fail
        go_roundw
        case rel => exact ⟨q, m / 10, b :: acc, rfl, rfl, HR2.out, HM10.out, by simp; omega, by simp; omega, HB.out.trans ((below_new _).mono HB.out.size)⟩
        case measure => simp [ByteArray.size]; omega
      · have h1 : (acc.length : Int) < (k : Int) := by omega
        obtain rfl : m = 0 := by omega
        have hcv := byte_string (wr.alloc (.cells #[.int .u8 48] 5)) 48 b hb 1 wr.heap.size (by simp)
        clear hb hw10
        go_wp2_with fail
        go_roundw
        case rel => exact ⟨q, 0, b :: acc, rfl, rfl, HR2.out, HM10.out, by simp; omega, by simp; omega, HB.out.trans ((below_new _).mono HB.out.size)⟩
        case measure => simp [ByteArray.size]; omega
    · have h0 : ¬ (0 : Int) < (m : Int) := by omega
      have h1 : ¬ (acc.length : Int) < (k : Int) := by omega
      have HE := Lib.hid (show R = acc from by rw [← HRu.out, show m = 0 by omega, digF_end (by omega)])
      go_wp2_with fail
      go_ret
      exact ⟨ret_v (by rw [HE.out]; rfl), HB.out⟩
end Go.Proofs.YtabolonlkocopaaGreatDoor

/- The reference's texts: of a date, of a square, of a night. -/
namespace Go.Proofs.YtabolonlkocopaaGreatDoor
open Go.RowKit Go.Plc
attribute [local go_sem] ba_app

theorem rdig_is (n k : Int) (R : List UInt8) (w : World) (h0 : 0 ≤ n) (h1 : n < 10000) (hk0 : 0 ≤ k) (hk : k ≤ 4) (e : digF 6 n.toNat k.toNat [] = R) :
    Calls Tryz.prog 72 #[.int .i64 n, .int .i64 k] w fun e w' => e = .returned (.string ⟨R.toArray⟩) ∧ Below w.heap.size w w' := by
  have h := rdigits_any n.toNat k.toNat w (by omega) (by omega)
  rw [e, Int.toNat_of_nonneg h0, Int.toNat_of_nonneg hk0] at h
  exact h
theorem digI_one {n : Int} (h0 : 0 ≤ n) (h : n < 10000) : digF 6 n.toNat (1 : Int).toNat [] = Lib.itoa n := by
  have := dig_one (n := n.toNat) (by omega); rwa [Int.toNat_of_nonneg h0] at this
theorem digI_two {n : Int} (h0 : 0 ≤ n) (h : n < 100) : digF 6 n.toNat (2 : Int).toNat [] = two n := by
  have := dig_two (n := n.toNat) (by omega); rwa [Int.toNat_of_nonneg h0] at this
theorem digI_four {n : Int} (h0 : 1000 ≤ n) (h : n < 10000) : digF 6 n.toNat (4 : Int).toNat [] = Lib.itoa n := by
  have := dig_four (n := n.toNat) (by omega) (by omega); rwa [Int.toNat_of_nonneg (by omega)] at this

set_option maxRecDepth 100000 in
set_option maxHeartbeats 4000000 in
theorem rtext_any (y m d : Int) (w : World) (hv : vdate y m d = true) :
    Calls Tryz.prog 79 #[.agg #[.int .i64 y, .int .i64 m, .int .i64 d]] w fun e w' => e = .returned (.string ⟨(dateT y m d).toArray⟩) ∧ Below w.heap.size w w' := by
  obtain ⟨v1, v2, v3, v4, v5, v6⟩ := (vdate_iff y m d).1 hv
  have hdm := dom_bd y m
  have l1 := Lib.itoa_length_le (2000 + y) (by omega) (by omega)
  have l2 := two_len m (by omega) (by omega)
  have l3 := two_len d (by omega) (by omega)
  have HD := Lib.hid (show dateT y m d = Lib.itoa (2000 + y) ++ [45] ++ two m ++ [45] ++ two d from rfl)
  have HM := Lib.hid (fun w => rdig_is m 2 _ w (by omega) (by omega) (by omega) (by omega) (digI_two (n := m) (by omega) (by omega)))
  have HDd := Lib.hid (fun w => rdig_is d 2 _ w (by omega) (by omega) (by omega) (by omega) (digI_two (n := d) (by omega) (by omega)))
  have HI := Lib.hid (fun w => rdig_is (2000 + y) 4 _ w (by omega) (by omega) (by omega) (by omega) (digI_four (n := 2000 + y) (by omega) (by omega)))
  have hwr : IntKind.i64.wrap (2000 + y) = 2000 + y := by rw [IntKind.wrap_i64]; omega
  generalize Lib.itoa (2000 + y) = s1 at *
  generalize two m = s2 at *
  generalize two d = s3 at *
  clear hv
  go_enter Tryz.func79, Tryz.ntmps79
  go_wp2_with fail
  have tt := (show (w.alloc (.cells #[.int .i64 y, .int .i64 m, .int .i64 d] 48)).cell? ⟨w.heap.size, 0, none⟩ = some (.int .i64 y) ∧ (w.alloc (.cells #[.int .i64 y, .int .i64 m, .int .i64 d] 48)).cell? ⟨w.heap.size, 1, none⟩ = some (.int .i64 m) ∧ (w.alloc (.cells #[.int .i64 y, .int .i64 m, .int .i64 d] 48)).cell? ⟨w.heap.size, 2, none⟩ = some (.int .i64 d) by simp)
  have ss := fun p => (⟨Wb.cell tt.1 p, Wb.cell tt.2.1 p, Wb.cell tt.2.2 p⟩ : _ ∧ _ ∧ _)
  refine wp_region_wb (by kernel_rfl) (by kernel_rfl) ?_; (repeat ((with_reducible refine wpQuiet_step ?_); intro K hK; go_simp; (try (refine ite_neg_of (by simp [undef]) ?_)); first | (with_reducible refine hK _ ?_; clear hK K) | (apply Exists.intro; (with_reducible refine ⟨fun _ => ?_, hK _ ?_⟩); (first | (go_at_call 72; first | with_reducible exact Calls.wb (HI.out _) | with_reducible exact Calls.wb (HM.out _) | with_reducible exact Calls.wb (HDd.out _)) | (rw [if_neg (by omega)]; exact ⟨rfl, rfl⟩)); clear hK K))); (with_reducible refine wpQuiet_nil ?_); rintro w1 ⟨⟨_, hb1⟩, rfl⟩; (try dsimp only)
  go_wp2_with fail
  go_ret
  exact ⟨ret_v (by rw [HD.out]; simp), (below_new _).trans (hb1.mono (by simp))⟩

set_option maxRecDepth 100000 in
set_option maxHeartbeats 4000000 in
theorem rPrintSquare_any (s : Sq) (w : World) :
    Calls Tryz.prog 28 #[sqv s] w fun e w' => e = .returned (.tuple #[.string ⟨(printOut s).1.toArray⟩, .int .i64 (printOut s).2]) ∧ Below w.heap.size w w' := by
  have HV := Lib.hid (rValidSquare_any s.l s.x s.y (w.alloc (.cells #[.int .i64 s.l, .int .i64 s.x, .int .i64 s.y] 31)))
  rw [show (Sq.mk s.l s.x s.y) = s from rfl] at HV
  cases hs : s.okB
  · have HO := Lib.hid (show printOut s = ([], 10) by unfold printOut; rw [hs]; rfl)
    rw [hs] at HV
    clear hs
    rw [HO.out]
    unfold sqv
    go_enter Tryz.func28, Tryz.ntmps28
    go_wp2_with fail
    refine HV.out.mono ?_
    rintro e w1 ⟨rfl, hb1⟩
    have HB := Lib.hid (show Below w.heap.size w w1 from (below_new _).trans (hb1.mono (by simp)))
    clear hb1
    go_wp2_with fail
    go_ret2
    exact ⟨rfl, HB.out⟩
  · obtain ⟨v1, v2, v3, v4, v5, v6⟩ := (Sq.okB_iff s).1 hs
    have hsd := side_le s.l v1
    have l1 := Lib.itoa_length_le s.l (by omega) (by omega)
    have l2 := Lib.itoa_length_le s.x (by omega) (by omega)
    have l3 := Lib.itoa_length_le s.y (by omega) (by omega)
    have HO := Lib.hid (show printOut s = (Lib.itoa s.l ++ [58] ++ Lib.itoa s.x ++ [44] ++ Lib.itoa s.y, 0) by unfold printOut; rw [hs]; rfl)
    have HI := Lib.hid (fun w => rdig_is s.l 1 _ w (by omega) (by omega) (by omega) (by omega) (digI_one (n := s.l) (by omega) (by omega)))
    have HX := Lib.hid (fun w => rdig_is s.x 1 _ w (by omega) (by omega) (by omega) (by omega) (digI_one (n := s.x) (by omega) (by omega)))
    have HY := Lib.hid (fun w => rdig_is s.y 1 _ w (by omega) (by omega) (by omega) (by omega) (digI_one (n := s.y) (by omega) (by omega)))
    rw [hs] at HV
    clear hs
    rw [HO.out]
    clear HO
    generalize Lib.itoa s.l = s1 at *
    generalize Lib.itoa s.x = s2 at *
    generalize Lib.itoa s.y = s3 at *
    unfold sqv at *
    go_enter Tryz.func28, Tryz.ntmps28
    go_wp2_with fail
    refine HV.out.mono ?_
    rintro e w1 ⟨rfl, hb1⟩
    have HB := Lib.hid (show Below w.heap.size w w1 from (below_new _).trans (hb1.mono (by simp)))
    have tt := sq_cells (s := s) ((hb1.block w.heap.size (by simp)).trans (World.alloc_heap_new w _))
    clear hb1
    have ss := fun p => (⟨Wb.cell tt.1 p, Wb.cell tt.2.1 p, Wb.cell tt.2.2 p⟩ : _ ∧ _ ∧ _)
    go_wp2_with fail
    refine wp_region_wb (by kernel_rfl) (by kernel_rfl) ?_; (repeat ((with_reducible refine wpQuiet_step ?_); intro K hK; go_simp; (try (refine ite_neg_of (by simp [undef]) ?_)); first | (with_reducible refine hK _ ?_; clear hK K) | (apply Exists.intro; (with_reducible refine ⟨fun _ => ?_, hK _ ?_⟩); (first | (go_at_call 72; first | with_reducible exact Calls.wb (HI.out _) | with_reducible exact Calls.wb (HX.out _) | with_reducible exact Calls.wb (HY.out _)) | (rw [if_neg (by omega)]; exact ⟨rfl, rfl⟩)); clear hK K))); (with_reducible refine wpQuiet_nil ?_); rintro w1 ⟨⟨_, hb1⟩, rfl⟩; (try dsimp only)
    go_wp2_with fail
    go_ret2
    exact ⟨by simp, HB.out.trans (hb1.mono HB.out.size)⟩

set_option maxRecDepth 100000 in
set_option maxHeartbeats 4000000 in
theorem rPrintNight_any (n : Int) (w : World) : Calls Tryz.prog 32 #[.int .i64 n] w (PrintRes n w) := by
  have HV := Lib.hid (fun w => rwithin_any n 0 99999 w)
  by_cases hn : 0 ≤ n ∧ n ≤ 99999
  · have e1 : (decide (0 ≤ n) && decide (n ≤ 99999)) = true := by simp; omega
    have hwr : IntKind.i64.wrap (n + 1) = n + 1 := by rw [IntKind.wrap_i64]; omega
    rw [e1] at HV
    have HN := Lib.hid hn
    have HD := Lib.hid (fun w => rdate_any n w hn.1 (by omega))
    have HD2 := Lib.hid (fun w => rdate_any (n + 1) w (by omega) (by omega))
    clear hn e1
    go_enter Tryz.func32, Tryz.ntmps32
    go_wp2_with fail
    refine (HV.out _).mono ?_
    rintro e w1 ⟨rfl, rfl⟩
    go_wp2_with fail
    refine (HD.out _).mono ?_
    rintro e w2 ⟨y, m, d, rfl, hv, hnm, hb⟩
    have H2 := Lib.hid (And.intro hv hnm)
    have K1 := Lib.hid ((KB.mk hb (fun p hp => (by cases hp)) (fun q hq => (by cases hq)) : KB w [] [] w2).new (.cells #[.int .i64 y, .int .i64 m, .int .i64 d] 48))
    clear hb hv hnm
    go_wp2_with fail
    refine (HD2.out _).mono ?_
    rintro e w3 ⟨y', m', d', rfl, hv, hnm, hb⟩
    have H3 := Lib.hid (And.intro hv hnm)
    have K2 := Lib.hid ((K1.out.step hb).new (.cells #[.int .i64 y', .int .i64 m', .int .i64 d'] 48))
    clear hb hv hnm K1 HD HD2 HV hwr
    generalize hg1 : w2.heap.size = g1 at *
    generalize hg2 : w3.heap.size = g2 at *
    clear hg1
    have l1 := dateT_len y m d H2.out.1
    have l2 := dateT_len y' m' d' H3.out.1
    obtain ⟨v1, v2, v3, v4, v5, v6⟩ := (vdate_iff y' m' d').1 H3.out.1
    have hdm := dom_bd y' m'
    have l3 := two_len m' (by omega) (by omega)
    have l4 := two_len d' (by omega) (by omega)
    have HD := Lib.hid (fun w => rtext_any y m d w H2.out.1)
    have HD' := Lib.hid (fun w => rtext_any y' m' d' w H3.out.1)
    have HTm := Lib.hid (fun w => rdig_is m' 2 _ w (by omega) (by omega) (by omega) (by omega) (digI_two (n := m') (by omega) (by omega)))
    have HTd := Lib.hid (fun w => rdig_is d' 2 _ w (by omega) (by omega) (by omega) (by omega) (digI_two (n := d') (by omega) (by omega)))
    have HNt := Lib.hid (show nightT y m d y' m' d' = dateT y m d ++ [47] ++ (if y' ≠ y then dateT y' m' d' else if m' ≠ m then two m' ++ [45] ++ two d' else two d') from rfl)
    have HFin := Lib.hid (fun (W : World) (hW : Below w.heap.size w W) (tx : List UInt8) (hx : nightT y m d y' m' d' = tx) => show PrintRes n w (.returned (.tuple #[.string ⟨tx.toArray⟩, .int .i64 0])) W from
      ⟨.inl ⟨HN.out.1, HN.out.2, y, m, d, y', m', d', by rw [hx], H2.out.1, H2.out.2, H3.out.1, H3.out.2⟩, hW⟩)
    generalize dateT y m d = s1 at *
    generalize dateT y' m' d' = s2 at *
    generalize two m' = s3 at *
    generalize two d' = s4 at *
    clear v1 v2 v3 v4 v5 v6 hdm H2 H3
    obtain ⟨b0, b1, b2⟩ := date_cells (K2.out.mem (g1, _) (List.mem_cons_of_mem _ List.mem_cons_self))
    obtain ⟨e0, e1, e2⟩ := date_cells (K2.out.mem (g2, _) List.mem_cons_self)
    have hz1 := K2.out.lt (g := g1) (List.mem_cons_of_mem _ List.mem_cons_self)
    have hz2 := K2.out.lt (g := g2) List.mem_cons_self
    cases a1 : (y != y') <;> cases a2 : (m != m')
    · have HR := Lib.hid (And.intro a1 a2)
      have ss := fun p => (⟨⟨Wb.cell b0 p, Wb.cell b1 p, Wb.cell b2 p⟩, ⟨Wb.cell e0 p, Wb.cell e1 p, Wb.cell e2 p⟩⟩ : (_ ∧ _ ∧ _) ∧ (_ ∧ _ ∧ _))
      go_wp2_with fail
      refine wp_region_wb (by kernel_rfl) (by kernel_rfl) ?_; (repeat ((with_reducible refine wpQuiet_step ?_); intro K hK; go_simp; (try (refine ite_neg_of (by simp [undef]) ?_)); first | (with_reducible refine hK _ ?_; clear hK K) | (apply Exists.intro; (with_reducible refine ⟨fun _ => ?_, hK _ ?_⟩); ((first | (go_at_call 79; first | with_reducible exact Calls.wb (HD.out _) | with_reducible exact Calls.wb (HD'.out _)) | (go_at_call 72; first | with_reducible exact Calls.wb (HTm.out _) | with_reducible exact Calls.wb (HTd.out _)) | (rw [if_neg (by omega)]; exact ⟨rfl, rfl⟩))); clear hK K))); (with_reducible refine wpQuiet_nil ?_); rintro w1 ⟨⟨_, hb1⟩, rfl⟩; (try dsimp only)
      go_wp2_with fail
      go_ret2
      exact HFin.out _ (K2.out.bel.trans (hb1.mono K2.out.bel.size)) _ (by rw [HNt.out]; have h := HR.out; simp at h; simp [h.1, h.2])
    · have HR := Lib.hid (And.intro a1 a2)
      have ss := fun p => (⟨⟨Wb.cell b0 p, Wb.cell b1 p, Wb.cell b2 p⟩, ⟨Wb.cell e0 p, Wb.cell e1 p, Wb.cell e2 p⟩⟩ : (_ ∧ _ ∧ _) ∧ (_ ∧ _ ∧ _))
      go_wp2_with fail
      refine wp_region_wb (by kernel_rfl) (by kernel_rfl) ?_; (repeat ((with_reducible refine wpQuiet_step ?_); intro K hK; go_simp; (try (refine ite_neg_of (by simp [undef]) ?_)); first | (with_reducible refine hK _ ?_; clear hK K) | (apply Exists.intro; (with_reducible refine ⟨fun _ => ?_, hK _ ?_⟩); ((first | (go_at_call 79; first | with_reducible exact Calls.wb (HD.out _) | with_reducible exact Calls.wb (HD'.out _)) | (go_at_call 72; first | with_reducible exact Calls.wb (HTm.out _) | with_reducible exact Calls.wb (HTd.out _)) | (rw [if_neg (by omega)]; exact ⟨rfl, rfl⟩))); clear hK K))); (with_reducible refine wpQuiet_nil ?_); rintro w1 ⟨⟨_, hb1⟩, rfl⟩; (try dsimp only)
      go_wp2_with fail
      go_ret2
      exact HFin.out _ (K2.out.bel.trans (hb1.mono K2.out.bel.size)) _ (by rw [HNt.out]; have h := HR.out; simp at h; simp [h.1, Ne.symm h.2])
    · have HR := Lib.hid (And.intro a1 a2)
      have ss := fun p => (⟨⟨Wb.cell b0 p, Wb.cell b1 p, Wb.cell b2 p⟩, ⟨Wb.cell e0 p, Wb.cell e1 p, Wb.cell e2 p⟩⟩ : (_ ∧ _ ∧ _) ∧ (_ ∧ _ ∧ _))
      go_wp2_with fail
      refine wp_region_wb (by kernel_rfl) (by kernel_rfl) ?_; (repeat ((with_reducible refine wpQuiet_step ?_); intro K hK; go_simp; (try (refine ite_neg_of (by simp [undef]) ?_)); first | (with_reducible refine hK _ ?_; clear hK K) | (apply Exists.intro; (with_reducible refine ⟨fun _ => ?_, hK _ ?_⟩); ((first | (go_at_call 79; first | with_reducible exact Calls.wb (HD.out _) | with_reducible exact Calls.wb (HD'.out _)) | (go_at_call 72; first | with_reducible exact Calls.wb (HTm.out _) | with_reducible exact Calls.wb (HTd.out _)) | (rw [if_neg (by omega)]; exact ⟨rfl, rfl⟩))); clear hK K))); (with_reducible refine wpQuiet_nil ?_); rintro w1 ⟨⟨_, hb1⟩, rfl⟩; (try dsimp only)
      go_wp2_with fail
      go_ret2
      exact HFin.out _ (K2.out.bel.trans (hb1.mono K2.out.bel.size)) _ (by rw [HNt.out]; have h := HR.out; simp at h; simp [Ne.symm h.1])
    · have HR := Lib.hid (And.intro a1 a2)
      have ss := fun p => (⟨⟨Wb.cell b0 p, Wb.cell b1 p, Wb.cell b2 p⟩, ⟨Wb.cell e0 p, Wb.cell e1 p, Wb.cell e2 p⟩⟩ : (_ ∧ _ ∧ _) ∧ (_ ∧ _ ∧ _))
      go_wp2_with fail
      refine wp_region_wb (by kernel_rfl) (by kernel_rfl) ?_; (repeat ((with_reducible refine wpQuiet_step ?_); intro K hK; go_simp; (try (refine ite_neg_of (by simp [undef]) ?_)); first | (with_reducible refine hK _ ?_; clear hK K) | (apply Exists.intro; (with_reducible refine ⟨fun _ => ?_, hK _ ?_⟩); ((first | (go_at_call 79; first | with_reducible exact Calls.wb (HD.out _) | with_reducible exact Calls.wb (HD'.out _)) | (go_at_call 72; first | with_reducible exact Calls.wb (HTm.out _) | with_reducible exact Calls.wb (HTd.out _)) | (rw [if_neg (by omega)]; exact ⟨rfl, rfl⟩))); clear hK K))); (with_reducible refine wpQuiet_nil ?_); rintro w1 ⟨⟨_, hb1⟩, rfl⟩; (try dsimp only)
      go_wp2_with fail
      go_ret2
      exact HFin.out _ (K2.out.bel.trans (hb1.mono K2.out.bel.size)) _ (by rw [HNt.out]; have h := HR.out; simp at h; simp [Ne.symm h.1])
  · have e1 : (decide (0 ≤ n) && decide (n ≤ 99999)) = false := by
      rw [Bool.and_eq_false_iff]; simp; omega
    rw [e1] at HV
    have HN := Lib.hid hn
    clear hn e1
    go_enter Tryz.func32, Tryz.ntmps32
    go_wp2_with fail
    refine (HV.out _).mono ?_
    rintro e w1 ⟨rfl, rfl⟩
    go_wp2_with fail
    go_ret2
    exact ⟨.inr ⟨HN.out, rfl⟩, Below.refl _ _⟩
end Go.Proofs.YtabolonlkocopaaGreatDoor

/- The reference's numbers of a text. -/
namespace Go.Proofs.YtabolonlkocopaaGreatDoor
open Go.RowKit Go.Plc

/-- the numbers of a text between other bytes; none of them may exceed six digits -/
def partsRun : List UInt8 → List Int → Bool → Option (List Int)
  | [], L, _ => some L
  | c :: r, L, true => if 48 ≤ c.toNat ∧ c.toNat ≤ 57 then partsRun r (L ++ [(c.toNat : Int) - 48]) false else partsRun r L true
  | c :: r, L, false => if 48 ≤ c.toNat ∧ c.toNat ≤ 57 then (if 999999 < 10 * L.getLastD 0 + ((c.toNat : Int) - 48) then none else partsRun r (L.dropLast ++ [10 * L.getLastD 0 + ((c.toNat : Int) - 48)]) false) else partsRun r L true
def partsS (cs : List UInt8) : Option (List Int) := if 40 < cs.length then none else partsRun cs [] true

theorem own_stepJ {w w' : World} {base n z : Nat} {t : TypeId} {v : Value} {xs : List Value} (h : w.ownsRow base t z v n xs) (hb : Below w.heap.size w w') : w'.ownsRow base t z v n xs :=
  h.kept (grown_of_below hb none) (by rcases Classical.em (v.ownBlock = none) with h | h; exact .inl h; exact .inr h)
/-- a row of the call's own, beside a world in which nothing is written -/
structure OwJ (W : World) (t : TypeId) (z : Nat) (v : Value) (n : Nat) (xs : List Value) (X : World) : Prop where
  bel : Below W.heap.size W X
  own : X.ownsRow W.heap.size t z v n xs
theorem OwJ.start (W : World) (t : TypeId) (z : Nat) : OwJ W t z (.slice none 0 0) 0 [] W := ⟨Below.refl _ _, World.ownsRow_nil _ _ _ _⟩
theorem OwJ.step {W X Y : World} {t : TypeId} {z n : Nat} {v : Value} {xs : List Value} (h : OwJ W t z v n xs X) (hb : Below X.heap.size X Y) : OwJ W t z v n xs Y := ⟨h.bel.trans (hb.mono h.bel.size), own_stepJ h.own hb⟩
theorem OwJ.grown {W X Y Z : World} {t : TypeId} {z n n' : Nat} {v v' : Value} {xs xs' : List Value} (h : OwJ W t z v n xs X) (hb : Below X.heap.size X Y) (hg : Y.grownBy Z v.ownBlock) (ho : Z.ownsRow W.heap.size t z v' n' xs') : OwJ W t z v' n' xs' Z :=
  ⟨(h.step hb).bel.grown hg (h.step hb).bel.size (fun r e => ((h.step hb).own.lt r e).1), ho⟩
theorem OwJ.bound {W X : World} {t : TypeId} {z n : Nat} {v : Value} {xs : List Value} (h : OwJ W t z v n xs X) : W.heap.size ≤ X.heap.size := h.bel.size
theorem own_last {W : World} {base : Nat} {v : Value} {pre : List Int} {x : Int} (h : W.ownsRow base 3 1 v (pre.length + 1) (intsV (pre ++ [x]))) :
    ∃ g cap, v = .slice (some ⟨g, 0, none⟩) (pre.length + 1) cap ∧ base ≤ g ∧ g < W.heap.size ∧ W.cell? ⟨g, pre.length, none⟩ = some (.int .i64 x) ∧ W.frozen? ⟨g, pre.length, none⟩ = false := by
  have h0 := h
  obtain ⟨hl, ⟨_, h0'⟩ | ⟨g, cap, cur, rfl, hb, hg, _⟩⟩ := h
  · omega
  · refine ⟨g, cap, rfl, hb, (Array.getElem?_eq_some_iff.1 hg).1, ?_, h0.frozenAt _⟩
    rw [h0.cellAt _ (by omega)]
    simp [intsV]
theorem own_set {W : World} {base g cap : Nat} {pre : List Int} {x y : Int} (h : W.ownsRow base 3 1 (.slice (some ⟨g, 0, none⟩) (pre.length + 1) cap) (pre.length + 1) (intsV (pre ++ [x]))) :
    (W.setCell ⟨g, pre.length, none⟩ (.int .i64 y)).ownsRow base 3 1 (.slice (some ⟨g, 0, none⟩) (pre.length + 1) cap) (pre.length + 1) (intsV (pre ++ [y])) ∧ W.grownBy (W.setCell ⟨g, pre.length, none⟩ (.int .i64 y)) (some g) := by
  obtain ⟨h1, h2⟩ := h.stored pre.length (.int .i64 y)
  refine ⟨?_, h2⟩
  have e : (intsV (pre ++ [x])).set pre.length (.int .i64 y) = intsV (pre ++ [y]) := by simp [intsV]
  rwa [e] at h1

/-- what parts returns -/
def PartsRes (cs : List UInt8) (w : World) (e : Ending) (w' : World) : Prop :=
  ((∃ L v, partsS cs = some L ∧ e = .returned (.tuple #[v, .bool true]) ∧ w'.ownsRow w.heap.size 3 1 v L.length (intsV L)) ∨ (partsS cs = none ∧ e = .returned (.tuple #[.slice none 0 0, .bool false]))) ∧ Below w.heap.size w w'

set_option maxRecDepth 100000 in
set_option maxHeartbeats 4000000 in
theorem rparts_any (cs : List UInt8) (w : World) (hc : cs.length ≤ 1000000) :
    Calls Tryz.prog 74 #[.string ⟨cs.toArray⟩] w (PartsRes cs w) := by
  have hs1 : (⟨cs.toArray⟩ : ByteArray).size = cs.length := by simp [ByteArray.size]
  have HX := Lib.hid (fun (i : Nat) (ch : UInt8) (h : cs[i]? = some ch) (W : World) => show (Instr.index 9 (.string ⟨cs.toArray⟩) (.int .i64 (i : Int))).run Tryz.prog W = .ok (.int .u8 (ch.toNat : Int)) W by
    obtain ⟨hi, e⟩ := List.getElem?_eq_some_iff.1 h
    rw [run_index_string W _ _ _ _ Tryz.underlying9, dif_pos (by rw [hs1]; omega)]
    simp [ByteArray.getElem_eq_getElem_data, e])
  have HP := Lib.hid (show partsS cs = if 40 < cs.length then none else partsRun cs [] true from rfl)
  generalize (⟨cs.toArray⟩ : ByteArray) = s at *
  generalize hn : cs.length = n at *
  have HN := Lib.hid hn
  clear hn
  by_cases hbig : 40 < n
  · go_enter Tryz.func74, Tryz.ntmps74
    go_wp2_with fail
    go_ret2
    exact ⟨.inr ⟨by rw [HP.out, if_pos hbig], rfl⟩, Below.refl _ _⟩
  · obtain ⟨F, hF⟩ : ∃ F, partsS cs = F := ⟨_, rfl⟩
    have HF := Lib.hid hF
    have HF2 := Lib.hid (show partsRun cs [] true = F by rw [← hF, HP.out, if_neg hbig])
    clear hF
    go_enter Tryz.func74, Tryz.ntmps74
    go_wp2_with fail
    obtain ⟨i0, hi0, hz0, hz1, hz2⟩ := info_parts infoInt
    have HZ := Lib.hid (show i0.size = 1 ∧ i0.bytes = 8 ∧ Tryz.prog.info? 3 = some i0 ∧ i0.zero = some (.int .i64 0) from ⟨hz1, hz2, hi0, hz0⟩)
    clear hz0 hz1 hz2 hi0
    go_loopw [4, 5, 6] (fun v fr k wr => ∃ (i : Nat) (L : List Int) (b : Bool), k = .int .i64 (i : Int) ∧ fr = .bool b ∧ i ≤ n ∧ OwJ w 3 1 v L.length (intsV L) wr ∧ partsRun (cs.drop i) L b = F ∧ L.length ≤ i ∧ (b = false → ∃ pre x, L = pre ++ [x] ∧ 0 ≤ x ∧ x ≤ 999999)) (fun _ _ k _ => n - (intOf k).toNat)
    case atStart => exact ⟨0, [], true, rfl, rfl, by omega, OwJ.start _ _ _, HF2.out, by simp, fun h => by cases h⟩
    case round =>
      obtain ⟨i, L, b, rfl, rfl, hin, hI, hrun, hLi, hlast⟩ := hrel
      have HI := Lib.hid hI
      have HR := Lib.hid hrun
      clear hI hrun
      by_cases hlt : i < n
      · obtain ⟨ch, hch⟩ : ∃ ch, cs[i]? = some ch := ⟨cs[i]'(by have := HN.out; omega), List.getElem?_eq_getElem _⟩
        have hix := HX.out i ch hch
        have HD := Lib.hid (show cs.drop i = ch :: cs.drop (i + 1) by
          obtain ⟨h1, h2⟩ := List.getElem?_eq_some_iff.1 hch
          rw [List.drop_eq_getElem_cons h1, h2])
        have hcn : ch.toNat < 256 := UInt8.toNat_lt ch
        by_cases hd : 48 ≤ ch.toNat ∧ ch.toNat ≤ 57
        · have d1 : ¬ (ch.toNat : Int) < 48 := by omega
          have d2 : ¬ (57 : Int) < (ch.toNat : Int) := by omega
          have w1 : IntKind.u8.wrap ((ch.toNat : Int) - 48) = (ch.toNat : Int) - 48 := by rw [IntKind.wrap_u8]; omega
          have w2 : IntKind.i64.wrap ((ch.toNat : Int) - 48) = (ch.toNat : Int) - 48 := by rw [IntKind.wrap_i64]; omega
          cases b
          · obtain ⟨pre, x, rfl, x0, x1⟩ := hlast rfl
            have HRd := Lib.hid (show (if 999999 < 10 * x + ((ch.toNat : Int) - 48) then none else partsRun (cs.drop (i + 1)) (pre ++ [10 * x + ((ch.toNat : Int) - 48)]) false) = F from by
              have h := HR.out
              rw [HD.out, partsRun, if_pos hd] at h
              simpa using h)
            have HO := Lib.hid (show wr.ownsRow w.heap.size 3 1 u4 (pre.length + 1) (intsV (pre ++ [x])) from by have h := HI.out.own; rwa [List.length_append] at h)
            obtain ⟨g, cap, rfl, hg0, hg1, hcell, hfz⟩ := own_last HO.out
            clear hlast hch hd
            have w3 : IntKind.i64.wrap (10 * x) = 10 * x := by rw [IntKind.wrap_i64]; omega
            have w4 : IntKind.i64.wrap (10 * x + ((ch.toNat : Int) - 48)) = 10 * x + ((ch.toNat : Int) - 48) := by rw [IntKind.wrap_i64]; omega
            have HFin := Lib.hid (fun (Y : World) (hb : Below wr.heap.size wr Y) (y : Int) => show OwJ w 3 1 (.slice (some ⟨g, 0, none⟩) (pre.length + 1) cap) (pre ++ [y]).length (intsV (pre ++ [y])) (Y.setCell ⟨g, pre.length, none⟩ (.int .i64 y)) from by
              obtain ⟨s1, s2⟩ := own_set (y := y) (own_stepJ HO.out hb)
              have h2 := HI.out.step hb
              exact ⟨h2.bel.grown s2 h2.bel.size (fun r e => by cases e; exact hg0), by rw [List.length_append, List.length_singleton]; exact s1⟩)
            have hLi' : pre.length + 1 ≤ i := by rw [List.length_append, List.length_singleton] at hLi; exact hLi
            clear hLi
            generalize hp : pre.length = p at *
            generalize hcn' : ch.toNat = cn at *
            generalize hp1 : p + 1 = n1 at *
            have HP1 := Lib.hid hp1
            clear hp1
            have hn1 : 0 < n1 := by have := HP1.out; omega
            have hpn : p < n1 := by have := HP1.out; omega
            have hwr : IntKind.i64.wrap ((n1 : Int) - 1) = (p : Int) := by have := HP1.out; rw [IntKind.wrap_i64]; omega
            have ss := fun z => Wb.cell hcell z
            by_cases hb9 : 999999 < 10 * x + ((cn : Int) - 48)
            · have HE := Lib.hid (show F = none from by have h := HRd.out; rw [if_pos hb9] at h; exact h.symm)
              go_wp2_with fail
              refine wp_region_wb (by kernel_rfl) (by kernel_rfl) ?_; (repeat ((with_reducible refine wpQuiet_step ?_); intro K hK; go_simp; (try (refine ite_neg_of (by simp [undef]) ?_)); first | (with_reducible refine hK _ ?_; clear hK K) | (apply Exists.intro; (with_reducible refine ⟨fun _ => ?_, hK _ ?_⟩); (fail); clear hK K))); (with_reducible refine wpQuiet_nil ?_); rintro w1 ⟨⟨_, hb1⟩, rfl⟩; (try dsimp only)
              go_wp2_with fail
              go_ret2
              exact ⟨.inr ⟨by rw [HF.out, HE.out], rfl⟩, HI.out.bel.trans (hb1.mono HI.out.bel.size)⟩
            · have HE := Lib.hid (show partsRun (cs.drop (i + 1)) (pre ++ [10 * x + ((cn : Int) - 48)]) false = F from by have h := HRd.out; rwa [if_neg hb9] at h)
              go_wp2_with fail
              refine wp_region_wb (by kernel_rfl) (by kernel_rfl) ?_; (repeat ((with_reducible refine wpQuiet_step ?_); intro K hK; go_simp; (try (refine ite_neg_of (by simp [undef]) ?_)); first | (with_reducible refine hK _ ?_; clear hK K) | (apply Exists.intro; (with_reducible refine ⟨fun _ => ?_, hK _ ?_⟩); (fail); clear hK K))); (with_reducible refine wpQuiet_nil ?_); rintro w1 ⟨⟨_, hb1⟩, rfl⟩; (try dsimp only)
              have hfz1 : w1.frozen? ⟨g, p, none⟩ = false := (hb1.frozen (p := ⟨g, p, none⟩) hg1).trans hfz
              have hg2 : g < w1.heap.size := Nat.lt_of_lt_of_le hg1 hb1.size
              have hc1 : w1.cell? ⟨g, p, none⟩ = some (.int .i64 x) := (hb1.cell (p := ⟨g, p, none⟩) hg1).trans hcell
              go_wp2_with fail
              go_roundw
              case rel => exact ⟨i + 1, pre ++ [10 * x + ((cn : Int) - 48)], false, by go_num, rfl, by omega, HFin.out _ hb1 _, HE.out, by rw [List.length_append, List.length_singleton, hp]; have := HP1.out; omega, fun _ => ⟨pre, _, rfl, by omega, by omega⟩⟩
              case measure => simp [intOf]; omega
          · have HRd := Lib.hid (show partsRun (cs.drop (i + 1)) (L ++ [(ch.toNat : Int) - 48]) false = F from by
              have h := HR.out
              rwa [HD.out, partsRun, if_pos hd] at h)
            clear hlast hch
            have HO := Lib.hid ((HI.out.own).alloc (.cells #[.int .i64 0] 3))
            have HCn := Lib.hid (cell_one_new wr (.int .i64 0) 3)
            have HBs := Lib.hid (show w.heap.size ≤ (wr.alloc (.cells #[.int .i64 0] 3)).heap.size from by have := HI.out.bound; simp; omega)
            go_wp2_with (at_builtin; refine wpList_append_own _ rfl _ _ 80 rfl w.heap.size 3 i0 (.int .i64 0) 1 8 Tryz.underlying80 HZ.out.2.2.1 HZ.out.2.2.2 HZ.out.1 HZ.out.2.1 rfl (by decide) u4 L.length (intsV L) rfl HO.out ⟨wr.heap.size, 0, none⟩ 1 1 [.int .i64 0] rfl rfl HCn.out (by intro u hu; simp at hu; subst hu; rfl) (by unfold maxLen; omega) (by omega) HBs.out ?_; intro v4 w4 hown4 hg4 hnn4)
            have HO4 := Lib.hid (show w4.ownsRow w.heap.size 3 1 v4 (L.length + 1) (intsV (L ++ [0])) from by
              have e : intsV (L ++ [0]) = intsV L ++ [.int .i64 0] := by simp [intsV]
              rw [e]; exact hown4)
            have HI4 := Lib.hid (show OwJ w 3 1 v4 (L.length + 1) (intsV L ++ [.int .i64 0]) w4 from HI.out.grown (below_new _) hg4 hown4)
            clear hown4 hg4 hnn4 HO HCn HBs
            obtain ⟨g, cap, rfl, hg0, hg1, hcell, hfz⟩ := own_last HO4.out
            have HFin := Lib.hid (fun (Y : World) (hb : Below w4.heap.size w4 Y) (y : Int) => show OwJ w 3 1 (.slice (some ⟨g, 0, none⟩) (L.length + 1) cap) (L ++ [y]).length (intsV (L ++ [y])) (Y.setCell ⟨g, L.length, none⟩ (.int .i64 y)) from by
              obtain ⟨s1, s2⟩ := own_set (y := y) (own_stepJ HO4.out hb)
              have h2 := HI4.out.step hb
              exact ⟨h2.bel.grown s2 h2.bel.size (fun r e => by cases e; exact hg0), by rw [List.length_append, List.length_singleton]; exact s1⟩)
            clear hd
            generalize hp : L.length = p at *
            generalize hcn' : ch.toNat = cn at *
            generalize hp1 : p + 1 = n1 at *
            have HP1 := Lib.hid hp1
            clear hp1
            have hn1 : 0 < n1 := by have := HP1.out; omega
            have hpn : p < n1 := by have := HP1.out; omega
            have hwr : IntKind.i64.wrap ((n1 : Int) - 1) = (p : Int) := by have := HP1.out; rw [IntKind.wrap_i64]; omega
            have ss := fun z => Wb.cell hcell z
            have hb9 : ¬ 999999 < (cn : Int) - 48 := by omega
            refine wp_region_wb (by kernel_rfl) (by kernel_rfl) ?_; (repeat ((with_reducible refine wpQuiet_step ?_); intro K hK; go_simp; (try (refine ite_neg_of (by simp [undef]) ?_)); first | (with_reducible refine hK _ ?_; clear hK K) | (apply Exists.intro; (with_reducible refine ⟨fun _ => ?_, hK _ ?_⟩); (fail); clear hK K))); (with_reducible refine wpQuiet_nil ?_); rintro w1 ⟨⟨_, hb1⟩, rfl⟩; (try dsimp only)
            have hfz1 : w1.frozen? ⟨g, p, none⟩ = false := (hb1.frozen (p := ⟨g, p, none⟩) hg1).trans hfz
            have hg2 : g < w1.heap.size := Nat.lt_of_lt_of_le hg1 hb1.size
            have hc1 : w1.cell? ⟨g, p, none⟩ = some (.int .i64 0) := (hb1.cell (p := ⟨g, p, none⟩) hg1).trans hcell
            go_wp2_with fail
            go_roundw
            case rel => exact ⟨i + 1, L ++ [(cn : Int) - 48], false, by go_num, rfl, by omega, HFin.out _ hb1 _, HRd.out, by rw [List.length_append, List.length_singleton, hp]; omega, fun _ => ⟨L, _, rfl, by omega, by omega⟩⟩
            case measure => simp [intOf]; omega
        · have HRd := Lib.hid (show partsRun (cs.drop (i + 1)) L true = F from by
            have h := HR.out
            rw [HD.out] at h
            cases b <;> rwa [partsRun, if_neg hd] at h)
          clear hlast hch
          by_cases h48 : (ch.toNat : Int) < 48
          · go_wp2_with fail
            go_roundw
            case rel => exact ⟨i + 1, L, true, by go_num, rfl, by omega, HI.out, HRd.out, by omega, fun h => by cases h⟩
            case measure => simp [intOf]; omega
          · have h57 : (57 : Int) < (ch.toNat : Int) := by omega
            go_wp2_with fail
            go_roundw
            case rel => exact ⟨i + 1, L, true, by go_num, rfl, by omega, HI.out, HRd.out, by omega, fun h => by cases h⟩
            case measure => simp [intOf]; omega
      · have HE := Lib.hid (show F = some L by
          have h := HR.out
          rw [List.drop_eq_nil_of_le (by have := HN.out; omega)] at h
          cases b <;> exact h.symm)
        go_wp2_with fail
        go_ret2
        exact ⟨.inl ⟨L, _, by rw [HF.out, HE.out], rfl, HI.out.own⟩, HI.out.bel⟩
end Go.Proofs.YtabolonlkocopaaGreatDoor
