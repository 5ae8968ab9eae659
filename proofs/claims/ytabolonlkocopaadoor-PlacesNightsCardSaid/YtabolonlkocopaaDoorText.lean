/- Dates of nights; texts of dates, nights and squares. -/
import Derived.Test.YtabolonlkocopaaDoorNights2
import Derived.Test.YtabolonlkocopaaDoorCovY
import Derived.Test.YtabolonlkocopaaDoorLayP
import Derived.Test.YtabolonlkocopaaDoorReg2
import Derived.Lib.AppendIntMem
import Derived.Lib.ItoaLen
namespace Go.Proofs.YtabolonlkocopaaDoor
open Go.RowKit Go.Plc

def TabW (w : World) : Prop := Lib.TabIs Tryd.prog w "internal/strconv.uint64pow10" .u64 Lib.pow10Tab
theorem TabW.below {w w' : World} (h : TabW w) (hb : Below w.heap.size w w') : TabW w' := Lib.tabBelow_of_tabIs h w' hb

theorem Itoa_any (n : Int) (w : World) (h0 : -9223372036854775808 ≤ n) (h1 : n ≤ 9223372036854775807) (hT : TabW w) :
    Calls Tryd.prog 103 #[.int .i64 n] w fun e w' => e = .returned (.string ⟨(Lib.itoa n).toArray⟩) ∧ Below w.heap.size w w' :=
  (Any.strconv_Itoa Tryd.itoaM n h0 h1 w hT).mono fun _ _ ⟨he, q, os, hw⟩ => ⟨he, hw ▸ ((below_drewN (Below.refl _ _) q).trans ((grow_below (w.drewN q) os).mono (Nat.le_refl _)))⟩
theorem Itoa_small (n : Int) (w : World) (h0 : 0 ≤ n) (h1 : n < 100) :
    Calls Tryd.prog 103 #[.int .i64 n] w fun e w' => e = .returned (.string ⟨(Lib.itoa n).toArray⟩) ∧ w = w' := by
  obtain ⟨i, rfl⟩ : ∃ i : Nat, n = i := ⟨n.toNat, by omega⟩
  rw [Lib.itoa_nonneg]
  exact (Any.strconv_Itoa_small Tryd.itoaL i (by omega) w).mono fun e w' ⟨he, hw⟩ => ⟨he, hw.symm⟩

theorem ba_app (a b : List UInt8) : (⟨a.toArray⟩ : ByteArray) ++ ⟨b.toArray⟩ = ⟨(a ++ b).toArray⟩ := by
  apply ByteArray.ext
  simp [ByteArray.data_append]
attribute [local go_sem] ba_app
def two (n : Int) : List UInt8 := Lib.itoa (n / 10) ++ Lib.itoa (n % 10)
def dateT (y m d : Int) : List UInt8 := Lib.itoa (2000 + y) ++ [45] ++ two m ++ [45] ++ two d
def nightT (y m d y' m' d' : Int) : List UInt8 := dateT y m d ++ [47] ++ (if y' ≠ y then dateT y' m' d' else if m' ≠ m then two m' ++ [45] ++ two d' else two d')
theorem two_len (n : Int) (h0 : 0 ≤ n) (h1 : n < 100) : (two n).length ≤ 42 := by
  have := Lib.itoa_length_le (n / 10) (by omega) (by omega)
  have := Lib.itoa_length_le (n % 10) (by omega) (by omega)
  unfold two; rw [List.length_append]; omega
theorem dateT_len (y m d : Int) (hv : vdate y m d = true) : (dateT y m d).length ≤ 110 := by
  obtain ⟨v1, v2, v3, v4, v5, v6⟩ := (vdate_iff y m d).1 hv
  have := dom_bd y m
  have := Lib.itoa_length_le (2000 + y) (by omega) (by omega)
  have := two_len m (by omega) (by omega)
  have := two_len d (by omega) (by omega)
  unfold dateT; simp only [List.length_append, List.length_cons, List.length_nil]; omega
set_option maxHeartbeats 400000 in
theorem twoDigits_any (n : Int) (w : World) (h0 : 0 ≤ n) (h1 : n < 100) :
    Calls Tryd.prog 105 #[.int .i64 n] w fun e w' => e = .returned (.string ⟨(two n).toArray⟩) ∧ w = w' := by
  have l1 := Lib.itoa_length_le (n / 10) (by omega) (by omega)
  have l2 := Lib.itoa_length_le (n % 10) (by omega) (by omega)
  go_enter Tryd.func105, Tryd.ntmps105
  go_wp2_with (go_at_call 103; refine (Itoa_small _ _ (by omega) (by omega)).mono ?_; rintro e w' ⟨rfl, rfl⟩)
  go_ret
  exact ⟨rfl, rfl⟩

set_option maxRecDepth 100000 in
set_option maxHeartbeats 4000000 in
theorem dateText_any (y m d : Int) (w : World) (hT : TabW w) (hv : vdate y m d = true) :
    Calls Tryd.prog 104 #[.agg #[.int .i64 y, .int .i64 m, .int .i64 d]] w fun e w' => e = .returned (.string ⟨(dateT y m d).toArray⟩) ∧ Below w.heap.size w w' := by
  obtain ⟨v1, v2, v3, v4, v5, v6⟩ := (vdate_iff y m d).1 hv
  have hdm := dom_bd y m
  have l1 := Lib.itoa_length_le (2000 + y) (by omega) (by omega)
  have l2 := two_len m (by omega) (by omega)
  have l3 := two_len d (by omega) (by omega)
  have HD := Lib.hid (show dateT y m d = Lib.itoa (2000 + y) ++ [45] ++ two m ++ [45] ++ two d from rfl)
  have HT := Lib.hid hT
  have HM := Lib.hid (fun w => twoDigits_any m w (by omega) (by omega))
  have HDd := Lib.hid (fun w => twoDigits_any d w (by omega) (by omega))
  have HI := Lib.hid (fun w hT => Itoa_any (2000 + y) w (by omega) (by omega) hT)
  have hwr : IntKind.i64.wrap (2000 + y) = 2000 + y := by rw [IntKind.wrap_i64]; omega
  generalize Lib.itoa (2000 + y) = s1 at *
  generalize two m = s2 at *
  generalize two d = s3 at *
  clear hT hv
  go_enter Tryd.func104, Tryd.ntmps104
  go_wp2_with fail
  have tt := (show (w.alloc (.cells #[.int .i64 y, .int .i64 m, .int .i64 d] 38)).cell? ⟨w.heap.size, 0, none⟩ = some (.int .i64 y) ∧ (w.alloc (.cells #[.int .i64 y, .int .i64 m, .int .i64 d] 38)).cell? ⟨w.heap.size, 1, none⟩ = some (.int .i64 m) ∧ (w.alloc (.cells #[.int .i64 y, .int .i64 m, .int .i64 d] 38)).cell? ⟨w.heap.size, 2, none⟩ = some (.int .i64 d) by simp)
  have ss := fun p => (⟨Wb.cell tt.1 p, Wb.cell tt.2.1 p, Wb.cell tt.2.2 p⟩ : _ ∧ _ ∧ _)
  have HTp := Lib.hid (fun p : Wb (w.alloc (.cells #[.int .i64 y, .int .i64 m, .int .i64 d] 38)) => (HT.out.below (below_new _)).below p.h)
  refine wp_region_wb (by kernel_rfl) (by kernel_rfl) ?_; (repeat ((with_reducible refine wpQuiet_step ?_); intro K hK; go_simp; (try (refine ite_neg_of (by simp [undef]) ?_)); first | (with_reducible refine hK _ ?_; clear hK K) | (apply Exists.intro; (with_reducible refine ⟨fun _ => ?_, hK _ ?_⟩); (first | (go_at_call 103; exact Calls.wb (HI.out _ (HTp.out _))) | (go_at_call 105; first | exact Calls.wb0 (HM.out _) | exact Calls.wb0 (HDd.out _)) | (rw [if_neg (by omega)]; exact ⟨rfl, rfl⟩)); clear hK K))); (with_reducible refine wpQuiet_nil ?_); rintro w1 ⟨⟨_, hb1⟩, rfl⟩; (try dsimp only)
  go_wp2_with fail
  go_ret
  exact ⟨ret_v (by rw [HD.out]; simp), (below_new _).trans (hb1.mono (by simp))⟩
end Go.Proofs.YtabolonlkocopaaDoor
