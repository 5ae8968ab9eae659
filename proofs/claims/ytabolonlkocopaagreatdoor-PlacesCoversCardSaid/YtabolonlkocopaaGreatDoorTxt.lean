
/- Dates of nights; texts of dates, nights and squares. -/
import Derived.Test.YtabolonlkocopaaGreatDoorNghts
import Derived.Test.YtabolonlkocopaaGreatDoorCvr
import Derived.Test.YtabolonlkocopaaGreatDoorLayP
import Derived.Test.YtabolonlkocopaaGreatDoorReg2
import Derived.Lib.AppendIntMem
import Derived.Lib.ItoaLen
namespace Go.Proofs.YtabolonlkocopaaGreatDoor
open Go.RowKit Go.Plc

def TabW (w : World) : Prop := Lib.TabIs Tryz.prog w "internal/strconv.uint64pow10" .u64 Lib.pow10Tab
theorem TabW.below {w w' : World} (h : TabW w) (hb : Below w.heap.size w w') : TabW w' := Lib.tabBelow_of_tabIs h w' hb

theorem Itoa_any (n : Int) (w : World) (h0 : -9223372036854775808 ≤ n) (h1 : n ≤ 9223372036854775807) (hT : TabW w) :
    Calls Tryz.prog 103 #[.int .i64 n] w fun e w' => e = .returned (.string ⟨(Lib.itoa n).toArray⟩) ∧ Below w.heap.size w w' :=
  (Any.strconv_Itoa Tryz.itoaM n h0 h1 w hT).mono fun _ _ ⟨he, q, os, hw⟩ => ⟨he, hw ▸ ((below_drewN (Below.refl _ _) q).trans ((grow_below (w.drewN q) os).mono (Nat.le_refl _)))⟩
theorem Itoa_small (n : Int) (w : World) (h0 : 0 ≤ n) (h1 : n < 100) :
    Calls Tryz.prog 103 #[.int .i64 n] w fun e w' => e = .returned (.string ⟨(Lib.itoa n).toArray⟩) ∧ w = w' := by
  obtain ⟨i, rfl⟩ : ∃ i : Nat, n = i := ⟨n.toNat, by omega⟩
  rw [Lib.itoa_nonneg]
  exact (Any.strconv_Itoa_small Tryz.itoaL i (by omega) w).mono fun e w' ⟨he, hw⟩ => ⟨he, hw.symm⟩

theorem ba_app (a b : List UInt8) : (⟨a.toArray⟩ : ByteArray) ++ ⟨b.toArray⟩ = ⟨(a ++ b).toArray⟩ := by
  apply ByteArray.ext
  simp [ByteArray.data_append]
attribute [local go_sem] ba_app
def two (n : Int) : List UInt8 := Lib.itoa (n / 10) ++ Lib.itoa (n % 10)
def dateT (y m d : Int) : List UInt8 := Lib.itoa (2000 + y) ++ [45] ++ two m ++ [45] ++ two d
def nightT (y m d y' m' d' : Int) : List UInt8 := dateT y m d ++ [47] ++ (if y' ≠ y then dateT y' m' d' else if m' ≠ m then two m' ++ [45] ++ two d' else two d')
theorem two_len (n : Int) (h0 : 0 ≤ n) (h1 : n < 100) : (two n).length ≤ 42 := by
  have := Lib.itoa_length_le (n / 10) (by omega) (by omega)
  have := Lib.itoa_length_le (n % 10) (by omega) (by omega)
  unfold two; rw [List.length_append]; omega
theorem dateT_len (y m d : Int) (hv : vdate y m d = true) : (dateT y m d).length ≤ 110 := by
  obtain ⟨v1, v2, v3, v4, v5, v6⟩ := (vdate_iff y m d).1 hv
  have := dom_bd y m
  have := Lib.itoa_length_le (2000 + y) (by omega) (by omega)
  have := two_len m (by omega) (by omega)
  have := two_len d (by omega) (by omega)
  unfold dateT; simp only [List.length_append, List.length_cons, List.length_nil]; omega
set_option maxHeartbeats 400000 in
theorem twoDigits_any (n : Int) (w : World) (h0 : 0 ≤ n) (h1 : n < 100) :
    Calls Tryz.prog 105 #[.int .i64 n] w fun e w' => e = .returned (.string ⟨(two n).toArray⟩) ∧ w = w' := by
  have l1 := Lib.itoa_length_le (n / 10) (by omega) (by omega)
  have l2 := Lib.itoa_length_le (n % 10) (by omega) (by omega)
  go_enter Tryz.func105, Tryz.ntmps105
  go_wp2_with (go_at_call 103; refine (Itoa_small _ _ (by omega) (by omega)).mono ?_; rintro e w' ⟨rfl, rfl⟩)
  go_ret
  exact ⟨rfl, rfl⟩

set_option maxRecDepth 100000 in
set_option maxHeartbeats 4000000 in
theorem dateText_any (y m d : Int) (w : World) (hT : TabW w) (hv : vdate y m d = true) :
    Calls Tryz.prog 104 #[.agg #[.int .i64 y, .int .i64 m, .int .i64 d]] w fun e w' => e = .returned (.string ⟨(dateT y m d).toArray⟩) ∧ Below w.heap.size w w' := by
  obtain ⟨v1, v2, v3, v4, v5, v6⟩ := (vdate_iff y m d).1 hv
  have hdm := dom_bd y m
  have l1 := Lib.itoa_length_le (2000 + y) (by omega) (by omega)
  have l2 := two_len m (by omega) (by omega)
  have l3 := two_len d (by omega) (by omega)
  have HD := Lib.hid (show dateT y m d = Lib.itoa (2000 + y) ++ [45] ++ two m ++ [45] ++ two d from rfl)
  have HT := Lib.hid hT
  have HM := Lib.hid (fun w => twoDigits_any m w (by omega) (by omega))
  have HDd := Lib.hid (fun w => twoDigits_any d w (by omega) (by omega))
  have HI := Lib.hid (fun w hT => Itoa_any (2000 + y) w (by omega) (by omega) hT)
  have hwr : IntKind.i64.wrap (2000 + y) = 2000 + y := by rw [IntKind.wrap_i64]; omega
  generalize Lib.itoa (2000 + y) = s1 at *
  generalize two m = s2 at *
  generalize two d = s3 at *
  clear hT hv
  go_enter Tryz.func104, Tryz.ntmps104
  go_wp2_with fail
  have tt := (show (w.alloc (.cells #[.int .i64 y, .int .i64 m, .int .i64 d] 48)).cell? ⟨w.heap.size, 0, none⟩ = some (.int .i64 y) ∧ (w.alloc (.cells #[.int .i64 y, .int .i64 m, .int .i64 d] 48)).cell? ⟨w.heap.size, 1, none⟩ = some (.int .i64 m) ∧ (w.alloc (.cells #[.int .i64 y, .int .i64 m, .int .i64 d] 48)).cell? ⟨w.heap.size, 2, none⟩ = some (.int .i64 d) by simp)
  have ss := fun p => (⟨Wb.cell tt.1 p, Wb.cell tt.2.1 p, Wb.cell tt.2.2 p⟩ : _ ∧ _ ∧ _)
  have HTp := Lib.hid (fun p : Wb (w.alloc (.cells #[.int .i64 y, .int .i64 m, .int .i64 d] 48)) => (HT.out.below (below_new _)).below p.h)
  refine wp_region_wb (by kernel_rfl) (by kernel_rfl) ?_; (repeat ((with_reducible refine wpQuiet_step ?_); intro K hK; go_simp; (try (refine ite_neg_of (by simp [undef]) ?_)); first | (with_reducible refine hK _ ?_; clear hK K) | (apply Exists.intro; (with_reducible refine ⟨fun _ => ?_, hK _ ?_⟩); (first | (go_at_call 103; exact Calls.wb (HI.out _ (HTp.out _))) | (go_at_call 105; first | exact Calls.wb0 (HM.out _) | exact Calls.wb0 (HDd.out _)) | (rw [if_neg (by omega)]; exact ⟨rfl, rfl⟩)); clear hK K))); (with_reducible refine wpQuiet_nil ?_); rintro w1 ⟨⟨_, hb1⟩, rfl⟩; (try dsimp only)
  go_wp2_with fail
  go_ret
  exact ⟨ret_v (by rw [HD.out]; simp), (below_new _).trans (hb1.mono (by simp))⟩
end Go.Proofs.YtabolonlkocopaaGreatDoor


/- The date of a night; texts of nights and squares. -/
namespace Go.Proofs.YtabolonlkocopaaGreatDoor
open Go.RowKit Go.Plc

/-- what DateOf returns -/
def DateRes (n : Int) (w : World) (e : Ending) (w' : World) : Prop :=
  ((0 ≤ n ∧ n ≤ 99999 ∧ ∃ y m d, e = .returned (.tuple #[.agg #[.int .i64 y, .int .i64 m, .int .i64 d], .int .i64 0]) ∧ vdate y m d = true ∧ num y m d = n) ∨
    (¬ (0 ≤ n ∧ n ≤ 99999) ∧ e = .returned (.tuple #[.agg #[.int .i64 0, .int .i64 0, .int .i64 0], .int .i64 1]))) ∧ Below w.heap.size w w'
set_option maxHeartbeats 1000000 in
theorem DateOf_any (n : Int) (w : World) (hM : MonthDays w) : Calls Tryz.prog 37 #[.int .i64 n] w (DateRes n w) := by
  have HM := Lib.hid hM
  have HV := Lib.hid (fun w => validNight_any n w)
  clear hM
  by_cases hn : 0 ≤ n ∧ n ≤ 99999
  · have e1 : (decide (0 ≤ n) && decide (n ≤ 99999)) = true := by simp; omega
    rw [e1] at HV
    have HD := Lib.hid (dateBehind_any n (w.alloc (.cells #[.int .i64 0, .int .i64 0, .int .i64 0] 48)) (HM.out.alloc _) hn.1 (by omega))
    have HN := Lib.hid hn
    clear hn e1
    go_enter Tryz.func37, Tryz.ntmps37
    go_wp2_with fail
    refine (HV.out _).mono ?_
    rintro e w1 ⟨rfl, rfl⟩
    go_wp2_with fail
    refine HD.out.mono ?_
    rintro e w2 ⟨y, m, d, rfl, hv, hnm, hb⟩
    have HR := Lib.hid (And.intro hv hnm)
    have HB := Lib.hid hb
    have hbx := (hb.block w.heap.size (by simp)).trans (World.alloc_heap_new w (.cells #[.int .i64 0, .int .i64 0, .int .i64 0] 48))
    have c0 : w2.cell? ⟨w.heap.size, 0, none⟩ = some (.int .i64 0) := by simp [World.cell?, hbx]
    have c1 : w2.cell? ⟨w.heap.size, 1, none⟩ = some (.int .i64 0) := by simp [World.cell?, hbx]
    have c2 : w2.cell? ⟨w.heap.size, 2, none⟩ = some (.int .i64 0) := by simp [World.cell?, hbx]
    have hfz := frozen_row hbx
    have hsz : w.heap.size < w2.heap.size := (Array.getElem?_eq_some_iff.1 hbx).1
    clear hv hnm hb
    go_wp2_with fail
    refine bodyPost_ret (v := .tuple #[.agg #[.int .i64 y, .int .i64 m, .int .i64 d], .int .i64 0]) (by simp [results, Tryz.results37, go_sem, c0, c1, c2]) rfl ⟨.inl ⟨HN.out.1, HN.out.2, y, m, d, rfl, HR.out⟩, ?_⟩
    have hb0 : Below w.heap.size w w2 := (below_new _).trans (HB.out.mono (by simp))
    iterate 3 (refine Below.setCell (p := ⟨w.heap.size, _, none⟩) ?_ (Nat.le_refl w.heap.size) _)
    exact hb0
  · have e1 : (decide (0 ≤ n) && decide (n ≤ 99999)) = false := by
      rw [Bool.and_eq_false_iff]; simp; omega
    rw [e1] at HV
    have HN := Lib.hid hn
    clear hn e1
    go_enter Tryz.func37, Tryz.ntmps37
    go_wp2_with fail
    refine (HV.out _).mono ?_
    rintro e w1 ⟨rfl, rfl⟩
    go_wp2_with fail
    refine bodyPost_ret (v := .tuple #[.agg #[.int .i64 0, .int .i64 0, .int .i64 0], .int .i64 1]) (by simp [results, Tryz.results37, go_sem]) rfl ⟨.inr ⟨HN.out, rfl⟩, ?_⟩
    (repeat (first | exact Below.refl _ _ | refine Below.drew ?_ | refine below_drewN ?_ _ | refine Below.alloc ?_ (by simp; try omega) _ | refine Below.setCell ?_ (by simp; try omega) _))

theorem date_cells {w : World} {g : Nat} {y m d : Value} {t : TypeId} (h : w.heap[g]? = some (.cells #[y, m, d] t)) :
    w.cell? ⟨g, 0, none⟩ = some y ∧ w.cell? ⟨g, 1, none⟩ = some m ∧ w.cell? ⟨g, 2, none⟩ = some d := by simp [World.cell?, h]

set_option maxRecDepth 100000 in
set_option maxHeartbeats 4000000 in
theorem nightText_any (y m d y' m' d' : Int) (w : World) (hT : TabW w) (hv : vdate y m d = true) (hv' : vdate y' m' d' = true) :
    Calls Tryz.prog 76 #[.agg #[.int .i64 y, .int .i64 m, .int .i64 d], .agg #[.int .i64 y', .int .i64 m', .int .i64 d']] w fun e w' => e = .returned (.string ⟨(nightT y m d y' m' d').toArray⟩) ∧ Below w.heap.size w w' := by
  have HT := Lib.hid hT
  have l1 := dateT_len y m d hv
  have l2 := dateT_len y' m' d' hv'
  obtain ⟨v1, v2, v3, v4, v5, v6⟩ := (vdate_iff y' m' d').1 hv'
  have hdm := dom_bd y' m'
  have l3 := two_len m' (by omega) (by omega)
  have l4 := two_len d' (by omega) (by omega)
  have HD := Lib.hid (fun w hT => dateText_any y m d w hT hv)
  have HD' := Lib.hid (fun w hT => dateText_any y' m' d' w hT hv')
  have HTm := Lib.hid (fun w => twoDigits_any m' w (by omega) (by omega))
  have HTd := Lib.hid (fun w => twoDigits_any d' w (by omega) (by omega))
  have HN := Lib.hid (show nightT y m d y' m' d' = dateT y m d ++ [47] ++ (if y' ≠ y then dateT y' m' d' else if m' ≠ m then two m' ++ [45] ++ two d' else two d') from rfl)
  generalize dateT y m d = s1 at *
  generalize dateT y' m' d' = s2 at *
  generalize two m' = s3 at *
  generalize two d' = s4 at *
  clear hT hv hv'
  cases a1 : (y' != y) <;> cases a2 : (m' != m)
  all_goals
    have HR := Lib.hid (And.intro a1 a2)
    go_enter Tryz.func76, Tryz.ntmps76
    go_wp2_with fail
    refine (HD.out _ ((HT.out.below (below_new _)).below (below_new _))).mono ?_
    rintro e w1 ⟨rfl, hb1⟩
    have HB1 := Lib.hid (show Below w.heap.size w w1 from ((below_new _).trans ((below_new _).mono (by simp))).trans (hb1.mono (by first | (simp; done) | (simp; omega))))
    have hx0 := (hb1.block w.heap.size (by first | (simp; done) | (simp; omega))).trans ((Below.heap_alloc _ _ _ (by simp)).trans (World.alloc_heap_new w (.cells #[.int .i64 y, .int .i64 m, .int .i64 d] 48)))
    have hx1 : w1.heap[w.heap.size + 1]? = some (.cells #[.int .i64 y', .int .i64 m', .int .i64 d'] 48) := (hb1.block (w.heap.size + 1) (by simp)).trans (by have := World.alloc_heap_new (w.alloc (.cells #[.int .i64 y, .int .i64 m, .int .i64 d] 48)) (.cells #[.int .i64 y', .int .i64 m', .int .i64 d'] 48); rwa [World.size_alloc] at this)
    obtain ⟨b0, b1, b2⟩ := date_cells hx0
    obtain ⟨e0, e1, e2⟩ := date_cells hx1
    have HTw := Lib.hid (show TabW w1 from HT.out.below HB1.out)
    clear hb1 hx0 hx1
    go_wp2_with fail
  · -- the same month
    refine (HTd.out _).mono ?_
    rintro e w2 ⟨rfl, rfl⟩
    go_wp2_with fail
    go_ret
    exact ⟨ret_v (by rw [HN.out]; have h := HR.out; simp at h; simp [ba_app, h.1, h.2]), HB1.out⟩
  · have ss := fun p => (⟨Wb.cell e1 p, Wb.cell e2 p⟩ : _ ∧ _)
    refine wp_region_wb (by kernel_rfl) (by kernel_rfl) ?_; (repeat ((with_reducible refine wpQuiet_step ?_); intro K hK; go_simp; (try (refine ite_neg_of (by simp [undef]) ?_)); first | (with_reducible refine hK _ ?_; clear hK K) | (apply Exists.intro; (with_reducible refine ⟨fun _ => ?_, hK _ ?_⟩); (first | (go_at_call 105; first | exact Calls.wb0 (HTm.out _) | exact Calls.wb0 (HTd.out _)) | (rw [if_neg (by omega)]; exact ⟨rfl, rfl⟩)); clear hK K))); (with_reducible refine wpQuiet_nil ?_); rintro w1 ⟨⟨_, hb1⟩, rfl⟩; (try dsimp only)
    go_wp2_with fail
    go_ret
    exact ⟨ret_v (by rw [HN.out]; have h := HR.out; simp at h; simp [ba_app, h.1, h.2]), HB1.out.trans (hb1.mono HB1.out.size)⟩
  · refine (HD'.out _ HTw.out).mono ?_
    rintro e w2 ⟨rfl, hb2⟩
    have HB2 := Lib.hid (HB1.out.trans (hb2.mono HB1.out.size))
    clear hb2
    go_wp2_with fail
    go_ret
    exact ⟨ret_v (by rw [HN.out]; have h := HR.out; simp at h; simp [ba_app, h.1]), HB2.out⟩
  · refine (HD'.out _ HTw.out).mono ?_
    rintro e w2 ⟨rfl, hb2⟩
    have HB2 := Lib.hid (HB1.out.trans (hb2.mono HB1.out.size))
    clear hb2
    go_wp2_with fail
    go_ret
    exact ⟨ret_v (by rw [HN.out]; have h := HR.out; simp at h; simp [ba_app, h.1]), HB2.out⟩

/-- what PrintNight returns -/
def PrintRes (n : Int) (w : World) (e : Ending) (w' : World) : Prop :=
  ((0 ≤ n ∧ n ≤ 99999 ∧ ∃ y m d y' m' d', e = .returned (.tuple #[.string ⟨(nightT y m d y' m' d').toArray⟩, .int .i64 0]) ∧ vdate y m d = true ∧ num y m d = n ∧ vdate y' m' d' = true ∧ num y' m' d' = n + 1) ∨
    (¬ (0 ≤ n ∧ n ≤ 99999) ∧ e = .returned (.tuple #[.string ⟨#[]⟩, .int .i64 1]))) ∧ Below w.heap.size w w'
set_option maxHeartbeats 1000000 in
theorem PrintNight_any (n : Int) (w : World) (hM : MonthDays w) (hT : TabW w) : Calls Tryz.prog 31 #[.int .i64 n] w (PrintRes n w) := by
  have HM := Lib.hid hM
  have HT := Lib.hid hT
  have HV := Lib.hid (fun w => validNight_any n w)
  clear hM hT
  by_cases hn : 0 ≤ n ∧ n ≤ 99999
  · have e1 : (decide (0 ≤ n) && decide (n ≤ 99999)) = true := by simp; omega
    have hwr : IntKind.i64.wrap (n + 1) = n + 1 := by rw [IntKind.wrap_i64]; omega
    rw [e1] at HV
    have HN := Lib.hid hn
    have HD := Lib.hid (dateBehind_any n w HM.out hn.1 (by omega))
    have HD2 := Lib.hid (fun w1 h => dateBehind_any (n + 1) w1 h (by omega) (by omega))
    clear hn e1
    go_enter Tryz.func31, Tryz.ntmps31
    go_wp2_with fail
    refine (HV.out _).mono ?_
    rintro e w1 ⟨rfl, rfl⟩
    go_wp2_with fail
    refine HD.out.mono ?_
    rintro e w2 ⟨y, m, d, rfl, hv, hnm, hb⟩
    have H2 := Lib.hid (And.intro (And.intro hv hnm) hb)
    clear hv hnm hb
    go_wp2_with fail
    refine (HD2.out w2 (HM.out.below H2.out.2)).mono ?_
    rintro e w3 ⟨y', m', d', rfl, hv, hnm, hb⟩
    have H3 := Lib.hid (And.intro (And.intro hv hnm) (H2.out.2.trans (hb.mono H2.out.2.size)))
    clear hv hnm hb
    go_wp2_with fail
    refine (nightText_any y m d y' m' d' w3 (HT.out.below H3.out.2) H2.out.1.1 H3.out.1.1).mono ?_
    rintro e w4 ⟨rfl, hb⟩
    have H4 := Lib.hid (H3.out.2.trans (hb.mono H3.out.2.size))
    clear hb
    go_wp2_with fail
    go_ret2
    exact ⟨.inl ⟨HN.out.1, HN.out.2, y, m, d, y', m', d', rfl, H2.out.1.1, H2.out.1.2, H3.out.1.1, H3.out.1.2⟩, H4.out⟩
  · have e1 : (decide (0 ≤ n) && decide (n ≤ 99999)) = false := by
      rw [Bool.and_eq_false_iff]; simp; omega
    rw [e1] at HV
    have HN := Lib.hid hn
    clear hn e1
    go_enter Tryz.func31, Tryz.ntmps31
    go_wp2_with fail
    refine (HV.out _).mono ?_
    rintro e w1 ⟨rfl, rfl⟩
    go_wp2_with fail
    go_ret2
    exact ⟨.inr ⟨HN.out, rfl⟩, Below.refl _ _⟩

/-! the text of a square -/
def sqT (s : Sq) : List UInt8 := Lib.itoa s.l ++ [58] ++ Lib.itoa s.x ++ [44] ++ Lib.itoa s.y
set_option maxRecDepth 100000 in
set_option maxHeartbeats 4000000 in
theorem squareText_any (s : Sq) (w : World) (hT : TabW w) (hs : s.okB = true) :
    Calls Tryz.prog 70 #[sqv s] w fun e w' => e = .returned (.string ⟨(sqT s).toArray⟩) ∧ Below w.heap.size w w' := by
  obtain ⟨v1, v2, v3, v4, v5, v6⟩ := (Sq.okB_iff s).1 hs
  have hsd := side_le s.l v1
  have l1 := Lib.itoa_length_le s.l (by omega) (by omega)
  have l2 := Lib.itoa_length_le s.x (by omega) (by omega)
  have l3 := Lib.itoa_length_le s.y (by omega) (by omega)
  have HT := Lib.hid hT
  have HI := Lib.hid (fun w hT => Itoa_any s.l w (by omega) (by omega) hT)
  have HX := Lib.hid (fun w hT => Itoa_any s.x w (by omega) (by omega) hT)
  have HY := Lib.hid (fun w hT => Itoa_any s.y w (by omega) (by omega) hT)
  have HD := Lib.hid (show sqT s = Lib.itoa s.l ++ [58] ++ Lib.itoa s.x ++ [44] ++ Lib.itoa s.y from rfl)
  generalize Lib.itoa s.l = s1 at *
  generalize Lib.itoa s.x = s2 at *
  generalize Lib.itoa s.y = s3 at *
  clear hT hs
  unfold sqv
  go_enter Tryz.func70, Tryz.ntmps70
  go_wp2_with fail
  have tt := sq_cells (s := s) (World.alloc_heap_new w (.cells #[.int .i64 s.l, .int .i64 s.x, .int .i64 s.y] 31))
  have ss := fun p => (⟨Wb.cell tt.1 p, Wb.cell tt.2.1 p, Wb.cell tt.2.2 p⟩ : _ ∧ _ ∧ _)
  have HTp := Lib.hid (fun p : Wb (w.alloc (.cells #[.int .i64 s.l, .int .i64 s.x, .int .i64 s.y] 31)) => (HT.out.below (below_new _)).below p.h)
  refine wp_region_wb (by kernel_rfl) (by kernel_rfl) ?_; (repeat ((with_reducible refine wpQuiet_step ?_); intro K hK; go_simp; (try (refine ite_neg_of (by simp [undef]) ?_)); first | (with_reducible refine hK _ ?_; clear hK K) | (apply Exists.intro; (with_reducible refine ⟨fun _ => ?_, hK _ ?_⟩); (first | (go_at_call 103; first | exact Calls.wb (HI.out _ (HTp.out _)) | exact Calls.wb (HX.out _ (HTp.out _)) | exact Calls.wb (HY.out _ (HTp.out _))) | (rw [if_neg (by omega)]; exact ⟨rfl, rfl⟩)); clear hK K))); (with_reducible refine wpQuiet_nil ?_); rintro w1 ⟨⟨_, hb1⟩, rfl⟩; (try dsimp only)
  go_wp2_with fail
  go_ret
  exact ⟨ret_v (by rw [HD.out]; simp [ba_app]), (below_new _).trans (hb1.mono (by simp))⟩
end Go.Proofs.YtabolonlkocopaaGreatDoor
