
/- The reference: Follow. -/
import Derived.Test.YthfegbcbpeedbaaGreatDoorKyZ
import Derived.Test.YthfegbcbpeedbaaGreatDoorKyRt
import Derived.Test.YthfegbcbpeedbaaGreatDoorKyRm
namespace Go.Ky
open Go.Nm
def mrgF : List Int → List Int → List Int
  | [], b => b
  | x :: a, [] => x :: a
  | x :: a, y :: b => if x < y then x :: mrgF a (y :: b) else if x = y then x :: mrgF a b else y :: mrgF (x :: a) b
termination_by a b => a.length + b.length
theorem mrg_nil (b : List Int) : mrgF [] b = b := by unfold mrgF; rfl
theorem mrg_end (a : List Int) : mrgF a [] = a := by
  cases a with
  | nil => exact mrg_nil _
  | cons x a => unfold mrgF; rfl
theorem mrg_lt {x y : Int} (a b : List Int) (h : x < y) : mrgF (x :: a) (y :: b) = x :: mrgF a (y :: b) := by conv => lhs; unfold mrgF
                                                                                                              rw [if_pos h]
theorem mrg_eq (x : Int) (a b : List Int) : mrgF (x :: a) (x :: b) = x :: mrgF a b := by
  conv => lhs; unfold mrgF
  rw [if_neg (by omega), if_pos rfl]
theorem mrg_gt {x y : Int} (a b : List Int) (h : y < x) : mrgF (x :: a) (y :: b) = y :: mrgF (x :: a) b := by
  conv => lhs; unfold mrgF
  rw [if_neg (by omega), if_neg (by omega)]
theorem drop_at {L : List Int} {i : Nat} {x : Int} (h : L[i]? = some x) : L.drop i = x :: L.drop (i + 1) := by
  obtain ⟨hi, rfl⟩ := List.getElem?_eq_some_iff.1 h
  exact List.drop_eq_getElem_cons hi
theorem mrg_mem : ∀ (a b : List Int) (z : Int), z ∈ mrgF a b ↔ z ∈ a ∨ z ∈ b
  | [], b, z => by rw [mrg_nil]; simp
  | x :: a, [], z => by rw [mrg_end]; simp
  | x :: a, y :: b, z => by
    rcases Int.lt_trichotomy x y with h | h | h
    · rw [mrg_lt a b h, List.mem_cons, mrg_mem a (y :: b) z, List.mem_cons (a := z) (b := x)]
      exact ⟨fun h => by rcases h with h | h | h <;> simp [h], fun h => by rcases h with (h | h) | h <;> simp [h]⟩
    · subst h
      rw [mrg_eq, List.mem_cons, mrg_mem a b z, List.mem_cons, List.mem_cons]
      exact ⟨fun h => by rcases h with h | h | h <;> simp [h], fun h => by rcases h with (h | h) | (h | h) <;> simp [h]⟩
    · rw [mrg_gt a b h, List.mem_cons, mrg_mem (x :: a) b z, List.mem_cons (a := z) (b := y)]
      exact ⟨fun h => by rcases h with h | h | h <;> simp [h], fun h => by rcases h with h | h | h <;> simp [h]⟩
termination_by a b => a.length + b.length
theorem mrg_inc : ∀ (a b : List Int), Inc a → Inc b → Inc (mrgF a b)
  | [], b, _, hb => by rw [mrg_nil]; exact hb
  | x :: a, [], ha, _ => by rw [mrg_end]; exact ha
  | x :: a, y :: b, ha, hb => by
    rcases Int.lt_trichotomy x y with h | h | h
    · rw [mrg_lt a b h]
      refine List.pairwise_cons.2 ⟨fun z hz => ?_, mrg_inc a (y :: b) ha.tail hb⟩
      rcases (mrg_mem _ _ _).1 hz with h1 | h1
      · exact ha.head z h1
      · rcases List.mem_cons.1 h1 with rfl | h1
        · exact h
        · have := hb.head z h1; omega
    · subst h
      rw [mrg_eq]
      refine List.pairwise_cons.2 ⟨fun z hz => ?_, mrg_inc a b ha.tail hb.tail⟩
      rcases (mrg_mem _ _ _).1 hz with h1 | h1
      · exact ha.head z h1
      · exact hb.head z h1
    · rw [mrg_gt a b h]
      refine List.pairwise_cons.2 ⟨fun z hz => ?_, mrg_inc (x :: a) b ha hb.tail⟩
      rcases (mrg_mem _ _ _).1 hz with h1 | h1
      · rcases List.mem_cons.1 h1 with rfl | h1
        · exact h
        · have := ha.head z h1; omega
      · exact hb.head z h1
termination_by a b => a.length + b.length
end Go.Ky
namespace Go.Proofs.YthfegbcbpeedbaaGreatDoor
open Go.RowKit Go.Nm Go.Ky

set_option maxRecDepth 100000 in
set_option maxHeartbeats 8000000 in
theorem rmerged_any (u v : Value) (a b : List Int) (w : World) (hu : InSl w w.heap.size u a) (hv : InSl w w.heap.size v b) (ha : a.length ≤ 1000000) (hb : b.length ≤ 1000000) :
    Calls Tryz.prog 36 #[u, v] w fun e w' => (∃ r, e = .returned r ∧ Fr w.heap.size w' r (mrgF a b)) ∧ Below w.heap.size w w' := by
  obtain ⟨A, c, rfl, _⟩ := hu.form
  obtain ⟨B, d, rfl, _⟩ := hv.form
  have HA := Lib.hid (show InA w w.heap.size A a from by obtain ⟨_, _, e, _, _, h⟩ := hu; cases e; exact h)
  have HV := Lib.hid (show InA w w.heap.size B b from by obtain ⟨_, _, e, _, _, h⟩ := hv; cases e; exact h)
  obtain ⟨na, hna⟩ : ∃ n, a.length = n := ⟨_, rfl⟩
  obtain ⟨nb, hnb⟩ : ∃ n, b.length = n := ⟨_, rfl⟩
  have HN := Lib.hid (And.intro hna hnb)
  rw [hna] at ha
  rw [hnb] at hb
  rw [hna, hnb]
  obtain ⟨M, hM⟩ : ∃ M, mrgF a b = M := ⟨_, rfl⟩
  rw [hM]
  have HM := Lib.hid (show M = [] ++ mrgF (a.drop 0) (b.drop 0) from by rw [← hM]; rfl)
  have HR0 := Lib.hid (OwN.start w)
  clear hu hv hna hnb hM
  go_enter Tryz.func36, Tryz.ntmps36
  go_wp2_with fail
  go_loopw [5, 6, 7] (fun ov iv kv wr => ∃ (i k : Nat) (Ao : Option Addr) (no co : Nat) (O : List Int), ov = .slice Ao no co ∧ iv = .int .i64 (i : Int) ∧ kv = .int .i64 (k : Int) ∧ i ≤ na ∧ k ≤ nb ∧ OwN w ov O wr ∧ M = O ++ mrgF (a.drop i) (b.drop k) ∧ O.length ≤ i + k) (fun _ iv kv _ => (na - (intOf iv).toNat) + (nb - (intOf kv).toNat))
  case atStart => exact ⟨0, 0, _, _, _, [], rfl, rfl, rfl, by omega, by omega, HR0.out, HM.out, by simp⟩
  case round =>
    obtain ⟨i, k, Ao, no, co, O, rfl, rfl, rfl, hin, hkn, hI, hM, hO⟩ := hrel
    have HI := Lib.hid hI
    have HM2 := Lib.hid hM
    have HO := Lib.hid hO
    clear hI hM hO
    by_cases hi : i < na
    · obtain ⟨x, ad, hx, rfl, _, hcx⟩ := (HA.out.below HI.out.bel).at_ HN.out.1 hi
      have HX := Lib.hid (drop_at hx)
      have his : (i : Int) < (na : Int) := by omega
      have hi0 : ¬ (i : Int) < 0 := by omega
      have hk0 : ¬ (k : Int) < 0 := by omega
      by_cases hk : k < nb
      · obtain ⟨y, bd, hy, rfl, _, hcy⟩ := (HV.out.below HI.out.bel).at_ HN.out.2 hk
        have HY := Lib.hid (drop_at hy)
        have HYq := Lib.hid hy
        have hks : (k : Int) < (nb : Int) := by omega
        have hke : ((k : Int) == (nb : Int)) = false := beq_eq_false_iff_ne.2 (by omega)
        have ss := fun z => And.intro (Wb.cell hcx z) (Wb.cell hcy z)
        rcases Int.lt_trichotomy x y with h | h | h
        · skip
          have hle : x ≤ y := by omega
          have hne : (x == y) = false := beq_eq_false_iff_ne.2 (by omega)
          clear hx hy
          clear hcx hcy
          have HLq := Lib.hid (show O.length + [x].length ≤ 3000000 from by have := HO.out; simp; omega)
          go_wp2_with fail
          refine wp_region_wb (by kernel_rfl) (by kernel_rfl) ?_; (repeat ((with_reducible refine wpQuiet_step ?_); intro K hK; go_simp; (try (refine ite_neg_of (by simp [undef]) ?_)); first | (with_reducible refine hK _ ?_; clear hK K) | (apply Exists.intro; (with_reducible refine ⟨fun _ => ?_, hK _ ?_⟩); (fail); clear hK K))); (with_reducible refine wpQuiet_nil ?_); rintro w1 ⟨⟨_, hb1⟩, rfl⟩; (try dsimp only)
          have HI1 := Lib.hid (HI.out.step hb1)
          have p0 : w1.cell? (ad.add i) = _ := (ss ⟨w1, hb1⟩).1
          have p1 : w1.cell? (bd.add k) = _ := (ss ⟨w1, hb1⟩).2
          clear ss hb1
          have ss2 := fun z : Wb w1 => And.intro (Wb.cell p0 z) (Wb.cell p1 z)
          go_wp2_with fail
          refine wp_region_wb (by kernel_rfl) (by kernel_rfl) ?_; (repeat ((with_reducible refine wpQuiet_step ?_); intro K hK; go_simp; (try (refine ite_neg_of (by simp [undef]) ?_)); first | (with_reducible refine hK _ ?_; clear hK K) | (apply Exists.intro; (with_reducible refine ⟨fun _ => ?_, hK _ ?_⟩); (fail); clear hK K))); (with_reducible refine wpQuiet_nil ?_); rintro w1 ⟨⟨_, hb1⟩, rfl⟩; (try dsimp only)
          replace HI1 := Lib.hid (HI1.out.step hb1)
          have p2 : w1.cell? (ad.add i) = _ := (ss2 ⟨w1, hb1⟩).1
          clear ss2 hb1
          go_wp2_with (at_builtin; refine wpList_appN rfl _ _ rfl (HI1.out.step (below_new _)) rfl rfl (box_sl (y := x) (World.alloc_heap_new _ _)) HLq.out ?_; intro v6 w6 hI6 _; obtain ⟨A6, n6, c6, e6⟩ := hI6.slice; subst e6; have HI6 := Lib.hid hI6; clear hI6)
          go_roundw
          case rel => exact ⟨i + 1, k, _, _, _, O ++ [x], rfl, by go_num, by go_num, by omega, by omega, HI6.out, by rw [HM2.out, HX.out, HY.out, mrg_lt _ _ h, ← HY.out]; simp, by have := HO.out; simp; omega⟩
          case measure => simp [intOf]; omega
        · skip
          subst h
          have hle : x ≤ x := by omega
          have hne : (x == x) = true := by simp
          clear hx hy
          clear hcx hcy
          have HLq := Lib.hid (show O.length + [x].length ≤ 3000000 from by have := HO.out; simp; omega)
          go_wp2_with fail
          refine wp_region_wb (by kernel_rfl) (by kernel_rfl) ?_; (repeat ((with_reducible refine wpQuiet_step ?_); intro K hK; go_simp; (try (refine ite_neg_of (by simp [undef]) ?_)); first | (with_reducible refine hK _ ?_; clear hK K) | (apply Exists.intro; (with_reducible refine ⟨fun _ => ?_, hK _ ?_⟩); (fail); clear hK K))); (with_reducible refine wpQuiet_nil ?_); rintro w1 ⟨⟨_, hb1⟩, rfl⟩; (try dsimp only)
          have HI1 := Lib.hid (HI.out.step hb1)
          have p0 : w1.cell? (ad.add i) = _ := (ss ⟨w1, hb1⟩).1
          have p1 : w1.cell? (bd.add k) = _ := (ss ⟨w1, hb1⟩).2
          clear ss hb1
          have ss2 := fun z : Wb w1 => And.intro (Wb.cell p0 z) (Wb.cell p1 z)
          go_wp2_with fail
          refine wp_region_wb (by kernel_rfl) (by kernel_rfl) ?_; (repeat ((with_reducible refine wpQuiet_step ?_); intro K hK; go_simp; (try (refine ite_neg_of (by simp [undef]) ?_)); first | (with_reducible refine hK _ ?_; clear hK K) | (apply Exists.intro; (with_reducible refine ⟨fun _ => ?_, hK _ ?_⟩); (fail); clear hK K))); (with_reducible refine wpQuiet_nil ?_); rintro w1 ⟨⟨_, hb1⟩, rfl⟩; (try dsimp only)
          replace HI1 := Lib.hid (HI1.out.step hb1)
          have p2 : w1.cell? (ad.add i) = _ := (ss2 ⟨w1, hb1⟩).1
          clear ss2 hb1
          go_wp2_with (at_builtin; refine wpList_appN rfl _ _ rfl (HI1.out.step (below_new _)) rfl rfl (box_sl (y := x) (World.alloc_heap_new _ _)) HLq.out ?_; intro v6 w6 hI6 _; obtain ⟨A6, n6, c6, e6⟩ := hI6.slice; subst e6; have HI6 := Lib.hid hI6; clear hI6)
          go_roundw
          case rel => exact ⟨i + 1, k + 1, _, _, _, O ++ [x], rfl, by go_num, by go_num, by omega, by omega, HI6.out, by rw [HM2.out, HX.out, HY.out, mrg_eq]; simp, by have := HO.out; simp; omega⟩
          case measure => simp [intOf]; omega
        · skip
          have hle : ¬ x ≤ y := by omega
          clear hx hy
          have HYg := Lib.hid HYq.out
          clear hcx hcy
          have HLq := Lib.hid (show O.length + [y].length ≤ 3000000 from by have := HO.out; simp; omega)
          go_wp2_with fail
          refine wp_region_wb (by kernel_rfl) (by kernel_rfl) ?_; (repeat ((with_reducible refine wpQuiet_step ?_); intro K hK; go_simp; (try (refine ite_neg_of (by simp [undef]) ?_)); first | (with_reducible refine hK _ ?_; clear hK K) | (apply Exists.intro; (with_reducible refine ⟨fun _ => ?_, hK _ ?_⟩); (fail); clear hK K))); (with_reducible refine wpQuiet_nil ?_); rintro w1 ⟨⟨_, hb1⟩, rfl⟩; (try dsimp only)
          have HI1 := Lib.hid (HI.out.step hb1)
          clear ss hb1
          obtain ⟨y2, bd2, hy2, e2, _, hcy2⟩ := (HV.out.below HI1.out.bel).at_ HN.out.2 hk
          cases e2
          obtain rfl : y = y2 := Option.some.inj (HYg.out.symm.trans hy2)
          clear hy2
          go_wp2_with (at_builtin; refine wpList_appN rfl _ _ rfl (HI1.out.step (below_new _)) rfl rfl (box_sl (y := y) (World.alloc_heap_new _ _)) HLq.out ?_; intro v6 w6 hI6 _; obtain ⟨A6, n6, c6, e6⟩ := hI6.slice; subst e6; have HI6 := Lib.hid hI6; clear hI6)
          go_roundw
          case rel => exact ⟨i, k + 1, _, _, _, O ++ [y], rfl, by go_num, by go_num, by omega, by omega, HI6.out, by rw [HM2.out, HX.out, HY.out, mrg_gt _ _ h, ← HX.out]; simp, by have := HO.out; simp; omega⟩
          case measure => simp [intOf]; omega
      · obtain rfl : nb = k := by omega
        have hke : ((nb : Int) == (nb : Int)) = true := by simp
        have hkl : ¬ (nb : Int) < (nb : Int) := by omega
        have HE := Lib.hid (show b.drop nb = [] from List.drop_eq_nil_of_le (by have := HN.out.2; omega))
        have ss := fun z => Wb.cell hcx z
        clear hx hcx
        have HLq := Lib.hid (show O.length + [x].length ≤ 3000000 from by have := HO.out; simp; omega)
        go_wp2_with fail
        refine wp_region_wb (by kernel_rfl) (by kernel_rfl) ?_; (repeat ((with_reducible refine wpQuiet_step ?_); intro K hK; go_simp; (try (refine ite_neg_of (by simp [undef]) ?_)); first | (with_reducible refine hK _ ?_; clear hK K) | (apply Exists.intro; (with_reducible refine ⟨fun _ => ?_, hK _ ?_⟩); (fail); clear hK K))); (with_reducible refine wpQuiet_nil ?_); rintro w1 ⟨⟨_, hb1⟩, rfl⟩; (try dsimp only)
        have HI1 := Lib.hid (HI.out.step hb1)
        have p0 : w1.cell? (ad.add i) = _ := ss ⟨w1, hb1⟩
        clear ss hb1
        have ss2 := fun z : Wb w1 => Wb.cell p0 z
        go_wp2_with fail
        refine wp_region_wb (by kernel_rfl) (by kernel_rfl) ?_; (repeat ((with_reducible refine wpQuiet_step ?_); intro K hK; go_simp; (try (refine ite_neg_of (by simp [undef]) ?_)); first | (with_reducible refine hK _ ?_; clear hK K) | (apply Exists.intro; (with_reducible refine ⟨fun _ => ?_, hK _ ?_⟩); (fail); clear hK K))); (with_reducible refine wpQuiet_nil ?_); rintro w1 ⟨⟨_, hb1⟩, rfl⟩; (try dsimp only)
        replace HI1 := Lib.hid (HI1.out.step hb1)
        have p2 : w1.cell? (ad.add i) = _ := ss2 ⟨w1, hb1⟩
        clear ss2 hb1
        go_wp2_with (at_builtin; refine wpList_appN rfl _ _ rfl (HI1.out.step (below_new _)) rfl rfl (box_sl (y := x) (World.alloc_heap_new _ _)) HLq.out ?_; intro v6 w6 hI6 _; obtain ⟨A6, n6, c6, e6⟩ := hI6.slice; subst e6; have HI6 := Lib.hid hI6; clear hI6)
        go_roundw
        case rel => exact ⟨i + 1, nb, _, _, _, O ++ [x], rfl, by go_num, by go_num, by omega, by omega, HI6.out, by rw [HM2.out, HX.out, HE.out, mrg_end, mrg_end]; simp, by have := HO.out; simp; omega⟩
        case measure => simp [intOf]; omega
    · obtain rfl : na = i := by omega
      have hil : ¬ (na : Int) < (na : Int) := by omega
      have HE := Lib.hid (show a.drop na = [] from List.drop_eq_nil_of_le (by have := HN.out.1; omega))
      by_cases hk : k < nb
      · obtain ⟨y, bd, hy, rfl, _, hcy⟩ := (HV.out.below HI.out.bel).at_ HN.out.2 hk
        have HY := Lib.hid (drop_at hy)
        have HYg := Lib.hid hy
        have hks : (k : Int) < (nb : Int) := by omega
        have hk0 : ¬ (k : Int) < 0 := by omega
        have hke : ((k : Int) == (nb : Int)) = false := beq_eq_false_iff_ne.2 (by omega)
        clear hy hcy
        have HLq := Lib.hid (show O.length + [y].length ≤ 3000000 from by have := HO.out; simp; omega)
        go_wp2_with fail
        refine wp_region_wb (by kernel_rfl) (by kernel_rfl) ?_; (repeat ((with_reducible refine wpQuiet_step ?_); intro K hK; go_simp; (try (refine ite_neg_of (by simp [undef]) ?_)); first | (with_reducible refine hK _ ?_; clear hK K) | (apply Exists.intro; (with_reducible refine ⟨fun _ => ?_, hK _ ?_⟩); (fail); clear hK K))); (with_reducible refine wpQuiet_nil ?_); rintro w1 ⟨⟨_, hb1⟩, rfl⟩; (try dsimp only)
        have HI1 := Lib.hid (HI.out.step hb1)
        clear hb1
        obtain ⟨y2, bd2, hy2, e2, _, hcy2⟩ := (HV.out.below HI1.out.bel).at_ HN.out.2 hk
        cases e2
        obtain rfl : y = y2 := Option.some.inj (HYg.out.symm.trans hy2)
        clear hy2
        go_wp2_with (at_builtin; refine wpList_appN rfl _ _ rfl (HI1.out.step (below_new _)) rfl rfl (box_sl (y := y) (World.alloc_heap_new _ _)) HLq.out ?_; intro v6 w6 hI6 _; obtain ⟨A6, n6, c6, e6⟩ := hI6.slice; subst e6; have HI6 := Lib.hid hI6; clear hI6)
        go_roundw
        case rel => exact ⟨na, k + 1, _, _, _, O ++ [y], rfl, by go_num, by go_num, by omega, by omega, HI6.out, by rw [HM2.out, HE.out, HY.out, mrg_nil, mrg_nil]; simp, by have := HO.out; simp; omega⟩
        case measure => simp [intOf]; omega
      · obtain rfl : nb = k := by omega
        have hkl : ¬ (nb : Int) < (nb : Int) := by omega
        have HF := Lib.hid (show M = O from by rw [HM2.out, HE.out, show b.drop nb = [] from List.drop_eq_nil_of_le (by have := HN.out.2; omega), mrg_nil, List.append_nil])
        go_wp2_with fail
        go_ret
        exact ⟨⟨_, rfl, by rw [HF.out]; exact HI.out.fr⟩, HI.out.bel⟩
    end Go.Proofs.YthfegbcbpeedbaaGreatDoor
namespace Go.Ky
open Go.Nm
theorem mrg_len : ∀ (a b : List Int), (mrgF a b).length ≤ a.length + b.length
  | [], b => by rw [mrg_nil]; simp
  | x :: a, [] => by rw [mrg_end]; simp
  | x :: a, y :: b => by
    rcases Int.lt_trichotomy x y with h | h | h
    · rw [mrg_lt a b h]; have := mrg_len a (y :: b); simp only [List.length_cons] at *; omega
    · subst h; rw [mrg_eq]; have := mrg_len a b; simp only [List.length_cons] at *; omega
    · rw [mrg_gt a b h]; have := mrg_len (x :: a) b; simp only [List.length_cons] at *; omega
termination_by a b => a.length + b.length
/-- the names of the marked leaves, merged -/
def folF (k : Kx) (f : Nat → Bool) : Nat → List Int
  | 0 => []
  | i + 1 => if f i = true then mrgF (folF k f i) (k.lv.getD i []) else folF k f i
def followE (m : Mx) (k : Kx) (l : List Int) : Int := if ckE m k = 0 then (if setsF m.st l = true then 0 else 32) else ckE m k
def followL (m : Mx) (k : Kx) (l : List Int) : List Int := if followE m k l = 0 then folF k (rchF k l) k.lv.length else []
theorem fol_yes {k : Kx} {f : Nat → Bool} {i : Nat} {L : List Int} (h : f i = true) (hl : k.lv[i]? = some L) : folF k f (i + 1) = mrgF (folF k f i) L := by
  conv => lhs; unfold folF
  rw [if_pos h, List.getD_eq_getElem?_getD, hl]
  rfl
theorem fol_no {k : Kx} {f : Nat → Bool} {i : Nat} (h : f i = false) : folF k f (i + 1) = folF k f i := by
  conv => lhs; unfold folF
  rw [if_neg (by rw [h]; simp)]
theorem fol_len {k : Kx} {f : Nat → Bool} (h : ∀ l ∈ k.lv, l.length ≤ 1000) : ∀ i, (folF k f i).length ≤ i * 1000
  | 0 => by unfold folF; simp
  | i + 1 => by
    have ih := fol_len h (f := f) i
    cases hf : f i with
    | false =>
      have e : (folF k f (i + 1)).length = (folF k f i).length := congrArg _ (fol_no hf)
      omega
    | true =>
      cases hl : k.lv[i]? with
      | none =>
        have e : folF k f (i + 1) = mrgF (folF k f i) [] := by
          conv => lhs; unfold folF
          rw [if_pos hf, List.getD_eq_getElem?_getD, hl]
          rfl
        have e2 : (folF k f (i + 1)).length = (folF k f i).length := congrArg _ (e.trans (mrg_end _))
        omega
      | some L =>
        have e : (folF k f (i + 1)).length = (mrgF (folF k f i) L).length := congrArg _ (fol_yes hf hl)
        have h1 := mrg_len (folF k f i) L
        have h2 := h L (List.mem_of_getElem? hl)
        omega
end Go.Ky
namespace Go.Proofs.YthfegbcbpeedbaaGreatDoor
open Go.RowKit Go.Nm Go.Ky

end Go.Proofs.YthfegbcbpeedbaaGreatDoor
