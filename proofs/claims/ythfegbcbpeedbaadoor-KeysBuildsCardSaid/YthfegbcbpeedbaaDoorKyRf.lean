/- The reference: Follow. -/
import Derived.Test.YthfegbcbpeedbaaDoorKyZ
import Derived.Test.YthfegbcbpeedbaaDoorKyRt
import Derived.Test.YthfegbcbpeedbaaDoorKyRm
namespace Go.Ky
open Go.Nm
def mrgF : List Int → List Int → List Int
  | [], b => b
  | x :: a, [] => x :: a
  | x :: a, y :: b => if x < y then x :: mrgF a (y :: b) else if x = y then x :: mrgF a b else y :: mrgF (x :: a) b
termination_by a b => a.length + b.length
theorem mrg_nil (b : List Int) : mrgF [] b = b := by unfold mrgF; rfl
theorem mrg_end (a : List Int) : mrgF a [] = a := by
  cases a with
  | nil => exact mrg_nil _
  | cons x a => unfold mrgF; rfl
theorem mrg_lt {x y : Int} (a b : List Int) (h : x < y) : mrgF (x :: a) (y :: b) = x :: mrgF a (y :: b) := by conv => lhs; unfold mrgF
                                                                                                              rw [if_pos h]
theorem mrg_eq (x : Int) (a b : List Int) : mrgF (x :: a) (x :: b) = x :: mrgF a b := by
  conv => lhs; unfold mrgF
  rw [if_neg (by omega), if_pos rfl]
theorem mrg_gt {x y : Int} (a b : List Int) (h : y < x) : mrgF (x :: a) (y :: b) = y :: mrgF (x :: a) b := by
  conv => lhs; unfold mrgF
  rw [if_neg (by omega), if_neg (by omega)]
theorem drop_at {L : List Int} {i : Nat} {x : Int} (h : L[i]? = some x) : L.drop i = x :: L.drop (i + 1) := by
  obtain ⟨hi, rfl⟩ := List.getElem?_eq_some_iff.1 h
  exact List.drop_eq_getElem_cons hi
theorem mrg_mem : ∀ (a b : List Int) (z : Int), z ∈ mrgF a b ↔ z ∈ a ∨ z ∈ b
  | [], b, z => by rw [mrg_nil]; simp
  | x :: a, [], z => by rw [mrg_end]; simp
  | x :: a, y :: b, z => by
    rcases Int.lt_trichotomy x y with h | h | h
    · rw [mrg_lt a b h, List.mem_cons, mrg_mem a (y :: b) z, List.mem_cons (a := z) (b := x)]
      exact ⟨fun h => by rcases h with h | h | h <;> simp [h], fun h => by rcases h with (h | h) | h <;> simp [h]⟩
    · subst h
      rw [mrg_eq, List.mem_cons, mrg_mem a b z, List.mem_cons, List.mem_cons]
      exact ⟨fun h => by rcases h with h | h | h <;> simp [h], fun h => by rcases h with (h | h) | (h | h) <;> simp [h]⟩
    · rw [mrg_gt a b h, List.mem_cons, mrg_mem (x :: a) b z, List.mem_cons (a := z) (b := y)]
      exact ⟨fun h => by rcases h with h | h | h <;> simp [h], fun h => by rcases h with h | h | h <;> simp [h]⟩
termination_by a b => a.length + b.length
theorem mrg_inc : ∀ (a b : List Int), Inc a → Inc b → Inc (mrgF a b)
  | [], b, _, hb => by rw [mrg_nil]; exact hb
  | x :: a, [], ha, _ => by rw [mrg_end]; exact ha
  | x :: a, y :: b, ha, hb => by
    rcases Int.lt_trichotomy x y with h | h | h
    · rw [mrg_lt a b h]
      refine List.pairwise_cons.2 ⟨fun z hz => ?_, mrg_inc a (y :: b) ha.tail hb⟩
      rcases (mrg_mem _ _ _).1 hz with h1 | h1
      · exact ha.head z h1
      · rcases List.mem_cons.1 h1 with rfl | h1
        · exact h
        · have := hb.head z h1; omega
    · subst h
      rw [mrg_eq]
      refine List.pairwise_cons.2 ⟨fun z hz => ?_, mrg_inc a b ha.tail hb.tail⟩
      rcases (mrg_mem _ _ _).1 hz with h1 | h1
      · exact ha.head z h1
      · exact hb.head z h1
    · rw [mrg_gt a b h]
      refine List.pairwise_cons.2 ⟨fun z hz => ?_, mrg_inc (x :: a) b ha hb.tail⟩
      rcases (mrg_mem _ _ _).1 hz with h1 | h1
      · rcases List.mem_cons.1 h1 with rfl | h1
        · exact h
        · have := ha.head z h1; omega
      · exact hb.head z h1
termination_by a b => a.length + b.length
end Go.Ky
namespace Go.Proofs.YthfegbcbpeedbaaDoor
open Go.RowKit Go.Nm Go.Ky

set_option maxRecDepth 100000 in
set_option maxHeartbeats 8000000 in
theorem rmerged_any (u v : Value) (a b : List Int) (w : World) (hu : InSl w w.heap.size u a) (hv : InSl w w.heap.size v b) (ha : a.length ≤ 1000000) (hb : b.length ≤ 1000000) :
    Calls Tryd.prog 92 #[u, v] w fun e w' => (∃ r, e = .returned r ∧ Fr w.heap.size w' r (mrgF a b)) ∧ Below w.heap.size w w' := by
  obtain ⟨A, c, rfl, _⟩ := hu.form
  obtain ⟨B, d, rfl, _⟩ := hv.form
  have HA := Lib.hid (show InA w w.heap.size A a from by obtain ⟨_, _, e, _, _, h⟩ := hu; cases e; exact h)
  have HV := Lib.hid (show InA w w.heap.size B b from by obtain ⟨_, _, e, _, _, h⟩ := hv; cases e; exact h)
  obtain ⟨na, hna⟩ : ∃ n, a.length = n := ⟨_, rfl⟩
  obtain ⟨nb, hnb⟩ : ∃ n, b.length = n := ⟨_, rfl⟩
  have HN := Lib.hid (And.intro hna hnb)
  rw [hna] at ha
  rw [hnb] at hb
  rw [hna, hnb]
  obtain ⟨M, hM⟩ : ∃ M, mrgF a b = M := ⟨_, rfl⟩
  rw [hM]
  have HM := Lib.hid (show M = [] ++ mrgF (a.drop 0) (b.drop 0) from by rw [← hM]; rfl)
  have HR0 := Lib.hid (OwN.start w)
  clear hu hv hna hnb hM
  go_enter Tryd.func92, Tryd.ntmps92
  go_wp2_with fail
  go_loopw [5, 6, 7] (fun ov iv kv wr => ∃ (i k : Nat) (Ao : Option Addr) (no co : Nat) (O : List Int), ov = .slice Ao no co ∧ iv = .int .i64 (i : Int) ∧ kv = .int .i64 (k : Int) ∧ i ≤ na ∧ k ≤ nb ∧ OwN w ov O wr ∧ M = O ++ mrgF (a.drop i) (b.drop k) ∧ O.length ≤ i + k) (fun _ iv kv _ => (na - (intOf iv).toNat) + (nb - (intOf kv).toNat))
  case atStart => exact ⟨0, 0, _, _, _, [], rfl, rfl, rfl, by omega, by omega, HR0.out, HM.out, by simp⟩
  case round =>
    obtain ⟨i, k, Ao, no, co, O, rfl, rfl, rfl, hin, hkn, hI, hM, hO⟩ := hrel
    have HI := Lib.hid hI
    have HM2 := Lib.hid hM
    have HO := Lib.hid hO
    clear hI hM hO
    by_cases hi : i < na
    · obtain ⟨x, ad, hx, rfl, _, hcx⟩ := (HA.out.below HI.out.bel).at_ HN.out.1 hi
      have HX := Lib.hid (drop_at hx)
      have his : (i : Int) < (na : Int) := by omega
      have hi0 : ¬ (i : Int) < 0 := by omega
      have hk0 : ¬ (k : Int) < 0 := by omega
      by_cases hk : k < nb
      · obtain ⟨y, bd, hy, rfl, _, hcy⟩ := (HV.out.below HI.out.bel).at_ HN.out.2 hk
        have HY := Lib.hid (drop_at hy)
        have HYq := Lib.hid hy
        have hks : (k : Int) < (nb : Int) := by omega
        have hke : ((k : Int) == (nb : Int)) = false := beq_eq_false_iff_ne.2 (by omega)
        have ss := fun z => And.intro (Wb.cell hcx z) (Wb.cell hcy z)
        rcases Int.lt_trichotomy x y with h | h | h
        · skip
          have hle : x ≤ y := by omega
          have hne : (x == y) = false := beq_eq_false_iff_ne.2 (by omega)
          clear hx hy
          clear hcx hcy
          have HLq := Lib.hid (show O.length + [x].length ≤ 3000000 from by have := HO.out; simp; omega)
          go_wp2_with fail
          refine wp_region_wb (by kernel_rfl) (by kernel_rfl) ?_; (repeat ((with_reducible refine wpQuiet_step ?_); intro K hK; go_simp; (try (refine ite_neg_of (by simp [undef]) ?_)); first | (with_reducible refine hK _ ?_; clear hK K) | (apply Exists.intro; (with_reducible refine ⟨fun _ => ?_, hK _ ?_⟩); (fail); clear hK K))); (with_reducible refine wpQuiet_nil ?_); rintro w1 ⟨⟨_, hb1⟩, rfl⟩; (try dsimp only)
          have HI1 := Lib.hid (HI.out.step hb1)
          have p0 : w1.cell? (ad.add i) = _ := (ss ⟨w1, hb1⟩).1
          have p1 : w1.cell? (bd.add k) = _ := (ss ⟨w1, hb1⟩).2
          clear ss hb1
          have ss2 := fun z : Wb w1 => And.intro (Wb.cell p0 z) (Wb.cell p1 z)
          go_wp2_with fail
          refine wp_region_wb (by kernel_rfl) (by kernel_rfl) ?_; (repeat ((with_reducible refine wpQuiet_step ?_); intro K hK; go_simp; (try (refine ite_neg_of (by simp [undef]) ?_)); first | (with_reducible refine hK _ ?_; clear hK K) | (apply Exists.intro; (with_reducible refine ⟨fun _ => ?_, hK _ ?_⟩); (fail); clear hK K))); (with_reducible refine wpQuiet_nil ?_); rintro w1 ⟨⟨_, hb1⟩, rfl⟩; (try dsimp only)
          replace HI1 := Lib.hid (HI1.out.step hb1)
          have p2 : w1.cell? (ad.add i) = _ := (ss2 ⟨w1, hb1⟩).1
          clear ss2 hb1
          go_wp2_with (at_builtin; refine wpList_appN rfl _ _ rfl (HI1.out.step (below_new _)) rfl rfl (box_sl (y := x) (World.alloc_heap_new _ _)) HLq.out ?_; intro v6 w6 hI6 _; obtain ⟨A6, n6, c6, e6⟩ := hI6.slice; subst e6; have HI6 := Lib.hid hI6; clear hI6)
          go_roundw
          case rel => exact ⟨i + 1, k, _, _, _, O ++ [x], rfl, by go_num, by go_num, by omega, by omega, HI6.out, by rw [HM2.out, HX.out, HY.out, mrg_lt _ _ h, ← HY.out]; simp, by have := HO.out; simp; omega⟩
          case measure => simp [intOf]; omega
        · skip
          subst h
          have hle : x ≤ x := by omega
          have hne : (x == x) = true := by simp
          clear hx hy
          clear hcx hcy
          have HLq := Lib.hid (show O.length + [x].length ≤ 3000000 from by have := HO.out; simp; omega)
          go_wp2_with fail
          refine wp_region_wb (by kernel_rfl) (by kernel_rfl) ?_; (repeat ((with_reducible refine wpQuiet_step ?_); intro K hK; go_simp; (try (refine ite_neg_of (by simp [undef]) ?_)); first | (with_reducible refine hK _ ?_; clear hK K) | (apply Exists.intro; (with_reducible refine ⟨fun _ => ?_, hK _ ?_⟩); (fail); clear hK K))); (with_reducible refine wpQuiet_nil ?_); rintro w1 ⟨⟨_, hb1⟩, rfl⟩; (try dsimp only)
          have HI1 := Lib.hid (HI.out.step hb1)
          have p0 : w1.cell? (ad.add i) = _ := (ss ⟨w1, hb1⟩).1
          have p1 : w1.cell? (bd.add k) = _ := (ss ⟨w1, hb1⟩).2
          clear ss hb1
          have ss2 := fun z : Wb w1 => And.intro (Wb.cell p0 z) (Wb.cell p1 z)
          go_wp2_with fail
          refine wp_region_wb (by kernel_rfl) (by kernel_rfl) ?_; (repeat ((with_reducible refine wpQuiet_step ?_); intro K hK; go_simp; (try (refine ite_neg_of (by simp [undef]) ?_)); first | (with_reducible refine hK _ ?_; clear hK K) | (apply Exists.intro; (with_reducible refine ⟨fun _ => ?_, hK _ ?_⟩); (fail); clear hK K))); (with_reducible refine wpQuiet_nil ?_); rintro w1 ⟨⟨_, hb1⟩, rfl⟩; (try dsimp only)
          replace HI1 := Lib.hid (HI1.out.step hb1)
          have p2 : w1.cell? (ad.add i) = _ := (ss2 ⟨w1, hb1⟩).1
          clear ss2 hb1
          go_wp2_with (at_builtin; refine wpList_appN rfl _ _ rfl (HI1.out.step (below_new _)) rfl rfl (box_sl (y := x) (World.alloc_heap_new _ _)) HLq.out ?_; intro v6 w6 hI6 _; obtain ⟨A6, n6, c6, e6⟩ := hI6.slice; subst e6; have HI6 := Lib.hid hI6; clear hI6)
          go_roundw
          case rel => exact ⟨i + 1, k + 1, _, _, _, O ++ [x], rfl, by go_num, by go_num, by omega, by omega, HI6.out, by rw [HM2.out, HX.out, HY.out, mrg_eq]; simp, by have := HO.out; simp; omega⟩
          case measure => simp [intOf]; omega
        · skip
          have hle : ¬ x ≤ y := by omega
          clear hx hy
          have HYg := Lib.hid HYq.out
          clear hcx hcy
          have HLq := Lib.hid (show O.length + [y].length ≤ 3000000 from by have := HO.out; simp; omega)
          go_wp2_with fail
          refine wp_region_wb (by kernel_rfl) (by kernel_rfl) ?_; (repeat ((with_reducible refine wpQuiet_step ?_); intro K hK; go_simp; (try (refine ite_neg_of (by simp [undef]) ?_)); first | (with_reducible refine hK _ ?_; clear hK K) | (apply Exists.intro; (with_reducible refine ⟨fun _ => ?_, hK _ ?_⟩); (fail); clear hK K))); (with_reducible refine wpQuiet_nil ?_); rintro w1 ⟨⟨_, hb1⟩, rfl⟩; (try dsimp only)
          have HI1 := Lib.hid (HI.out.step hb1)
          clear ss hb1
          obtain ⟨y2, bd2, hy2, e2, _, hcy2⟩ := (HV.out.below HI1.out.bel).at_ HN.out.2 hk
          cases e2
          obtain rfl : y = y2 := Option.some.inj (HYg.out.symm.trans hy2)
          clear hy2
          go_wp2_with (at_builtin; refine wpList_appN rfl _ _ rfl (HI1.out.step (below_new _)) rfl rfl (box_sl (y := y) (World.alloc_heap_new _ _)) HLq.out ?_; intro v6 w6 hI6 _; obtain ⟨A6, n6, c6, e6⟩ := hI6.slice; subst e6; have HI6 := Lib.hid hI6; clear hI6)
          go_roundw
          case rel => exact ⟨i, k + 1, _, _, _, O ++ [y], rfl, by go_num, by go_num, by omega, by omega, HI6.out, by rw [HM2.out, HX.out, HY.out, mrg_gt _ _ h, ← HX.out]; simp, by have := HO.out; simp; omega⟩
          case measure => simp [intOf]; omega
      · obtain rfl : nb = k := by omega
        have hke : ((nb : Int) == (nb : Int)) = true := by simp
        have hkl : ¬ (nb : Int) < (nb : Int) := by omega
        have HE := Lib.hid (show b.drop nb = [] from List.drop_eq_nil_of_le (by have := HN.out.2; omega))
        have ss := fun z => Wb.cell hcx z
        clear hx hcx
        have HLq := Lib.hid (show O.length + [x].length ≤ 3000000 from by have := HO.out; simp; omega)
        go_wp2_with fail
        refine wp_region_wb (by kernel_rfl) (by kernel_rfl) ?_; (repeat ((with_reducible refine wpQuiet_step ?_); intro K hK; go_simp; (try (refine ite_neg_of (by simp [undef]) ?_)); first | (with_reducible refine hK _ ?_; clear hK K) | (apply Exists.intro; (with_reducible refine ⟨fun _ => ?_, hK _ ?_⟩); (fail); clear hK K))); (with_reducible refine wpQuiet_nil ?_); rintro w1 ⟨⟨_, hb1⟩, rfl⟩; (try dsimp only)
        have HI1 := Lib.hid (HI.out.step hb1)
        have p0 : w1.cell? (ad.add i) = _ := ss ⟨w1, hb1⟩
        clear ss hb1
        have ss2 := fun z : Wb w1 => Wb.cell p0 z
        go_wp2_with fail
        refine wp_region_wb (by kernel_rfl) (by kernel_rfl) ?_; (repeat ((with_reducible refine wpQuiet_step ?_); intro K hK; go_simp; (try (refine ite_neg_of (by simp [undef]) ?_)); first | (with_reducible refine hK _ ?_; clear hK K) | (apply Exists.intro; (with_reducible refine ⟨fun _ => ?_, hK _ ?_⟩); (fail); clear hK K))); (with_reducible refine wpQuiet_nil ?_); rintro w1 ⟨⟨_, hb1⟩, rfl⟩; (try dsimp only)
        replace HI1 := Lib.hid (HI1.out.step hb1)
        have p2 : w1.cell? (ad.add i) = _ := ss2 ⟨w1, hb1⟩
        clear ss2 hb1
        go_wp2_with (at_builtin; refine wpList_appN rfl _ _ rfl (HI1.out.step (below_new _)) rfl rfl (box_sl (y := x) (World.alloc_heap_new _ _)) HLq.out ?_; intro v6 w6 hI6 _; obtain ⟨A6, n6, c6, e6⟩ := hI6.slice; subst e6; have HI6 := Lib.hid hI6; clear hI6)
        go_roundw
        case rel => exact ⟨i + 1, nb, _, _, _, O ++ [x], rfl, by go_num, by go_num, by omega, by omega, HI6.out, by rw [HM2.out, HX.out, HE.out, mrg_end, mrg_end]; simp, by have := HO.out; simp; omega⟩
        case measure => simp [intOf]; omega
    · obtain rfl : na = i := by omega
      have hil : ¬ (na : Int) < (na : Int) := by omega
      have HE := Lib.hid (show a.drop na = [] from List.drop_eq_nil_of_le (by have := HN.out.1; omega))
      by_cases hk : k < nb
      · obtain ⟨y, bd, hy, rfl, _, hcy⟩ := (HV.out.below HI.out.bel).at_ HN.out.2 hk
        have HY := Lib.hid (drop_at hy)
        have HYg := Lib.hid hy
        have hks : (k : Int) < (nb : Int) := by omega
        have hk0 : ¬ (k : Int) < 0 := by omega
        have hke : ((k : Int) == (nb : Int)) = false := beq_eq_false_iff_ne.2 (by omega)
        clear hy hcy
        have HLq := Lib.hid (show O.length + [y].length ≤ 3000000 from by have := HO.out; simp; omega)
        go_wp2_with fail
        refine wp_region_wb (by kernel_rfl) (by kernel_rfl) ?_; (repeat ((with_reducible refine wpQuiet_step ?_); intro K hK; go_simp; (try (refine ite_neg_of (by simp [undef]) ?_)); first | (with_reducible refine hK _ ?_; clear hK K) | (apply Exists.intro; (with_reducible refine ⟨fun _ => ?_, hK _ ?_⟩); (fail); clear hK K))); (with_reducible refine wpQuiet_nil ?_); rintro w1 ⟨⟨_, hb1⟩, rfl⟩; (try dsimp only)
        have HI1 := Lib.hid (HI.out.step hb1)
        clear hb1
        obtain ⟨y2, bd2, hy2, e2, _, hcy2⟩ := (HV.out.below HI1.out.bel).at_ HN.out.2 hk
        cases e2
        obtain rfl : y = y2 := Option.some.inj (HYg.out.symm.trans hy2)
        clear hy2
        go_wp2_with (at_builtin; refine wpList_appN rfl _ _ rfl (HI1.out.step (below_new _)) rfl rfl (box_sl (y := y) (World.alloc_heap_new _ _)) HLq.out ?_; intro v6 w6 hI6 _; obtain ⟨A6, n6, c6, e6⟩ := hI6.slice; subst e6; have HI6 := Lib.hid hI6; clear hI6)
        go_roundw
        case rel => exact ⟨na, k + 1, _, _, _, O ++ [y], rfl, by go_num, by go_num, by omega, by omega, HI6.out, by rw [HM2.out, HE.out, HY.out, mrg_nil, mrg_nil]; simp, by have := HO.out; simp; omega⟩
        case measure => simp [intOf]; omega
      · obtain rfl : nb = k := by omega
        have hkl : ¬ (nb : Int) < (nb : Int) := by omega
        have HF := Lib.hid (show M = O from by rw [HM2.out, HE.out, show b.drop nb = [] from List.drop_eq_nil_of_le (by have := HN.out.2; omega), mrg_nil, List.append_nil])
        go_wp2_with fail
        go_ret
        exact ⟨⟨_, rfl, by rw [HF.out]; exact HI.out.fr⟩, HI.out.bel⟩
    end Go.Proofs.YthfegbcbpeedbaaDoor
namespace Go.Ky
open Go.Nm
theorem mrg_len : ∀ (a b : List Int), (mrgF a b).length ≤ a.length + b.length
  | [], b => by rw [mrg_nil]; simp
  | x :: a, [] => by rw [mrg_end]; simp
  | x :: a, y :: b => by
    rcases Int.lt_trichotomy x y with h | h | h
    · rw [mrg_lt a b h]; have := mrg_len a (y :: b); simp only [List.length_cons] at *; omega
    · subst h; rw [mrg_eq]; have := mrg_len a b; simp only [List.length_cons] at *; omega
    · rw [mrg_gt a b h]; have := mrg_len (x :: a) b; simp only [List.length_cons] at *; omega
termination_by a b => a.length + b.length
/-- the names of the marked leaves, merged -/
def folF (k : Kx) (f : Nat → Bool) : Nat → List Int
  | 0 => []
  | i + 1 => if f i = true then mrgF (folF k f i) (k.lv.getD i []) else folF k f i
def followE (m : Mx) (k : Kx) (l : List Int) : Int := if ckE m k = 0 then (if setsF m.st l = true then 0 else 32) else ckE m k
def followL (m : Mx) (k : Kx) (l : List Int) : List Int := if followE m k l = 0 then folF k (rchF k l) k.lv.length else []
theorem fol_yes {k : Kx} {f : Nat → Bool} {i : Nat} {L : List Int} (h : f i = true) (hl : k.lv[i]? = some L) : folF k f (i + 1) = mrgF (folF k f i) L := by
  conv => lhs; unfold folF
  rw [if_pos h, List.getD_eq_getElem?_getD, hl]
  rfl
theorem fol_no {k : Kx} {f : Nat → Bool} {i : Nat} (h : f i = false) : folF k f (i + 1) = folF k f i := by
  conv => lhs; unfold folF
  rw [if_neg (by rw [h]; simp)]
theorem fol_len {k : Kx} {f : Nat → Bool} (h : ∀ l ∈ k.lv, l.length ≤ 1000) : ∀ i, (folF k f i).length ≤ i * 1000
  | 0 => by unfold folF; simp
  | i + 1 => by
    have ih := fol_len h (f := f) i
    cases hf : f i with
    | false =>
      have e : (folF k f (i + 1)).length = (folF k f i).length := congrArg _ (fol_no hf)
      omega
    | true =>
      cases hl : k.lv[i]? with
      | none =>
        have e : folF k f (i + 1) = mrgF (folF k f i) [] := by
          conv => lhs; unfold folF
          rw [if_pos hf, List.getD_eq_getElem?_getD, hl]
          rfl
        have e2 : (folF k f (i + 1)).length = (folF k f i).length := congrArg _ (e.trans (mrg_end _))
        omega
      | some L =>
        have e : (folF k f (i + 1)).length = (mrgF (folF k f i) L).length := congrArg _ (fol_yes hf hl)
        have h1 := mrg_len (folF k f i) L
        have h2 := h L (List.mem_of_getElem? hl)
        omega
end Go.Ky
namespace Go.Proofs.YthfegbcbpeedbaaDoor
open Go.RowKit Go.Nm Go.Ky

set_option maxRecDepth 100000 in
set_option maxHeartbeats 16000000 in
theorem rFollow_any (v u t : Value) (m : Mx) (k : Kx) (l : List Int) (w : World) (hv : MxV w v m) (hs : MSm m) (hu : KyV w u k) (hk : KSm k) (ht : InSl w w.heap.size t l) (hl : l.length ≤ 1000) :
    Calls Tryd.prog 42 #[v, u, t] w fun e w' => (∃ x, e = .returned (.tuple #[x, .int .i64 (followE m k l)]) ∧ Fr w.heap.size w' x (followL m k l)) ∧ Below w.heap.size w w' := by
  obtain ⟨A1, c1, A2, c2, W0, rfl, hW0, hb0, hM, hS, hR, hX⟩ := mx_box hv
  have hz : W0.heap.size = w.heap.size + 1 := by rw [← hW0]; simp
  obtain ⟨B1, d1, B2, d2, W1, rfl, hW1, hb1, hK, hNd, hV, hX1⟩ := ky_box (hu.step hb0)
  rw [hz] at hX1
  have HW := Lib.hid (And.intro hW0 hW1)
  have hB1 := hb0.trans (hb1.mono hb0.size)
  have HB1 := Lib.hid hB1
  have HX := Lib.hid (fun Y (h : Below W1.heap.size W1 Y) => And.intro (hX Y (hb1.trans (h.mono hb1.size))) (hX1 Y h))
  have HC := Lib.hid (rCheckKey_any _ _ m k W1 (hM W1 hb1) hs (hK W1 (Below.refl _ _)) hk)
  have HSe := Lib.hid (fun (h : ckE m k = 0) Y (hY : Below W1.heap.size W1 Y) => rsets_any _ t m.st l Y (hS Y (hb1.trans (hY.mono hb1.size))) (ht.step (hB1.trans (hY.mono hB1.size))) (fun q hq => by
    obtain ⟨i, hi, e⟩ := List.mem_iff_getElem.1 hq
    have h2 := (ck_ok h).2.2.sv i q (by rw [List.getElem?_eq_getElem hi, e])
    exact h2) (by have := hs.1; omega) (by omega))
  have HRe := Lib.hid (fun (h : ckE m k = 0) (h2 : setsF m.st l = true) Y (hY : Below W1.heap.size W1 Y) => rreached_any _ t k l m.st Y (hK Y hY) (ht.step (hB1.trans (hY.mono hB1.size))) hk (ck_ok h).2.2 (sets_len' h2) (by
    have h3 := (ck_ok h).2.1
    unfold leavesF at h3
    rw [Bool.and_eq_true] at h3
    exact (of_decide_eq_true h3.2).1) (fun i x hx => by have := sets_range (ck_ok h).1 h2 hx; omega))
  have HTs := Lib.hid (fun Y (h : Below W1.heap.size W1 Y) => ht.step (hB1.trans (h.mono hB1.size)))
  have HVs := Lib.hid (fun Y (h : Below W1.heap.size W1 Y) => hV Y h)
  have HCk := Lib.hid (ck_cases m k)
  have HE := Lib.hid (show followE m k l = (if ckE m k = 0 then (if setsF m.st l = true then 0 else 32) else ckE m k) ∧ followL m k l = (if followE m k l = 0 then folF k (rchF k l) k.lv.length else []) from ⟨rfl, rfl⟩)
  have HLk := Lib.hid (fun h : ckE m k = 0 => show k.lv.length ≤ 1000 from by
    have h3 := (ck_ok h).2.1
    unfold leavesF at h3
    rw [Bool.and_eq_true] at h3
    exact (of_decide_eq_true h3.2).2)
  have HFl := Lib.hid (fun (i : Nat) => fol_len (k := k) (f := rchF k l) hk.2.2.2 i)
  have HLl := Lib.hid hk.2.2.2
  obtain ⟨ce, hce⟩ : ∃ c, ckE m k = c := ⟨_, rfl⟩
  obtain ⟨te, hte⟩ : ∃ c, followE m k l = c := ⟨_, rfl⟩
  obtain ⟨tl, htl⟩ : ∃ c, followL m k l = c := ⟨_, rfl⟩
  obtain ⟨sp, hsp⟩ : ∃ c, setsF m.st l = c := ⟨_, rfl⟩
  obtain ⟨f, hf⟩ : ∃ f, rchF k l = f := ⟨_, rfl⟩
  rw [hce] at HC HE HCk HSe HRe HLk
  rw [hsp] at HSe HE HRe
  rw [hf] at HE HRe HFl
  rw [hte, htl] at HE
  rw [hte, htl]
  obtain ⟨n, hn⟩ : ∃ n, k.nd.length = n := ⟨_, rfl⟩
  obtain ⟨⟨k0, k1⟩, k2, k3⟩ := HX.out W1 (Below.refl _ _)
  obtain ⟨At, ct, rfl, _⟩ := ht.form
  obtain ⟨nt, hnt⟩ : ∃ n, l.length = n := ⟨_, rfl⟩
  obtain ⟨nl, hnl⟩ : ∃ n, k.lv.length = n := ⟨_, rfl⟩
  obtain ⟨ns, hns⟩ : ∃ n, m.st.length = n := ⟨_, rfl⟩
  rw [hn, hnl, hns] at HX HW
  rw [hn, hnl, hns] at HC
  rw [hns, hnt] at HSe
  rw [hn, hnl, hnt] at HRe
  rw [hnl] at HVs HLk HE k3
  rw [hns] at k0
  rw [hn] at k2
  rw [hn, hnl, hns, hnt]
  generalize m.rows.length = nr at *
  clear hv hu hs hk ht hl hW0 hb0 hM hS hR hX hz hW1 hb1 hK hNd hV hX1 hce hte htl hsp hf hn hnt hB1 hnl hns
  have bad : ∀ z : Int, te = z → z ≠ 0 → tl = [] := fun z h h0 => by rw [HE.out.2, h, if_neg h0]
  go_enter Tryd.func42, Tryd.ntmps42
  go_wp2_with fail
  rw [HW.out.1, HW.out.2]
  (try go_wp2_with fail)
  (with_reducible refine HC.out.mono ?_)
  rintro e w1 ⟨rfl, hb⟩
  have HB2 := Lib.hid hb
  clear k0 k1 k2 k3 HC hb
  obtain ⟨⟨k0, k1⟩, k2, k3⟩ := HX.out w1 HB2.out
  rcases HCk.out with h0 | h0 | h0
  rotate_left
  · subst h0
    have h1 : te = 30 := by rw [HE.out.1]; rfl
    have HF := Lib.hid (And.intro h1 (bad 30 h1 (by decide)))
    clear bad HE HCk h1
    go_wp2_with fail
    go_ret2
    exact ⟨⟨_, by rw [HF.out.1]; rfl, by rw [HF.out.2]; exact Fr.nil _ _⟩, HB1.out.trans (HB2.out.mono HB1.out.size)⟩
  · subst h0
    have h1 : te = 31 := by rw [HE.out.1]; rfl
    have HF := Lib.hid (And.intro h1 (bad 31 h1 (by decide)))
    clear bad HE HCk h1
    go_wp2_with fail
    go_ret2
    exact ⟨⟨_, by rw [HF.out.1]; rfl, by rw [HF.out.2]; exact Fr.nil _ _⟩, HB1.out.trans (HB2.out.mono HB1.out.size)⟩
  subst h0
  have HS1 := Lib.hid (HSe.out rfl w1 HB2.out)
  have hl1 := HLk.out rfl
  clear HSe HCk HLk
  go_wp2_with fail
  (with_reducible refine HS1.out.mono ?_)
  rintro e w2 ⟨rfl, hb⟩
  have HB3 := Lib.hid (HB2.out.trans (hb.mono HB2.out.size))
  clear k0 k1 k2 k3 HS1 hb
  obtain ⟨⟨k0, k1⟩, k2, k3⟩ := HX.out w2 HB3.out
  cases sp with
  | false =>
    have h1 : te = 32 := by rw [HE.out.1]; rfl
    have HF := Lib.hid (And.intro h1 (bad 32 h1 (by decide)))
    clear bad HE h1
    go_wp2_with fail
    go_ret2
    exact ⟨⟨_, by rw [HF.out.1]; rfl, by rw [HF.out.2]; exact Fr.nil _ _⟩, HB1.out.trans (HB3.out.mono HB1.out.size)⟩
  | true =>
  have h1 : te = 0 := by rw [HE.out.1]; rfl
  have HF := Lib.hid (show te = 0 ∧ tl = folF k f nl from ⟨h1, by rw [HE.out.2, h1, if_pos rfl]⟩)
  have HR1 := Lib.hid (HRe.out (by first | trivial | rfl) (by first | trivial | rfl) w2 HB3.out)
  clear bad HE h1 HRe
  go_wp2_with fail
  (with_reducible refine HR1.out.mono ?_)
  rintro e w3 ⟨⟨g, rfl, hI⟩, hb⟩
  have HB4 := Lib.hid (HB3.out.trans (hb.mono HB3.out.size))
  have HI := Lib.hid hI
  clear k0 k1 k2 k3 HR1 hb hI
  have hFr0 : Fr w3.heap.size w3 (.slice none 0 0) (folF k f 0) := Fr.nil _ _
  have HFr0 := Lib.hid hFr0
  clear hFr0
  go_wp2_with fail
  go_loopw [10, 11] (fun ov iv wr => ∃ (i : Nat) (Ao : Option Addr) (no co : Nat), ov = .slice Ao no co ∧ iv = .int .i64 (i : Int) ∧ i ≤ nl ∧ Fr w3.heap.size wr ov (folF k f i) ∧ Below w3.heap.size w3 wr) (fun _ iv _ => nl - (intOf iv).toNat)
  case atStart => exact ⟨0, _, _, _, rfl, rfl, by omega, HFr0.out, Below.refl _ _⟩
  case round =>
    clear HFr0
    obtain ⟨i, Ao, no, co, rfl, rfl, hin, hFr, hb⟩ := hrel
    have HFr := Lib.hid hFr
    have HBi := Lib.hid hb
    have HBw := Lib.hid (HB4.out.trans (hb.mono HB4.out.size))
    clear hFr hb
    obtain ⟨⟨k0, k1⟩, k2, k3⟩ := HX.out wr HBw.out
    by_cases hlt : i < nl
    · have hcb := (IwG.step HI.out HBi.out).cell hlt
      obtain ⟨b, hbb⟩ : ∃ b, f i = b := ⟨_, rfl⟩
      have HBb := Lib.hid hbb
      have hcb2 : wr.cell? ⟨g, i, none⟩ = some (.bool b) := by rw [← hbb]; exact hcb
      have his : (i : Int) < (nl : Int) := by omega
      have hi0 : ¬ (i : Int) < 0 := by omega
      clear hbb hcb
      cases b with
      | false =>
        have HN := Lib.hid (fol_no (k := k) HBb.out)
        go_wp2_with fail
        go_roundw
        case rel => exact ⟨i + 1, _, _, _, rfl, by go_num, by omega, by rw [HN.out]; exact HFr.out, HBi.out⟩
        case measure => simp [intOf]; omega
      | true =>
        obtain ⟨ad, ul, L, rfl, _, hL, hc, hul⟩ := (HVs.out wr HBw.out).at_ hlt
        obtain ⟨Au, cu, rfl, _⟩ := hul.form
        have HY := Lib.hid (fol_yes HBb.out hL)
        have HMg := Lib.hid (rmerged_any _ _ (folF k f i) L wr HFr.out.1 hul (by have := HFl.out i; omega) (by have := HLl.out L (List.mem_of_getElem? hL); omega))
        generalize L.length = nL at *
        clear hL hul
        go_wp2_with fail
        (with_reducible refine HMg.out.mono ?_)
        rintro e w5 ⟨⟨rv, rfl, hr⟩, hb⟩
        obtain ⟨Ar, cr, rfl, _⟩ := hr.1.form
        have HR5 := Lib.hid (hr.low HBi.out.size)
        have HB5 := Lib.hid (HBi.out.trans (hb.mono HBi.out.size))
        clear hr hb k0 k1 k2 k3 hc hcb2
        go_wp2_with fail
        go_roundw
        case rel => exact ⟨i + 1, _, _, _, rfl, by go_num, by omega, by rw [HY.out]; exact HR5.out, HB5.out⟩
        case measure => simp [intOf]; omega
    · obtain rfl : nl = i := by omega
      go_wp2_with fail
      go_ret2
      exact ⟨⟨_, by rw [HF.out.1]; rfl, by rw [HF.out.2]; exact HFr.out.low (Nat.le_trans HB1.out.size HB4.out.size)⟩, HB1.out.trans (HBw.out.mono HB1.out.size)⟩
end Go.Proofs.YthfegbcbpeedbaaDoor
