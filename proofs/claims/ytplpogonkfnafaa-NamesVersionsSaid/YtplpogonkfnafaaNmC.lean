/- increasing, areNames, isVersion. -/
import Derived.Test.YtplpogonkfnafaaNmB
namespace Go.Proofs.Ytplpogonkfnafaa
open Go.RowKit Go.Nm

theorem inc_of_next : ∀ {L : List Int}, (∀ j x y, L[j]? = some x → L[j + 1]? = some y → x < y) → Inc L
  | [], _ => List.Pairwise.nil
  | [x], _ => List.pairwise_cons.2 ⟨fun y h => by simp at h, List.Pairwise.nil⟩
  | x :: y :: L, h => by
    have ih : Inc (y :: L) := inc_of_next fun j a b h1 h2 => h (j + 1) a b (by simpa using h1) (by simpa using h2)
    have hxy : x < y := h 0 x y rfl rfl
    refine List.pairwise_cons.2 ⟨fun z hz => ?_, ih⟩
    rcases List.mem_cons.1 hz with rfl | hz
    · exact hxy
    · have := ih.head z hz; omega
theorem next_of_inc {L : List Int} (h : Inc L) {j : Nat} {x y : Int} (h1 : L[j]? = some x) (h2 : L[j + 1]? = some y) : x < y := by
  obtain ⟨a1, rfl⟩ := List.getElem?_eq_some_iff.1 h1
  obtain ⟨a2, rfl⟩ := List.getElem?_eq_some_iff.1 h2
  exact (List.pairwise_iff_getElem.1 h) j (j + 1) a1 a2 (by omega)
set_option maxRecDepth 100000 in
set_option maxHeartbeats 2000000 in
theorem increasing_any (v : Value) (L : List Int) (w : World) (hv : InSl w w.heap.size v L) (hn : L.length ≤ 1000000000) :
    Calls Try.prog 78 #[v] w fun e w' => e = .returned (.bool (decide (Inc L))) ∧ Below w.heap.size w w' := by
  obtain ⟨A, c, rfl, hc, hcm, hA⟩ := hv
  have HA := Lib.hid hA
  have HI := Lib.hid (@inc_of_next L)
  have HX := Lib.hid (fun h j x y => @next_of_inc L h j x y)
  clear hA hc hcm
  obtain ⟨r, hr⟩ : ∃ r, decide (Inc L) = r := ⟨_, rfl⟩
  rw [hr]
  have HR := Lib.hid hr
  clear hr
  generalize hL : L.length = n at *
  have HL := Lib.hid hL
  clear hL
  go_enter Try.func78, Try.ntmps78
  go_wp2_with fail
  go_loopw [6] (fun k wr => ∃ i : Nat, k = .int .i64 (i : Int) ∧ i ≤ n ∧ (∀ j x y, j + 1 < i → L[j]? = some x → L[j + 1]? = some y → x < y) ∧ Below w.heap.size w wr) (fun k _ => n - (intOf k).toNat)
  case atStart => exact ⟨0, rfl, by omega, fun j x y h => absurd h (by omega), Below.refl _ _⟩
  case round =>
    obtain ⟨i, rfl, hin, hso, hbl⟩ := hrel
    have HSo := Lib.hid hso
    have HB := Lib.hid hbl
    clear hso hbl
    by_cases hlt : i < n
    · obtain ⟨y, ad, hy, rfl, hb, hcy⟩ := (HA.out.below HB.out).at_ HL.out hlt
      have HY := Lib.hid hy
      clear hy
      by_cases h0 : i = 0
      · subst h0
        have HN := Lib.hid (show ∀ j x y, j + 1 < 0 + 1 → L[j]? = some x → L[j + 1]? = some y → x < y from fun j x y h => absurd h (by omega))
        have ss := fun z => Wb.cell hcy z
        go_wp2_with fail
        refine wp_region_wb (by kernel_rfl) (by kernel_rfl) ?_; (repeat ((with_reducible refine wpQuiet_step ?_); intro K hK; go_simp; (try (refine ite_neg_of (by simp [undef]) ?_)); first | (with_reducible refine hK _ ?_; clear hK K) | (apply Exists.intro; (with_reducible refine ⟨fun _ => ?_, hK _ ?_⟩); (fail); clear hK K))); (with_reducible refine wpQuiet_nil ?_); rintro w1 ⟨⟨_, hb1⟩, rfl⟩; (try dsimp only)
        go_wp2_with fail
        have HB2 := Lib.hid (HB.out.trans (hb1.mono HB.out.size))
        clear hb1 ss
        go_roundw
        case rel => exact ⟨1, by go_num, by omega, HN.out, HB2.out⟩
        case measure => simp [intOf]; omega
      · obtain ⟨k, hk⟩ : ∃ k, i - 1 = k := ⟨_, rfl⟩
        have hkn : k < n := by omega
        have hik : (i : Int) = (k : Int) + 1 := by omega
        obtain ⟨x, ad', hx, e, _, hcx⟩ := (HA.out.below HB.out).at_ (i := k) HL.out hkn
        injection e with e
        subst e
        have HXi := Lib.hid (And.intro hx (show k + 1 = i by omega))
        clear hx hk
        have hi0 : (0 : Int) < (i : Int) := by omega
        have hi1 : 0 < i := by omega
        have hiw : IntKind.i64.wrap ((i : Int) - 1) = (k : Int) := by rw [IntWalk.i64_in _ (by omega)]; omega
        clear hik
        have ss := fun z => And.intro (Wb.cell hcy z) (Wb.cell hcx z)
        by_cases hge : y ≤ x
        · have HF := Lib.hid (show r = false from by
            rw [← HR.out, decide_eq_false_iff_not]
            intro h
            have := HX.out h k x y HXi.out.1 (by rw [HXi.out.2]; exact HY.out)
            omega)
          go_wp2_with fail
          refine wp_region_wb (by kernel_rfl) (by kernel_rfl) ?_; (repeat ((with_reducible refine wpQuiet_step ?_); intro K hK; go_simp; (try (refine ite_neg_of (by simp [undef]) ?_)); first | (with_reducible refine hK _ ?_; clear hK K) | (apply Exists.intro; (with_reducible refine ⟨fun _ => ?_, hK _ ?_⟩); (fail); clear hK K))); (with_reducible refine wpQuiet_nil ?_); rintro w1 ⟨⟨_, hb1⟩, rfl⟩; (try dsimp only)
          go_wp2_with fail
          go_ret
          exact ⟨ret_b HF.out.symm, HB.out.trans (hb1.mono HB.out.size)⟩
        · have HN := Lib.hid (show ∀ j x y, j + 1 < i + 1 → L[j]? = some x → L[j + 1]? = some y → x < y from fun j x' y' h h1 h2 => by
            by_cases e : j = k
            · subst e
              rw [HXi.out.1] at h1
              rw [HXi.out.2, HY.out] at h2
              injection h1 with h1; injection h2 with h2; omega
            · exact HSo.out j x' y' (by have := HXi.out.2; omega) h1 h2)
          have hge' : ¬ (y ≤ x) := hge
          go_wp2_with fail
          refine wp_region_wb (by kernel_rfl) (by kernel_rfl) ?_; (repeat ((with_reducible refine wpQuiet_step ?_); intro K hK; go_simp; (try (refine ite_neg_of (by simp [undef]) ?_)); first | (with_reducible refine hK _ ?_; clear hK K) | (apply Exists.intro; (with_reducible refine ⟨fun _ => ?_, hK _ ?_⟩); (fail); clear hK K))); (with_reducible refine wpQuiet_nil ?_); rintro w1 ⟨⟨_, hb1⟩, rfl⟩; (try dsimp only)
          go_wp2_with fail
          have HB2 := Lib.hid (HB.out.trans (hb1.mono HB.out.size))
          clear hb1 ss
          go_roundw
          case rel => exact ⟨i + 1, by go_num, by omega, HN.out, HB2.out⟩
          case measure => simp [intOf]; omega
    · have HT := Lib.hid (show r = true from by
        rw [← HR.out, decide_eq_true_eq]
        exact HI.out fun j x y h1 h2 => HSo.out j x y (by have := (List.getElem?_eq_some_iff.1 h2).1; have := HL.out; omega) h1 h2)
      go_wp2_with fail
      go_ret
      exact ⟨ret_b HT.out.symm, HB.out⟩
theorem inc_le {L : List Int} (h : Inc L) {i j : Nat} {x y : Int} (hx : L[i]? = some x) (hy : L[j]? = some y) (hij : i ≤ j) : x ≤ y := by
  obtain ⟨a1, rfl⟩ := List.getElem?_eq_some_iff.1 hx
  obtain ⟨a2, rfl⟩ := List.getElem?_eq_some_iff.1 hy
  rcases Nat.lt_or_eq_of_le hij with h1 | h1
  · exact Int.le_of_lt ((List.pairwise_iff_getElem.1 h) i j a1 a2 h1)
  · subst h1; exact Int.le_refl _
theorem nms_iff {L : List Int} (h : Inc L) {x y : Int} {k : Nat} (hx : L[0]? = some x) (hy : L[k]? = some y) (hk : k + 1 = L.length) : Nms L ↔ 0 < x ∧ y ≤ 65535 := by
  constructor
  · intro ⟨_, hall⟩
    have h1 := hall x (List.mem_of_getElem? hx)
    have h2 := hall y (List.mem_of_getElem? hy)
    omega
  · rintro ⟨h1, h2⟩
    refine ⟨h, fun z hz => ?_⟩
    obtain ⟨i, hi, rfl⟩ := List.getElem_of_mem hz
    have hzi := List.getElem?_eq_getElem hi
    have g1 := inc_le h hx hzi (Nat.zero_le _)
    have g2 := inc_le h hzi hy (by omega)
    omega
set_option maxRecDepth 100000 in
set_option maxHeartbeats 2000000 in
theorem areNames_any (v : Value) (L : List Int) (w : World) (hv : InSl w w.heap.size v L) (hn : L.length ≤ 1000000000) :
    Calls Try.prog 89 #[v] w fun e w' => e = .returned (.bool (decide (Nms L))) ∧ Below w.heap.size w w' := by
  have HC := Lib.hid (increasing_any v L w hv hn)
  obtain ⟨A, c, rfl, hc, hcm, hA⟩ := hv
  have HA := Lib.hid hA
  clear hA hc hcm
  obtain ⟨r, hr⟩ : ∃ r, decide (Nms L) = r := ⟨_, rfl⟩
  rw [hr]
  by_cases hi : Inc L
  · rw [decide_eq_true hi] at HC
    cases L with
    | nil =>
      have HF := Lib.hid (show r = true from by rw [← hr]; decide)
      clear hr hi
      go_enter Try.func89, Try.ntmps89
      go_wp2_with fail
      refine HC.out.mono ?_
      rintro e w1 ⟨rfl, hb⟩
      go_wp2_with fail
      go_ret
      exact ⟨ret_b HF.out.symm, hb⟩
    | cons x M =>
      obtain ⟨k, hk⟩ : ∃ k, (x :: M).length = k + 1 := ⟨M.length, rfl⟩
      have HH := Lib.hid (fun y hy => nms_iff (x := x) (y := y) (k := k) hi rfl hy hk.symm)
      have HR := Lib.hid hr
      have HK := Lib.hid hk
      clear hi hr
      rw [hk] at HC ⊢
      clear hk
      have hkb : k ≤ 1000000000 := by have := HK.out; omega
      go_enter Try.func89, Try.ntmps89
      go_wp2_with fail
      refine HC.out.mono ?_
      rintro e w1 ⟨rfl, hb⟩
      obtain ⟨x', ad, hx, rfl, hbd, hcx⟩ := (HA.out.below hb).at_ (i := 0) HK.out (by omega)
      obtain rfl : x = x' := by simpa using hx
      obtain ⟨y, ad', hy, e, _, hcy⟩ := (HA.out.below hb).at_ (i := k) HK.out (by omega)
      injection e with e
      subst e
      have HN := Lib.hid (HH.out y hy)
      have hcx' : w1.cell? ad = some (.int .i64 x) := by simpa [Addr.add] using hcx
      have HB := Lib.hid hb
      clear hx hy hb
      by_cases h0 : 0 < x
      · by_cases h1 : y ≤ 65535
        · have HF := Lib.hid (show r = true from by rw [← HR.out, decide_eq_true_eq]; exact HN.out.2 ⟨h0, h1⟩)
          go_wp2_with fail
          go_ret
          exact ⟨ret_b HF.out.symm, HB.out⟩
        · have HF := Lib.hid (show r = false from by rw [← HR.out, decide_eq_false_iff_not]; exact fun h => h1 (HN.out.1 h).2)
          go_wp2_with fail
          go_ret
          exact ⟨ret_b (by rw [HF.out]; simp [h1]; omega), HB.out⟩
      · have HF := Lib.hid (show r = false from by rw [← HR.out, decide_eq_false_iff_not]; exact fun h => h0 (HN.out.1 h).1)
        go_wp2_with fail
        go_ret
        exact ⟨ret_b HF.out.symm, HB.out⟩
  · rw [decide_eq_false hi] at HC
    have HF := Lib.hid (show r = false from by rw [← hr, decide_eq_false_iff_not]; exact fun h => hi h.1)
    clear hr hi
    go_enter Try.func89, Try.ntmps89
    go_wp2_with fail
    refine HC.out.mono ?_
    rintro e w1 ⟨rfl, hb⟩
    go_wp2_with fail
    go_ret
    exact ⟨ret_b HF.out.symm, hb⟩
set_option maxRecDepth 100000 in
set_option maxHeartbeats 2000000 in
theorem isVersion_any (v : Value) (L : List Int) (w : World) (hv : InSl w w.heap.size v L) (hn : L.length ≤ 1000000000) :
    Calls Try.prog 93 #[v] w fun e w' => e = .returned (.bool (decide (Ver L))) ∧ Below w.heap.size w w' := by
  have HC := Lib.hid (areNames_any v L w hv hn)
  obtain ⟨A, c, rfl, hc, hcm, hA⟩ := hv
  clear hA hc hcm
  have hd : decide (Ver L) = (decide (0 < L.length) && (decide (L.length ≤ 400) && decide (Nms L))) := by
    rw [Bool.eq_iff_iff, decide_eq_true_iff, Bool.and_eq_true, Bool.and_eq_true, decide_eq_true_iff, decide_eq_true_iff, decide_eq_true_iff]; exact Iff.rfl
  have HD := Lib.hid hd
  clear hd
  generalize decide (Nms L) = b at *
  generalize L.length = n at *
  by_cases h0 : 0 < n
  · by_cases h1 : n ≤ 400
    · have HF := Lib.hid (show decide (Ver L) = b from by rw [HD.out, decide_eq_true h0, decide_eq_true h1]; rfl)
      have h0' : (0 : Int) < (n : Int) := by omega
      have h1' : (n : Int) ≤ 400 := by omega
      cases b
      all_goals
        go_enter Try.func93, Try.ntmps93
        go_wp2_with fail
        refine HC.out.mono ?_
        rintro e w1 ⟨rfl, hb⟩
        go_wp2_with fail
        go_ret
        exact ⟨ret_b HF.out.symm, hb⟩
    · have HF := Lib.hid (show decide (Ver L) = false from by rw [HD.out, decide_eq_true h0, decide_eq_false h1]; rfl)
      have h0' : (0 : Int) < (n : Int) := by omega
      have h1' : ¬ (n : Int) ≤ 400 := by omega
      go_enter Try.func93, Try.ntmps93
      go_wp2_with fail
      go_ret
      exact ⟨ret_b HF.out.symm, Below.refl _ _⟩
  · have HF := Lib.hid (show decide (Ver L) = false from by rw [HD.out, decide_eq_false h0]; rfl)
    have h0' : ¬ (0 : Int) < (n : Int) := by omega
    go_enter Try.func93, Try.ntmps93
    go_wp2_with fail
    go_ret
    exact ⟨ret_b HF.out.symm, Below.refl _ _⟩
end Go.Proofs.Ytplpogonkfnafaa
