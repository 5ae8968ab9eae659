
/- The reference of names: within, has, rising, list; its versions as mathematics. -/
import Derived.Test.YtplpogonkfnafaaGreatNmCk
import Derived.Test.YtplpogonkfnafaaGreatNmBe
import Derived.Test.YtplpogonkfnafaaGreatNmBc
import Derived.Test.YtplpogonkfnafaaGreatNmBg
namespace Go.Proofs.YtplpogonkfnafaaGreat
open Go.RowKit Go.Nm

set_option maxRecDepth 100000 in
set_option maxHeartbeats 4000000 in
theorem rwithin_any (n a b : Int) (w : World) :
    Calls Tryz.prog 49 #[.int .i64 n, .int .i64 a, .int .i64 b] w fun e w' => e = .returned (.bool (decide (a ≤ n ∧ n ≤ b))) ∧ Below w.heap.size w w' := by
  obtain ⟨r, hr⟩ : ∃ r, decide (a ≤ n ∧ n ≤ b) = r := ⟨_, rfl⟩
  rw [hr]
  have HR := Lib.hid hr
  clear hr
  have HB := Lib.hid (Below.refl w.heap.size w)
  by_cases h1 : a ≤ n
  · by_cases h2 : n ≤ b
    · have HF := Lib.hid (show r = true from by rw [← HR.out, decide_eq_true_eq]; exact ⟨h1, h2⟩)
      go_enter Tryz.func49, Tryz.ntmps49
      go_wp2_with fail
      go_ret
      exact ⟨ret_b HF.out.symm, HB.out⟩
    · have HF := Lib.hid (show r = false from by rw [← HR.out, decide_eq_false_iff_not]; exact fun h => h2 h.2)
      go_enter Tryz.func49, Tryz.ntmps49
      go_wp2_with fail
      go_ret
      exact ⟨ret_b HF.out.symm, HB.out⟩
  · have HF := Lib.hid (show r = false from by rw [← HR.out, decide_eq_false_iff_not]; exact fun h => h1 h.1)
    go_enter Tryz.func49, Tryz.ntmps49
    go_wp2_with fail
    go_ret
    exact ⟨ret_b HF.out.symm, HB.out⟩
set_option maxRecDepth 100000 in
set_option maxHeartbeats 4000000 in
theorem rhas_any (u : Value) (L : List Int) (x : Int) (w : World) (hu : InSl w w.heap.size u L) (hL : L.length ≤ 1000000) :
    Calls Tryz.prog 35 #[u, .int .i64 x] w fun e w' => e = .returned (.bool (decide (x ∈ L))) ∧ Below w.heap.size w w' := by
  obtain ⟨A, c, rfl, hc, hcm, hA⟩ := hu
  have HA := Lib.hid hA
  obtain ⟨r, hr⟩ : ∃ r, decide (x ∈ L) = r := ⟨_, rfl⟩
  rw [hr]
  have HR := Lib.hid hr
  clear hA hr
  generalize hnl : L.length = n at *
  have HL := Lib.hid hnl
  clear hnl
  go_enter Tryz.func35, Tryz.ntmps35
  go_wp2_with fail
  go_loopw [5] (fun iv wr => ∃ i : Nat, iv = .int .i64 (i : Int) ∧ i ≤ n ∧ (∀ j z, j < i → L[j]? = some z → z ≠ x) ∧ Below w.heap.size w wr) (fun iv _ => n - (intOf iv).toNat)
  case atStart => exact ⟨0, rfl, by omega, fun j z hj => absurd hj (by omega), Below.refl _ _⟩
  case round =>
    obtain ⟨i, rfl, hin, hq, hb⟩ := hrel
    have HQ := Lib.hid hq
    have HBl := Lib.hid hb
    by_cases hlt : i < n
    · obtain ⟨y, ad, hy, rfl, hbd, hcy⟩ := (HA.out.below hb).at_ HL.out hlt
      clear hq hb
      by_cases hxy : y = x
      · have HF := Lib.hid (show r = true from by rw [← HR.out, decide_eq_true_eq, ← hxy]; exact List.mem_of_getElem? hy)
        subst hxy
        clear hy hbd
        go_wp2_with fail
        go_ret
        exact ⟨by rw [HF.out]; rfl, HBl.out⟩
      · have HN := Lib.hid (show ∀ j z, j < i + 1 → L[j]? = some z → z ≠ x from fun j z hj hz => by
          by_cases h1 : j < i
          · exact HQ.out j z h1 hz
          · obtain rfl : j = i := by omega
            rw [hy] at hz; injection hz with hz; rw [← hz]; exact hxy)
        have hb2 : (y == x) = false := by simpa using hxy
        clear hy hbd
        go_wp2_with fail
        go_roundw
        case rel => exact ⟨i + 1, by go_num, by omega, HN.out, HBl.out⟩
        case measure => simp [intOf]; omega
    · obtain rfl : i = n := by omega
      have HF := Lib.hid (show r = false from by
        rw [← HR.out, decide_eq_false_iff_not]; intro hm
        obtain ⟨j, hj, e⟩ := List.getElem_of_mem hm
        exact HQ.out j x (by have := HL.out; omega) (by rw [← e]; exact List.getElem?_eq_getElem hj) rfl)
      clear hq hb
      go_wp2_with fail
      go_ret
      exact ⟨by rw [HF.out]; rfl, HBl.out⟩
end Go.Proofs.YtplpogonkfnafaaGreat
namespace Go.Proofs.YtplpogonkfnafaaGreat
open Go.RowKit Go.Nm

set_option maxRecDepth 100000 in
set_option maxHeartbeats 4000000 in
theorem rrising_any (u : Value) (L : List Int) (w : World) (hu : InSl w w.heap.size u L) (hL : L.length ≤ 1000000) :
    Calls Tryz.prog 33 #[u] w fun e w' => e = .returned (.bool (decide (Nms L))) ∧ Below w.heap.size w w' := by
  obtain ⟨A, c, rfl, hc, hcm, hA⟩ := hu
  have HA := Lib.hid hA
  have HI := Lib.hid (@inc_of_next L)
  have HX := Lib.hid (fun (h : Inc L) j x y => @next_of_inc L h j x y)
  obtain ⟨r, hr⟩ : ∃ r, decide (Nms L) = r := ⟨_, rfl⟩
  rw [hr]
  have HR := Lib.hid (show decide (Inc L ∧ ∀ x ∈ L, 1 ≤ x ∧ x ≤ 65535) = r from by rw [← hr]; rfl)
  clear hA hr hc hcm
  generalize hnl : L.length = n at *
  have HL := Lib.hid hnl
  clear hnl
  go_enter Tryz.func33, Tryz.ntmps33
  go_wp2_with fail
  go_loopw [3] (fun iv wr => ∃ i : Nat, iv = .int .i64 (i : Int) ∧ i ≤ n ∧ ((∀ j z, j < i → L[j]? = some z → 1 ≤ z ∧ z ≤ 65535) ∧ ∀ j x y, j + 1 < i → L[j]? = some x → L[j + 1]? = some y → x < y) ∧ Below w.heap.size w wr) (fun iv _ => n - (intOf iv).toNat)
  case atStart => exact ⟨0, rfl, by omega, ⟨fun j z hj => absurd hj (by omega), fun j x y h => absurd h (by omega)⟩, Below.refl _ _⟩
  case round =>
    obtain ⟨i, rfl, hin, hq, hb⟩ := hrel
    have HQ := Lib.hid hq
    have HBl := Lib.hid hb
    clear hq hb
    by_cases hlt : i < n
    · obtain ⟨y, ad, hy, rfl, hbd, hcy⟩ := (HA.out.below HBl.out).at_ HL.out hlt
      have HY := Lib.hid hy
      have hW := rwithin_any y 1 65535
      clear hy
      by_cases hyw : 1 ≤ y ∧ y ≤ 65535
      · simp only [decide_eq_true hyw] at hW
        have HW := Lib.hid hW
        clear hW
        by_cases h0 : i = 0
        · subst h0
          have hcz : wr.cell? ad = some (.int .i64 y) := by have := hcy; simpa [Addr.add] using this
          clear hcy
          have HN := Lib.hid (show (∀ j z, j < 0 + 1 → L[j]? = some z → 1 ≤ z ∧ z ≤ 65535) ∧ ∀ j x y, j + 1 < 0 + 1 → L[j]? = some x → L[j + 1]? = some y → x < y from
            ⟨fun j z hj hz => by obtain rfl : j = 0 := by omega
                                 rw [HY.out] at hz; injection hz with hz; rw [← hz]; exact hyw, fun j x y h => absurd h (by omega)⟩)
          have ss := fun z => Wb.cell hcz z
          go_wp2_with fail
          refine wp_region_wb (by kernel_rfl) (by kernel_rfl) ?_; (repeat ((with_reducible refine wpQuiet_step ?_); intro K hK; go_simp; (try (refine ite_neg_of (by simp [undef]) ?_)); first | (with_reducible refine hK _ ?_; clear hK K) | (apply Exists.intro; (with_reducible refine ⟨fun _ => ?_, hK _ ?_⟩); ((go_at_call 49; exact Calls.wb (HW.out _))); clear hK K))); (with_reducible refine wpQuiet_nil ?_); rintro w1 ⟨⟨_, hb1⟩, rfl⟩; (try dsimp only)
          go_wp2_with fail
          have HB2 := Lib.hid (HBl.out.trans (hb1.mono HBl.out.size))
          clear hb1 ss
          go_roundw
          case rel => exact ⟨1, by go_num, by omega, HN.out, HB2.out⟩
          case measure => simp [intOf]; omega
        · obtain ⟨k, hk⟩ : ∃ k, i - 1 = k := ⟨_, rfl⟩
          have hkn : k < n := by omega
          have hik : (i : Int) = (k : Int) + 1 := by omega
          obtain ⟨x, ad', hx, e, _, hcx⟩ := (HA.out.below HBl.out).at_ (i := k) HL.out hkn
          injection e with e
          subst e
          have HXi := Lib.hid (And.intro hx (show k + 1 = i by omega))
          clear hx hk
          have hi0 : (0 : Int) < (i : Int) := by omega
          have hi1 : 0 < i := by omega
          have hiw : IntKind.i64.wrap ((i : Int) - 1) = (k : Int) := by rw [IntWalk.i64_in _ (by omega)]; omega
          clear hik
          have ss := fun z => And.intro (Wb.cell hcy z) (Wb.cell hcx z)
          by_cases hge : y ≤ x
          · have HF := Lib.hid (show r = false from by
              rw [← HR.out, decide_eq_false_iff_not]
              intro h
              have := HX.out h.1 k x y HXi.out.1 (by rw [HXi.out.2]; exact HY.out)
              omega)
            go_wp2_with fail
            refine wp_region_wb (by kernel_rfl) (by kernel_rfl) ?_; (repeat ((with_reducible refine wpQuiet_step ?_); intro K hK; go_simp; (try (refine ite_neg_of (by simp [undef]) ?_)); first | (with_reducible refine hK _ ?_; clear hK K) | (apply Exists.intro; (with_reducible refine ⟨fun _ => ?_, hK _ ?_⟩); ((go_at_call 49; exact Calls.wb (HW.out _))); clear hK K))); (with_reducible refine wpQuiet_nil ?_); rintro w1 ⟨⟨_, hb1⟩, rfl⟩; (try dsimp only)
            go_wp2_with fail
            go_ret
            exact ⟨ret_b HF.out.symm, HBl.out.trans (hb1.mono HBl.out.size)⟩
          · have HN := Lib.hid (show (∀ j z, j < i + 1 → L[j]? = some z → 1 ≤ z ∧ z ≤ 65535) ∧ ∀ j x y, j + 1 < i + 1 → L[j]? = some x → L[j + 1]? = some y → x < y from
              ⟨fun j z hj hz => by
                by_cases e : j = i
                · subst e; rw [HY.out] at hz; injection hz with hz; rw [← hz]; exact hyw
                · exact HQ.out.1 j z (by omega) hz,
               fun j x' y' h h1 h2 => by
                by_cases e : j = k
                · subst e
                  rw [HXi.out.1] at h1
                  rw [HXi.out.2, HY.out] at h2
                  injection h1 with h1; injection h2 with h2; omega
                · exact HQ.out.2 j x' y' (by have := HXi.out.2; omega) h1 h2⟩)
            have hge' : ¬ (y ≤ x) := hge
            go_wp2_with fail
            refine wp_region_wb (by kernel_rfl) (by kernel_rfl) ?_; (repeat ((with_reducible refine wpQuiet_step ?_); intro K hK; go_simp; (try (refine ite_neg_of (by simp [undef]) ?_)); first | (with_reducible refine hK _ ?_; clear hK K) | (apply Exists.intro; (with_reducible refine ⟨fun _ => ?_, hK _ ?_⟩); ((go_at_call 49; exact Calls.wb (HW.out _))); clear hK K))); (with_reducible refine wpQuiet_nil ?_); rintro w1 ⟨⟨_, hb1⟩, rfl⟩; (try dsimp only)
            go_wp2_with fail
            have HB2 := Lib.hid (HBl.out.trans (hb1.mono HBl.out.size))
            clear hb1 ss
            go_roundw
            case rel => exact ⟨i + 1, by go_num, by omega, HN.out, HB2.out⟩
            case measure => simp [intOf]; omega
      · simp only [decide_eq_false hyw] at hW
        have HW := Lib.hid hW
        clear hW
        have HF := Lib.hid (show r = false from by rw [← HR.out, decide_eq_false_iff_not]; exact fun h => hyw (h.2 y (List.mem_of_getElem? HY.out)))
        have ss := fun z => Wb.cell hcy z
        go_wp2_with fail
        refine wp_region_wb (by kernel_rfl) (by kernel_rfl) ?_; (repeat ((with_reducible refine wpQuiet_step ?_); intro K hK; go_simp; (try (refine ite_neg_of (by simp [undef]) ?_)); first | (with_reducible refine hK _ ?_; clear hK K) | (apply Exists.intro; (with_reducible refine ⟨fun _ => ?_, hK _ ?_⟩); ((go_at_call 49; exact Calls.wb (HW.out _))); clear hK K))); (with_reducible refine wpQuiet_nil ?_); rintro w1 ⟨⟨_, hb1⟩, rfl⟩; (try dsimp only)
        go_wp2_with fail
        go_ret
        exact ⟨ret_b HF.out.symm, HBl.out.trans (hb1.mono HBl.out.size)⟩
    · have HT := Lib.hid (show r = true from by
        rw [← HR.out, decide_eq_true_eq]
        refine ⟨HI.out fun j x y h1 h2 => HQ.out.2 j x y (by have := (List.getElem?_eq_some_iff.1 h2).1; have := HL.out; omega) h1 h2, fun x hx => ?_⟩
        obtain ⟨j, hj, e⟩ := List.getElem_of_mem hx
        exact HQ.out.1 j x (by have := HL.out; omega) (by rw [← e]; exact List.getElem?_eq_getElem hj))
      go_wp2_with fail
      go_ret
      exact ⟨ret_b HT.out.symm, HBl.out⟩
end Go.Proofs.YtplpogonkfnafaaGreat
namespace Go.Proofs.YtplpogonkfnafaaGreat
open Go.RowKit Go.Nm

set_option maxRecDepth 100000 in
set_option maxHeartbeats 4000000 in
theorem rlist_any (u : Value) (L : List Int) (w : World) (hu : InSl w w.heap.size u L) (hL : L.length ≤ 1000000) :
    Calls Tryz.prog 84 #[u] w fun e w' => e = .returned (.bool (decide (Ver L))) ∧ Below w.heap.size w w' := by
  have HU := Lib.hid hu
  obtain ⟨A, c, rfl, _⟩ := hu.form
  have hW := rwithin_any (L.length : Int) 1 400
  have HRi := Lib.hid (fun w' hb => rrising_any (.slice A L.length c) L w' (HU.out.step (w' := w') hb) hL)
  obtain ⟨r, hr⟩ : ∃ r, decide (Ver L) = r := ⟨_, rfl⟩
  rw [hr]
  have HR := Lib.hid (show decide (0 < L.length ∧ L.length ≤ 400 ∧ Nms L) = r from by rw [← hr]; rfl)
  clear hr hu HU
  by_cases hl : (1 : Int) ≤ (L.length : Int) ∧ (L.length : Int) ≤ 400
  · simp only [decide_eq_true hl] at hW
    have HW := Lib.hid hW
    clear hW
    have HE := Lib.hid (show decide (Nms L) = r from by
      rw [← HR.out]
      refine decide_eq_decide.2 ⟨fun h => ⟨by omega, by omega, h⟩, fun h => h.2.2⟩)
    simp only [HE.out] at HRi
    generalize L.length = n at *
    go_enter Tryz.func84, Tryz.ntmps84
    go_wp2_with fail
    (with_reducible refine (HW.out _).mono ?_)
    rintro e w1 ⟨rfl, hb1⟩
    have HB1 := Lib.hid hb1
    have HR1 := Lib.hid (HRi.out w1 hb1)
    clear hb1
    go_wp2_with fail
    (with_reducible refine HR1.out.mono ?_)
    rintro e w2 ⟨rfl, hb2⟩
    have HB2 := Lib.hid (HB1.out.trans (hb2.mono HB1.out.size))
    clear hb2
    go_wp2_with fail
    go_ret
    exact ⟨rfl, HB2.out⟩
  · simp only [decide_eq_false hl] at hW
    have HW := Lib.hid hW
    clear hW
    have HF := Lib.hid (show r = false from by rw [← HR.out, decide_eq_false_iff_not]; intro h; omega)
    generalize L.length = n at *
    go_enter Tryz.func84, Tryz.ntmps84
    go_wp2_with fail
    (with_reducible refine (HW.out _).mono ?_)
    rintro e w1 ⟨rfl, hb1⟩
    have HB1 := Lib.hid hb1
    clear hb1
    go_wp2_with fail
    go_ret
    exact ⟨ret_b HF.out.symm, HB1.out⟩
end Go.Proofs.YtplpogonkfnafaaGreat
namespace Go.Proofs.YtplpogonkfnafaaGreat
open Go.RowKit Go.Nm

/-- a number put into a list -/
def rputF (n : Int) : List Int → List Int
  | [] => [n]
  | y :: l => if y < n then y :: rputF n l else if y = n then y :: l else n :: y :: l
theorem mem_rputF {n z : Int} : ∀ {l : List Int}, z ∈ rputF n l ↔ z = n ∨ z ∈ l
  | [] => by simp [rputF]
  | y :: l => by
    unfold rputF
    split
    · rw [List.mem_cons, mem_rputF, List.mem_cons]
      constructor
      · rintro (h | h | h)
        · exact .inr (.inl h)
        · exact .inl h
        · exact .inr (.inr h)
      · rintro (h | h | h)
        · exact .inr (.inl h)
        · exact .inl h
        · exact .inr (.inr h)
    · split
      · rename_i e
        subst e
        simp
      · simp
theorem rputF_inc {n : Int} : ∀ {l : List Int}, Inc l → Inc (rputF n l)
  | [], _ => by simp [rputF, Inc]
  | y :: l, h => by
    unfold rputF
    split
    · rename_i hy
      refine List.pairwise_cons.2 ⟨fun z hz => ?_, rputF_inc h.tail⟩
      rcases mem_rputF.1 hz with rfl | hz
      · exact hy
      · exact h.head z hz
    · split
      · exact h
      · refine List.pairwise_cons.2 ⟨fun z hz => ?_, h⟩
        rcases List.mem_cons.1 hz with rfl | hz
        · omega
        · have := h.head z hz; omega
/-- where a number is put, at the first place that is not below it -/
theorem rputF_at {n : Int} : ∀ {l : List Int} {i : Nat}, (∀ j z, j < i → l[j]? = some z → z < n) → i ≤ l.length → (∀ z, l[i]? = some z → ¬ z < n) → rputF n l = if l[i]? = some n then l else l.take i ++ n :: l.drop i
  | [], i, _, hi, _ => by
    have : i = 0 := by simpa using hi
    subst this
    simp [rputF]
  | y :: l, 0, _, _, hn => by
    have hy := hn y rfl
    unfold rputF
    rw [if_neg hy]
    simp
  | y :: l, i + 1, hb, hi, hn => by
    have hy := hb 0 y (by omega) rfl
    unfold rputF
    rw [if_pos hy, rputF_at (i := i) (fun j z hj hz => hb (j + 1) z (by omega) (by simpa using hz)) (by simpa using hi) (fun z hz => hn z (by simpa using hz))]
    simp only [List.getElem?_cons_succ, List.take_succ_cons, List.drop_succ_cons]
    split <;> simp
theorem rputF_len (n : Int) : ∀ l : List Int, (rputF n l).length ≤ l.length + 1
  | [] => by simp [rputF]
  | y :: l => by
    unfold rputF
    split
    · have := rputF_len n l
      simp only [List.length_cons]; omega
    · split <;> simp
/-- the version behind a change, as the reference makes it -/
def rnextF (l : List Int) (x : Ch) : List Int := x.to.foldl (fun o n => rputF n o) (l.filter fun z => !decide (z ∈ x.fr))
theorem mem_puts {z : Int} : ∀ {t o : List Int}, z ∈ t.foldl (fun o n => rputF n o) o ↔ z ∈ o ∨ z ∈ t
  | [], o => by simp
  | n :: t, o => by
    rw [List.foldl_cons, mem_puts, mem_rputF, List.mem_cons]
    constructor
    · rintro ((h | h) | h)
      · exact .inr (.inl h)
      · exact .inl h
      · exact .inr (.inr h)
    · rintro (h | h | h)
      · exact .inl (.inr h)
      · exact .inl (.inl h)
      · exact .inr h
theorem puts_inc : ∀ {t o : List Int}, Inc o → Inc (t.foldl (fun o n => rputF n o) o)
  | [], _, h => h
  | n :: t, o, h => by rw [List.foldl_cons]; exact puts_inc (rputF_inc h)
theorem puts_len : ∀ (t o : List Int), (t.foldl (fun o n => rputF n o) o).length ≤ o.length + t.length
  | [], o => by simp
  | n :: t, o => by
    rw [List.foldl_cons, List.length_cons]
    have := puts_len t (rputF n o)
    have := rputF_len n o
    omega
theorem mem_rnextF {l : List Int} {x : Ch} {z : Int} : z ∈ rnextF l x ↔ (z ∈ l ∧ z ∉ x.fr) ∨ z ∈ x.to := by
  unfold rnextF
  rw [mem_puts, List.mem_filter]
  simp
theorem rnextF_inc {l : List Int} {x : Ch} (h : Inc l) : Inc (rnextF l x) := puts_inc (h.sub List.filter_sublist)
/-- where the change can be applied it is the program's version -/
theorem rnextF_rep {l : List Int} {x : Ch} (hl : Inc l) (hf : Inc x.fr) (ht : Inc x.to) (hsub : ∃ y ∈ l, y ∈ x.fr) (hd : ∀ z ∈ x.to, z ∈ l → z ∈ x.fr) : rnextF l x = rep l x.fr x.to :=
  inc_ext (rnextF_inc hl) (rep_inc hl hf ht hd) fun z => by
    rw [mem_rnextF, mem_rep hl hf]
    constructor
    · rintro (h | h)
      · exact .inl h
      · exact .inr ⟨h, hsub⟩
    · rintro (h | ⟨h, _⟩)
      · exact .inl h
      · exact .inr h
/-- a change fits: as the reference asks -/
def rfitsF (l : List Int) (y : Int) (x : Ch) : Prop :=
  (0 ≤ x.yr ∧ x.yr ≤ 273) ∧ y ≤ x.yr ∧ Ver x.fr ∧ Ver x.to ∧ (∀ n ∈ x.fr, n ∈ l) ∧ (∀ n ∈ x.to, n ∈ l → n ∈ x.fr) ∧ (rnextF l x).length ≤ 400
theorem wo_nil {l g : List Int} (hl : Inc l) (hg : Inc g) : wo l g = [] ↔ ∀ n ∈ l, n ∈ g := by
  rw [List.eq_nil_iff_forall_not_mem]
  constructor
  · intro h n hn
    by_cases hm : n ∈ g
    · exact hm
    · exact absurd ((mem_wo hl hg n).2 ⟨hn, hm⟩) (h n)
  · intro h n hn
    have := (mem_wo hl hg n).1 hn
    exact this.2 (h n this.1)
theorem fits_ok {l : List Int} {y : Int} {x : Ch} (hl : Inc l) (hy : 0 ≤ y) : rfitsF l y x ↔ okCh l y x := by
  unfold rfitsF okCh
  constructor
  · rintro ⟨⟨_, h2⟩, h3, h4, h5, h6, h7, h8⟩
    have hne : ∃ z ∈ l, z ∈ x.fr := by
      obtain ⟨z, hz⟩ := List.exists_mem_of_length_pos h4.1
      exact ⟨z, h6 z hz, hz⟩
    refine ⟨h3, h2, h4, h5, (wo_nil h4.2.2.1 hl).2 h6, fun n hn hm => ?_, ?_⟩
    · have := (mem_wo h5.2.2.1 h4.2.2.1 n).1 hn
      exact this.2 (h7 n this.1 hm)
    · rw [← rnextF_rep hl h4.2.2.1 h5.2.2.1 hne h7]; exact h8
  · rintro ⟨h3, h2, h4, h5, h6, h7, h8⟩
    have h6' := (wo_nil h4.2.2.1 hl).1 h6
    have h7' : ∀ n ∈ x.to, n ∈ l → n ∈ x.fr := fun n hn hm => by
      by_cases h : n ∈ x.fr
      · exact h
      · exact absurd hm (h7 n ((mem_wo h5.2.2.1 h4.2.2.1 n).2 ⟨hn, h⟩))
    have hne : ∃ z ∈ l, z ∈ x.fr := by
      obtain ⟨z, hz⟩ := List.exists_mem_of_length_pos h4.1
      exact ⟨z, h6' z hz, hz⟩
    exact ⟨⟨by omega, h2⟩, h3, h4, h5, h6', h7', by rw [rnextF_rep hl h4.2.2.1 h5.2.2.1 hne h7']; exact h8⟩
end Go.Proofs.YtplpogonkfnafaaGreat
namespace Go.Proofs.YtplpogonkfnafaaGreat
open Go.RowKit Go.Nm

instance (l : List Int) (y : Int) (x : Ch) : Decidable (rfitsF l y x) := inferInstanceAs (Decidable (_ ∧ _ ∧ _ ∧ _ ∧ _ ∧ _ ∧ _))
/-- what the reference's Check tells behind i changes -/
def rchk : List Int → Int → Nat → List Ch → Int × Int
  | _, _, _, [] => (0, 0)
  | l, y, i, x :: r => if rfitsF l y x then rchk (rnextF l x) x.yr (i + 1) r else (20, ((i + 1 : Nat) : Int))
theorem ok_next {l : List Int} {y : Int} {x : Ch} (hl : Inc l) (h : okCh l y x) : rnextF l x = rep l x.fr x.to ∧ Inc (rep l x.fr x.to) := by
  obtain ⟨h3, h2, h4, h5, h6, h7, h8⟩ := h
  have h6' := (wo_nil h4.2.2.1 hl).1 h6
  have h7' : ∀ n ∈ x.to, n ∈ l → n ∈ x.fr := fun n hn hm => by
    by_cases h : n ∈ x.fr
    · exact h
    · exact absurd hm (h7 n ((mem_wo h5.2.2.1 h4.2.2.1 n).2 ⟨hn, h⟩))
  have hne : ∃ z ∈ l, z ∈ x.fr := by
    obtain ⟨z, hz⟩ := List.exists_mem_of_length_pos h4.1
    exact ⟨z, h6' z hz, hz⟩
  exact ⟨rnextF_rep hl h4.2.2.1 h5.2.2.1 hne h7', rep_inc hl h4.2.2.1 h5.2.2.1 h7'⟩
theorem rchk_vers : ∀ (r : List Ch) (l : List Int) (y : Int) (i : Nat), Inc l → 0 ≤ y → rchk l y i r = if r.length < (versF l y r).length then (0, 0) else (20, ((i + (versF l y r).length : Nat) : Int))
  | [], l, y, i, _, _ => by simp [rchk, versF]
  | x :: r, l, y, i, hl, hy => by
    unfold rchk versF
    by_cases h : okCh l y x
    · rw [if_pos ((fits_ok hl hy).2 h), if_pos h]
      obtain ⟨e, hi⟩ := ok_next hl h
      rw [e, rchk_vers r _ x.yr (i + 1) hi (by have := h.1; omega)]
      simp only [List.length_cons, Nat.add_lt_add_iff_right]
      split
      · rfl
      · congr 2; omega
    · rw [if_neg (fun h' => h ((fits_ok hl hy).1 h')), if_neg h]
      simp
/-- what the reference's Check tells of a book -/
def rcheckOut (b : Bk) : Int × Int := if b.chs.length ≤ 64 then (if Ver b.first then rchk b.first 0 0 b.chs else (20, 0)) else (2, 0)
theorem rcheck_is (b : Bk) : rcheckOut b = checkOut b := by
  unfold rcheckOut checkOut
  by_cases h1 : b.chs.length ≤ 64
  · rw [if_pos h1, if_pos h1]
    by_cases h2 : Ver b.first
    · rw [if_pos h2, rchk_vers _ _ _ _ h2.2.2.1 (Int.le_refl 0), show vers b = versF b.first 0 b.chs from by unfold vers; rw [if_pos h2]]
      split
      · rfl
      · rw [Nat.zero_add]
    · rw [if_neg h2, show vers b = [] from by unfold vers; rw [if_neg h2]]
      simp
  · rw [if_neg h1, if_neg h1]
theorem rcheck_val (b : Bk) : (rcheckOut b).1 = 0 ↔ Val b := by
  rw [rcheck_is]
  unfold checkOut Val
  by_cases h1 : b.chs.length ≤ 64
  · by_cases h2 : b.chs.length < (vers b).length
    · rw [if_pos h1, if_pos h2]; exact ⟨fun _ => ⟨h1, h2⟩, fun _ => rfl⟩
    · rw [if_pos h1, if_neg h2]
      constructor
      · intro h; cases h
      · intro h; exact absurd h.2 h2
  · rw [if_neg h1]
    constructor
    · intro h; cases h
    · intro h; exact absurd h.1 h1
/-- the reference's version v: the first one, and the changes before v applied -/
def rverF (b : Bk) (v : Nat) : List Int := (b.chs.take v).foldl rnextF b.first
theorem foldl_vers : ∀ (r : List Ch) (l : List Int) (y : Int) (v : Nat), Inc l → r.length < (versF l y r).length → v ≤ r.length → (versF l y r)[v]? = some ((r.take v).foldl rnextF l)
  | r, l, y, 0, _, _, _ => by rw [versF_head]; rfl
  | [], l, y, v + 1, _, _, hv => by simp at hv
  | x :: r, l, y, v + 1, hl, h, hv => by
    unfold versF at h ⊢
    by_cases hx : okCh l y x
    · rw [if_pos hx] at h ⊢
      obtain ⟨e, hi⟩ := ok_next hl hx
      rw [List.getElem?_cons_succ, List.take_succ_cons, List.foldl_cons, e]
      exact foldl_vers r _ _ v hi (by simpa using h) (by simpa using hv)
    · rw [if_neg hx] at h
      simp at h
theorem rver_is {b : Bk} (hb : Val b) {v : Nat} (hv : v ≤ b.chs.length) : (vers b)[v]? = some (rverF b v) := by
  have h2 := hb.2
  unfold vers at h2 ⊢
  by_cases h : Ver b.first
  · rw [if_pos h] at h2 ⊢
    exact foldl_vers _ _ _ _ h.2.2.1 h2 hv
  · rw [if_neg h] at h2
    simp at h2
end Go.Proofs.YtplpogonkfnafaaGreat
namespace Go.Proofs.YtplpogonkfnafaaGreat
open Go.RowKit Go.Nm

theorem vers_late : ∀ (r : List Ch) (l : List Int) (y : Int), r.length < (versF l y r).length → ∀ x ∈ r, y ≤ x.yr
  | [], _, _, _, x, hx => by simp at hx
  | c :: r, l, y, h, x, hx => by
    unfold versF at h
    by_cases hc : okCh l y c
    · rw [if_pos hc] at h
      have h0 := hc.1
      rcases List.mem_cons.1 hx with rfl | hx
      · exact h0
      · have := vers_late r _ _ (by simpa using h) x hx
        omega
    · rw [if_neg hc] at h
      simp at h
theorem up_count (y : Int) : ∀ (r : List Ch) (l : List Int) (y0 : Int), r.length < (versF l y0 r).length → upY y r = r.countP fun x => decide (x.yr ≤ y)
  | [], _, _, _ => rfl
  | c :: r, l, y0, h => by
    unfold versF at h
    by_cases hc : okCh l y0 c
    · rw [if_pos hc] at h
      have h' : r.length < (versF (rep l c.fr c.to) c.yr r).length := by simpa using h
      unfold upY
      by_cases hy : c.yr ≤ y
      · rw [if_pos hy, List.countP_cons_of_pos (by simpa using hy), up_count y r _ _ h']
      · rw [if_neg hy, List.countP_cons_of_neg (by simpa using hy)]
        refine (List.countP_eq_zero.2 fun x hx => ?_).symm
        have := vers_late r _ _ h' x hx
        simp only [decide_eq_true_eq]
        omega
    · rw [if_neg hc] at h
      simp at h
theorem up_val {b : Bk} (hb : Val b) (y : Int) : upY y b.chs = b.chs.countP fun x => decide (x.yr ≤ y) := by
  have h2 := hb.2
  unfold vers at h2
  by_cases h : Ver b.first
  · rw [if_pos h] at h2
    exact up_count y _ _ _ h2
  · rw [if_neg h] at h2
    simp at h2
end Go.Proofs.YtplpogonkfnafaaGreat
