/- The reference's rows; brief. -/
import Derived.Test.YtplpogonkfnafaaGreatNmUc
import Derived.Test.YtplpogonkfnafaaGreatNmUb
import Derived.Test.YtplpogonkfnafaaGreatNmMo
namespace Go.Proofs.YtplpogonkfnafaaGreat
open Go.RowKit Go.Nm

def rwL (M l : List Int) : Bool := decide (Nms l ∧ ∀ z ∈ l, z ∈ M)
theorem all_next {g : List Int → Bool} {a : List (List Int)} {i : Nat} {l : List Int} (hl : a[i]? = some l) : (a.take (i + 1)).all g = ((a.take i).all g && g l) := by
  rw [show a.take (i + 1) = a.take i ++ [l] from by rw [List.take_add_one, hl]; rfl, List.all_append]
  simp
theorem all_bad {g : List Int → Bool} {a : List (List Int)} {i : Nat} {l : List Int} (hl : a[i]? = some l) (h : g l = false) : a.all g = false := by
  rw [List.all_eq_false]
  exact ⟨l, List.mem_of_getElem? hl, by simp [h]⟩
set_option maxRecDepth 100000 in
set_option maxHeartbeats 4000000 in
theorem rrows_any (ua um : Value) (a : List (List Int)) (k : Nat) (M : List Int) (w : World) (hua : VsSl w w.heap.size ua a) (hum : InSl w w.heap.size um M) (hal : a.length ≤ 100000) (hk : k ≤ 100000) (hM : M.length ≤ 1000000) (ha : ∀ l ∈ a, l.length ≤ 1000000) :
    Calls Tryz.prog 34 #[ua, .int .i64 (k : Int), um] w fun e w' => e = .returned (.bool (decide (a.length = k ∧ k ≤ 400) && a.all (rwL M))) ∧ Below w.heap.size w w' := by
  have HU := Lib.hid hua
  have HRi := Lib.hid (fun l (v : Value) Y (hl : l ∈ a) (h : InSl Y Y.heap.size v l) => rrising_any v l Y h (ha l hl))
  have HPa := Lib.hid (fun l (v : Value) Y (hl : l ∈ a) (hY : Below w.heap.size w Y) (h : InSl Y Y.heap.size v l) => rpart_any v um l M Y h (hum.step hY) (ha l hl) hM)
  obtain ⟨A, c, rfl⟩ := hua.form
  obtain ⟨Am, cm, rfl, _⟩ := hum.form
  obtain ⟨n, hn⟩ : ∃ n, a.length = n := ⟨_, rfl⟩
  have HN := Lib.hid hn
  rw [hn] at HU ⊢
  generalize M.length = nm at *
  have hal2 : n ≤ 100000 := by omega
  clear hua hum ha hn hal
  by_cases h1 : n = k
  case neg =>
    have hq : ((n : Int) != (k : Int)) = true := by simp; omega
    have HE := Lib.hid (show decide (n = k ∧ k ≤ 400) = false from decide_eq_false fun h => h1 h.1)
    rw [HE.out, Bool.false_and]
    clear h1 HE
    go_enter Tryz.func34, Tryz.ntmps34
    go_wp2_with fail
    go_ret
    exact ⟨rfl, Below.refl _ _⟩
  case pos =>
  subst h1
  have hq : ((n : Int) != (n : Int)) = false := by simp
  by_cases h2 : 400 < n
  · have hq2 : (400 : Int) < (n : Int) := by omega
    have HE := Lib.hid (show decide (n = n ∧ n ≤ 400) = false from decide_eq_false fun h => by omega)
    rw [HE.out, Bool.false_and]
    clear h2 HE
    go_enter Tryz.func34, Tryz.ntmps34
    go_wp2_with fail
    go_ret
    exact ⟨rfl, Below.refl _ _⟩
  have hq2 : ¬ (400 : Int) < (n : Int) := by omega
  have HE := Lib.hid (show decide (n = n ∧ n ≤ 400) = true from decide_eq_true ⟨rfl, by omega⟩)
  rw [HE.out, Bool.true_and]
  clear h2 HE
  obtain ⟨r, hr⟩ : ∃ r, a.all (rwL M) = r := ⟨_, rfl⟩
  have HR := Lib.hid hr
  rw [hr]
  clear hr
  go_enter Tryz.func34, Tryz.ntmps34
  go_wp2_with fail
  go_loopw [7] (fun iv wr => ∃ i : Nat, iv = .int .i64 (i : Int) ∧ i ≤ n ∧ Below w.heap.size w wr ∧ (a.take i).all (rwL M) = true) (fun iv _ => n - (intOf iv).toNat)
  case atStart => exact ⟨0, rfl, by omega, Below.refl _ _, rfl⟩
  case round =>
    obtain ⟨i, rfl, hin, hb, hg⟩ := hrel
    have HB := Lib.hid hb
    have HG := Lib.hid hg
    clear hb hg
    by_cases hlt : i < n
    · obtain ⟨ad, ul, l, rfl, hbd, hl, hcl0, hin2⟩ := HU.out.at_ hlt
      have HCl := Lib.hid (fun Y (h : Below w.heap.size w Y) => (h.cell (p := ad.add i) (by rw [add_block]; exact hbd)).trans hcl0)
      have hcl := HCl.out wr HB.out
      have HIn := Lib.hid (fun Y (h : Below w.heap.size w Y) => (hin2.below h).mono h.size)
      have HL := Lib.hid hl
      have HR1 := Lib.hid (HRi.out l ul wr (List.mem_of_getElem? hl) (HIn.out wr HB.out))
      have HP1 := Lib.hid (fun Y (h : Below w.heap.size w Y) => HPa.out l ul Y (List.mem_of_getElem? hl) h (HIn.out Y h))
      obtain ⟨Al, cl, rfl, _⟩ := hin2.form
      clear hcl0 hbd hin2 hl
      go_wp2_with fail
      (with_reducible refine HR1.out.mono ?_)
      rintro e w2 ⟨rfl, hb⟩
      have HB2 := Lib.hid (HB.out.trans (hb.mono HB.out.size))
      clear hb hcl HR1
      by_cases hN : Nms l
      case neg =>
        have HF := Lib.hid (show false = r from by rw [← HR.out]; exact (all_bad HL.out (decide_eq_false fun h => hN h.1)).symm)
        rw [decide_eq_false hN]
        clear hN
        go_wp2_with fail
        go_ret
        exact ⟨by rw [← HF.out]; rfl, HB2.out⟩
      case pos =>
      have HNm := Lib.hid hN
      rw [decide_eq_true hN]
      have hcl := HCl.out w2 HB2.out
      have HP2 := Lib.hid (HP1.out w2 HB2.out)
      clear hN
      go_wp2_with fail
      (with_reducible refine HP2.out.mono ?_)
      rintro e w3 ⟨rfl, hb⟩
      have HB3 := Lib.hid (HB2.out.trans (hb.mono HB2.out.size))
      clear hb hcl HP2 HP1
      by_cases hP : ∀ z ∈ l, z ∈ M
      case neg =>
        have HF := Lib.hid (show false = r from by rw [← HR.out]; exact (all_bad HL.out (decide_eq_false fun h => hP h.2)).symm)
        rw [decide_eq_false hP]
        clear hP
        go_wp2_with fail
        go_ret
        exact ⟨by rw [← HF.out]; rfl, HB3.out⟩
      case pos =>
      have HT := Lib.hid (show (a.take (i + 1)).all (rwL M) = true from by rw [all_next HL.out, HG.out]; exact decide_eq_true ⟨HNm.out, hP⟩)
      rw [decide_eq_true hP]
      clear hP
      go_wp2_with fail
      go_roundw
      case rel => exact ⟨i + 1, by go_num, by omega, HB3.out, HT.out⟩
      case measure => simp [intOf]; omega
    · obtain rfl : n = i := by omega
      have HT := Lib.hid (show true = r from by rw [← HR.out, ← HG.out, show a.take n = a from List.take_of_length_le (by have := HN.out; omega)])
      go_wp2_with fail
      go_ret
      exact ⟨by rw [← HT.out]; rfl, HB.out⟩
/-- brief tells true of short lists alone -/
def BfP (a : List (List Int)) (w : World) (e : Ending) (w' : World) : Prop := ∃ r, e = .returned (.bool r) ∧ w = w' ∧ (r = true → a.length ≤ 500 ∧ ∀ l ∈ a, l.length ≤ 60)
set_option maxRecDepth 100000 in
set_option maxHeartbeats 4000000 in
theorem brief_any (ua : Value) (a : List (List Int)) (w : World) (hua : VsSl w w.heap.size ua a) :
    Calls Tryz.prog 6 #[ua] w (BfP a w) := by
  have HU := Lib.hid hua
  obtain ⟨A, c, rfl⟩ := hua.form
  obtain ⟨n, hn⟩ : ∃ n, a.length = n := ⟨_, rfl⟩
  have HN := Lib.hid hn
  rw [hn] at HU ⊢
  clear hua hn
  by_cases h5 : 500 < n
  · have q1 : (60 : Int) < (n : Int) := by omega
    have q2 : ¬ (n : Int) ≤ 400 := by omega
    have q3 : (500 : Int) < (n : Int) := by omega
    clear h5
    go_enter Tryz.func6, Tryz.ntmps6
    go_wp2_with fail
    go_ret
    exact ⟨false, rfl, rfl, fun h => nomatch h⟩
  by_cases h6 : 60 < n ∧ n ≤ 400
  · have q1 : (60 : Int) < (n : Int) := by omega
    have q2 : (n : Int) ≤ 400 := by omega
    clear h5 h6
    go_enter Tryz.func6, Tryz.ntmps6
    go_wp2_with fail
    go_ret
    exact ⟨false, rfl, rfl, fun h => nomatch h⟩
  have hn5 : n ≤ 500 := by omega
  have q3 : ¬ (500 : Int) < (n : Int) := by omega
  have key : ∀ (q1 : ((60 : Int) < (n : Int) ∧ ¬ (n : Int) ≤ 400) ∨ ¬ (60 : Int) < (n : Int)), Calls Tryz.prog 6 #[.slice A n c] w (BfP a w) := by
    intro q1
    have HQ := Lib.hid q1
    clear q1 h5 h6
    rcases HQ.out with ⟨q1, q2⟩ | q1
    all_goals
      clear HQ
      go_enter Tryz.func6, Tryz.ntmps6
      go_wp2_with fail
      go_loopw [3] (fun iv wr => ∃ i : Nat, iv = .int .i64 (i : Int) ∧ i ≤ n ∧ w = wr ∧ ∀ k l, k < i → a[k]? = some l → l.length ≤ 60) (fun iv _ => n - (intOf iv).toNat)
      case atStart => exact ⟨0, rfl, by omega, rfl, fun k l hk => absurd hk (by omega)⟩
      case round =>
        obtain ⟨i, rfl, hin, rfl, hg⟩ := hrel
        have HG := Lib.hid hg
        clear hg
        by_cases hlt : i < n
        · obtain ⟨ad, ul, l, rfl, hbd, hl, hcl, hin2⟩ := HU.out.at_ hlt
          obtain ⟨Al, cl, rfl, _⟩ := hin2.form
          have HL := Lib.hid hl
          clear hbd hin2 hl
          by_cases hll : 60 < l.length
          · have q4 : (60 : Int) < (l.length : Int) := by omega
            clear hll
            go_wp2_with fail
            go_ret
            exact ⟨false, rfl, rfl, fun h => nomatch h⟩
          · have q4 : ¬ (60 : Int) < (l.length : Int) := by omega
            have HT := Lib.hid (show ∀ k l', k < i + 1 → a[k]? = some l' → l'.length ≤ 60 from fun k l' hk hl' => by
              by_cases e : k = i
              · subst e
                rw [HL.out] at hl'; injection hl' with hl'; subst hl'; omega
              · exact HG.out k l' (by omega) hl')
            clear hll
            go_wp2_with fail
            go_roundw
            case rel => exact ⟨i + 1, by go_num, by omega, by first | trivial | rfl, HT.out⟩
            case measure => simp [intOf]; omega
        · obtain rfl : n = i := by omega
          go_wp2_with fail
          go_ret
          exact ⟨true, rfl, rfl, fun _ => ⟨by have := HN.out; omega, fun l hl => by
            obtain ⟨k, hk⟩ := List.getElem?_of_mem hl
            exact HG.out k l (by have := (List.getElem?_eq_some_iff.1 hk).1; have := HN.out; omega) hk⟩⟩
  exact key (by omega)
end Go.Proofs.YtplpogonkfnafaaGreat
