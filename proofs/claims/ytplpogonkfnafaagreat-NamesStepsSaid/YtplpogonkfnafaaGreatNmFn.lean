
/- The program's count is the number of fates, where it is not too great. -/
import Derived.Test.YtplpogonkfnafaaGreatNmFm
namespace Go.Proofs.YtplpogonkfnafaaGreat
open Go.RowKit Go.Nm

theorem takeS_fold : ∀ (l : List Int) (f : Int → Int) (s : Int), l.Nodup → (∀ y, 0 ≤ f y) → 0 ≤ s → s + (l.map f).sum ≤ 100000 → l.foldl takeS (f, s) = (fun z => if z ∈ l then 0 else f z, s + (l.map f).sum)
  | [], f, s, _, _, _, _ => by simp
  | x :: l, f, s, hn, hf, hs, hb => by
    obtain ⟨hx, hn2⟩ := List.nodup_cons.1 hn
    have hm : ∀ (l : List Int), 0 ≤ (l.map f).sum := fun l => by
      induction l with
      | nil => simp
      | cons a l ih => simp only [List.map_cons, List.sum_cons]; have := hf a; omega
    have h1 := hm l
    have h2 := hf x
    simp only [List.map_cons, List.sum_cons] at hb
    have e : takeS (f, s) x = (fun k => if k = x then 0 else f k, s + f x) := by
      unfold takeS
      dsimp only
      have : wrap64 (s + f x) = s + f x := by unfold wrap64; omega
      rw [this]
    have hmap : l.map (fun k => if k = x then 0 else f k) = l.map f := List.map_congr_left fun a ha => by
      have : ¬ a = x := fun e => hx (e ▸ ha)
      simp [this]
    rw [List.foldl_cons, e, takeS_fold l _ _ hn2 (fun y => by split; omega; exact hf y) (by omega) (by rw [hmap]; omega), hmap]
    refine Prod.ext ?_ ?_
    · funext z
      dsimp only
      by_cases h : z = x
      · simp [h]
      · simp [h]
    · simp only [List.map_cons, List.sum_cons]; omega
theorem putF_fold : ∀ (l : List Int) (f : Int → Int) (c : Int), putF f c l = fun z => if z ∈ l then c else f z
  | [], f, c => by simp [putF]
  | x :: l, f, c => by
    have e : putF f c (x :: l) = putF (putS c f x) c l := rfl
    rw [e, putF_fold l]
    funext z
    unfold putS
    by_cases h1 : z ∈ l
    · simp [h1]
    · by_cases h2 : z = x <;> simp [h1, h2]
theorem cast_sum (L : List (List Int)) : ∀ (l : List Int), (l.map fun y => (lastN L y : Int)).sum = ((l.map fun y => lastN L y).sum : Nat)
  | [] => rfl
  | a :: l => by simp only [List.map_cons, List.sum_cons, cast_sum L l]; omega
theorem lastIn_le (L : List (List Int)) (fr : List Int) : lastIn L fr ≤ L.length := List.countP_le_length
/-- one change, as the program counts -/
theorem chS_lev {b : Bk} {k : Nat} {c : Ch} {A B : List Int} (hc : b.chs[k]? = some c) (d : StepD A B c) {L : List (List Int)} (h : LevP k A L) (hL : L.length ≤ 2048) (ht : c.to.length ≤ 400) :
    chS (fun z => (lastN L z : Int), (L.length : Int)) c = (fun z => (lastN (stp b L) z : Int), ((stp b L).length : Int)) := by
  have hg := lastIn_le L c.fr
  have hs := sum_last L (inc_nodup d.ifr)
  have e := takeS_fold c.fr (fun z => (lastN L z : Int)) 0 (inc_nodup d.ifr) (fun y => by omega) (by omega) (by rw [cast_sum, hs]; omega)
  rw [cast_sum, hs] at e
  have e1 : takeF (fun z => (lastN L z : Int)) c.fr = (fun z => if z ∈ c.fr then 0 else (lastN L z : Int), (lastIn L c.fr : Int)) := by
    unfold takeF
    rw [e]
    simp
  have ht1 : 1 ≤ c.to.length := by
    cases h : c.to with
    | nil => exact absurd h d.toN
    | cons a l => simp
  have hp : (lastIn L c.fr : Int) * ((c.to.length : Int) - 1) = ((lastIn L c.fr * (c.to.length - 1) : Nat) : Int) := by
    rw [Int.natCast_mul]
    congr 1
    omega
  have hb : lastIn L c.fr * (c.to.length - 1) ≤ 2048 * 400 := Nat.mul_le_mul (by omega) (by omega)
  unfold chS
  rw [e1]
  dsimp only
  rw [putF_fold, hp]
  refine Prod.ext ?_ ?_
  · funext z
    dsimp only
    rw [stp_last hc d z h]
    by_cases h1 : z ∈ c.to
    · simp [h1]
    · by_cases h2 : z ∈ c.fr <;> simp [h1, h2]
  · dsimp only
    rw [stp_len hc d h]
    have w1 : wrap64 ((lastIn L c.fr * (c.to.length - 1) : Nat) : Int) = ((lastIn L c.fr * (c.to.length - 1) : Nat) : Int) := by unfold wrap64; omega
    rw [w1]
    have w2 : wrap64 ((L.length : Int) + ((lastIn L c.fr * (c.to.length - 1) : Nat) : Int)) = (L.length : Int) + ((lastIn L c.fr * (c.to.length - 1) : Nat) : Int) := by unfold wrap64; omega
    rw [w2]
    omega
theorem val_chs {b : Bk} (hb : Val b) {k : Nat} {c : Ch} (hc : b.chs[k]? = some c) : c.to.length ≤ 400 := by
  obtain ⟨A, y, _, h2, _⟩ := vers_step hb hc
  exact h2.2.2.2.1.2.1
theorem cntF_lev {b : Bk} (hb : Val b) : ∀ (j k : Nat) (A : List Int) (L : List (List Int)), k + j = b.chs.length → (vers b)[k]? = some A → LevP k A L →
    cntF (b.chs.drop k) (fun z => (lastN L z : Int), (L.length : Int)) ≤ 2048 → ((itr b j L).length : Int) = cntF (b.chs.drop k) (fun z => (lastN L z : Int), (L.length : Int))
  | 0, k, A, L, hk, hA, hL, hle => by
    have e : b.chs.drop k = [] := List.drop_eq_nil_of_le (by omega)
    rw [e]
    rfl
  | j + 1, k, A, L, hk, hA, hL, hle => by
    obtain ⟨c, hc⟩ : ∃ c, b.chs[k]? = some c := ⟨_, List.getElem?_eq_getElem (by omega)⟩
    obtain ⟨A', B, hA', hB, d⟩ := step_data hb hc
    rw [hA] at hA'
    cases hA'
    rw [cntF_next hc] at hle ⊢
    by_cases hgt : (L.length : Int) > 2048
    · dsimp only at hle
      rw [if_pos hgt] at hle; omega
    · dsimp only at hle ⊢
      rw [if_neg hgt] at hle ⊢
      have hv := val_chs hb hc
      rw [chS_lev hc d hL (by omega) hv] at hle ⊢
      exact cntF_lev hb j (k + 1) B (stp b L) (by omega) hB (stp_lev hc d hL) hle
theorem allF_itr (b : Bk) : fatesF b (b.chs.length + 1) [] = itr b b.chs.length (stp b [[]]) := by
  have h := fates_itr b (b.chs.length + 1) [[]]
  simp only [List.flatMap_cons, List.flatMap_nil, List.append_nil] at h
  exact h
theorem stp_first (b : Bk) : stp b [[]] = b.first.map fun y => [y] := by
  unfold stp furF
  simp
theorem first_last (b : Bk) (hi : Inc b.first) (z : Int) : (lastN (stp b [[]]) z : Int) = if z ∈ b.first then 1 else 0 := by
  rw [stp_first]
  unfold lastN
  rw [List.countP_map]
  have := nodup_count (inc_nodup hi) z
  have e : ((fun g : List Int => decide (g.getLast? = some z)) ∘ fun y => [y]) = fun y => decide (y = z) := by
    funext y
    simp
  rw [e, this]
  split <;> rfl
/-- not rich: so many fates as the program counts -/
theorem fates_count {b : Bk} (hb : Val b) (hr : rich b = false) : ((fatesF b (b.chs.length + 1) []).length : Int) = cnt b := by
  have hf := val_ver hb
  have h0 := val_first hb
  have hc : ¬ 2048 < cnt b := by unfold rich at hr; simpa using hr
  have e : cnt b = cntF (b.chs.drop 0) (fun z => (lastN (stp b [[]]) z : Int), ((stp b [[]]).length : Int)) := by
    unfold cnt
    rw [List.drop_zero]
    congr 1
    refine Prod.ext ?_ ?_
    · funext z
      exact (first_last b hf.2.2.1 z).symm
    · rw [stp_first, List.length_map]
  rw [allF_itr, e]
  refine cntF_lev hb b.chs.length 0 b.first (stp b [[]]) (by omega) h0 ?_ (by rw [← e]; omega)
  intro g hg
  rw [stp_first] at hg
  obtain ⟨y, hy, rfl⟩ := List.mem_map.1 hg
  exact ⟨rfl, y, hy, rfl⟩
theorem fates_few {b : Bk} (hb : Val b) (hr : rich b = false) : (fatesF b (b.chs.length + 1) []).length ≤ 100000 := by
  have h := fates_count hb hr
  have hc : ¬ 2048 < cnt b := by unfold rich at hr; simpa using hr
  omega
end Go.Proofs.YtplpogonkfnafaaGreat
