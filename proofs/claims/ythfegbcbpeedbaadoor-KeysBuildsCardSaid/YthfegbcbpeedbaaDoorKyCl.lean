/- By a right key two names that share a specimen are confused: the mathematics. -/
import Derived.Test.YthfegbcbpeedbaaDoorKyPu
import Derived.Test.YthfegbcbpeedbaaDoorKyCh
namespace Go.Ky
open Go.Nm
theorem both_leaf {m : Mx} {k : Kx} {l : List Int} (h : ckE m k = 0) (hl : setsF m.st l = true) {r : Rw} (hr : r ∈ m.rows) (hf : fitsF r.may l = true) : ∃ j : Nat, j < k.lv.length ∧ Pth k r.may (-1 - (j : Int)) (begF k) ∧ Pth k l (-1 - (j : Int)) (begF k) := by
  obtain ⟨hm, hlv, hok⟩ := ck_ok h
  have hms := may_sets hm hr
  have h1 := leaves_one hlv
  obtain ⟨Q, hQ⟩ : ∃ Q, List.zipWith meetF r.may l = Q := ⟨_, rfl⟩
  have get : ∀ (i : Nat) (n : Int), m.st[i]? = some n → ∃ a b : Nat, r.may[i]? = some (a : Int) ∧ l[i]? = some (b : Int) ∧ Q[i]? = some ((a &&& b : Nat) : Int) ∧ (a : Int) ≤ full n ∧ a ≤ 65535 ∧ b ≤ 65535 ∧ a &&& b ≠ 0 := fun i n hn => by
    have hi := (List.getElem?_eq_some_iff.1 hn).1
    obtain ⟨xa, ha⟩ : ∃ x, r.may[i]? = some x := ⟨_, List.getElem?_eq_getElem (by rw [sets_len hms]; exact hi)⟩
    obtain ⟨xb, hb⟩ : ∃ x, l[i]? = some x := ⟨_, List.getElem?_eq_getElem (by rw [sets_len hl]; exact hi)⟩
    have ra := sets_range hm hms ha
    have rb := sets_range hm hl hb
    have rf := sets_fl hms ha hn
    obtain ⟨a, rfl⟩ : ∃ a : Nat, xa = (a : Int) := ⟨xa.toNat, by omega⟩
    obtain ⟨b, rfl⟩ : ∃ b : Nat, xb = (b : Int) := ⟨xb.toNat, by omega⟩
    have hmt := meet_nat (x := a) (y := b) (by omega) (by omega)
    refine ⟨a, b, ha, hb, by rw [← hQ, List.getElem?_zipWith, ha, hb]; simp [hmt], rf.2, by omega, by omega, fun e => ?_⟩
    exact fits_iff.1 hf i _ _ ha hb (by rw [hmt, e]; rfl)
  obtain ⟨j, hj, hp⟩ := pth_leaf (seen := Q) hok h1 (fun c n hn => by
    obtain ⟨a, b, ha, hb, hq, hfl, ha1, hb1, hne⟩ := get c n hn
    obtain ⟨t, ht⟩ := least_bit (a &&& b) (by omega)
    have hst := st_range hm (List.mem_of_getElem? hn)
    have hb2 : a / 2 ^ t % 2 = 1 := (bit_iff _ _).1 (by have := ht.on; rw [Nat.testBit_and, Bool.and_eq_true] at this; exact this.1)
    exact ⟨a &&& b, t, hq, (full_lt hst.1 hst.2 hfl hb2).1, (bit_iff _ _).1 ht.on⟩) (k.nd.length + 1) (begF k) (by unfold begF; split <;> omega) (by unfold begF; split <;> omega) (by unfold begF; split <;> omega)
  have hb : ∀ (i x s : Nat), Q[i]? = some (x : Int) → x / 2 ^ s % 2 = 1 → ∃ a b : Nat, r.may[i]? = some (a : Int) ∧ l[i]? = some (b : Int) ∧ a / 2 ^ s % 2 = 1 ∧ b / 2 ^ s % 2 = 1 := fun i x s hx hb => by
    have hi : i < m.st.length := by
      have := (List.getElem?_eq_some_iff.1 hx).1
      rw [← hQ, List.length_zipWith, sets_len hms] at this
      omega
    obtain ⟨a, b, ha, hb', hq, _⟩ := get i _ (List.getElem?_eq_getElem hi)
    rw [hx] at hq; injection hq with hq
    have e : x = a &&& b := by omega
    subst e
    rw [← bit_iff, Nat.testBit_and, Bool.and_eq_true] at hb
    exact ⟨a, b, ha, hb', (bit_iff _ _).1 hb.1, (bit_iff _ _).1 hb.2⟩
  have p1 : Pth k r.may (-1 - (j : Int)) (begF k) := pth_mono (fun i x s hx hs => by obtain ⟨a, b, ha, _, h3, _⟩ := hb i x s hx hs; exact ⟨a, ha, h3⟩) hp
  have p2 : Pth k l (-1 - (j : Int)) (begF k) := pth_mono (fun i x s hx hs => by obtain ⟨a, b, _, h2, _, h4⟩ := hb i x s hx hs; exact ⟨b, h2, h4⟩) hp
  exact ⟨j, hj, p1, p2⟩
theorem same_fits {m : Mx} {a b : Int} (h : sameE m a b = 0) : fitsF (rowF m a).may (rowF m b).may = true := by
  unfold sameE at h
  by_cases h0 : comE m a b = 0
  · rw [if_pos h0] at h
    rw [com_all]
    split at h
    · assumption
    · cases h
  · rw [if_neg h0] at h; exact absurd h h0
theorem conf_law {m : Mx} {k : Kx} (h : wrongE m k = 3) {i j : Nat} {r s : Rw} (hi : m.rows[i]? = some r) (hj : m.rows[j]? = some s) (hij : i < j) (hs : sameE m r.nm s.nm = 0) : [r.nm, s.nm] ∈ confF k.lv := by
  obtain ⟨hck, hall⟩ := right_all h
  obtain ⟨hm, hlv, hok⟩ := ck_ok hck
  have hr := List.mem_of_getElem? hi
  have hsm := List.mem_of_getElem? hj
  have hf := same_fits hs
  rw [(row_of hm hr).2, (row_of hm hsm).2] at hf
  have hms := may_sets hm hr
  have hmt := may_sets hm hsm
  obtain ⟨q, hq, p1, p2⟩ := both_leaf hck hmt hr hf
  have h1 := leaves_one hlv
  have hL : k.lv[q]? = some k.lv[q] := List.getElem?_eq_getElem hq
  have hin : ∀ x ∈ m.rows, Pth k x.may (-1 - (q : Int)) (begF k) → x.nm ∈ k.lv[q] := fun x hx hp => by
    by_cases hin : x.nm ∈ k.lv[q]
    · exact hin
    · have hxs := may_sets hm hx
      have := (mis_iff hok (sets_len hxs) (fun i y hy => by have := sets_range hm hxs hy; omega) h1 x.nm).2 ⟨q, _, hp, hL, hin⟩
      rw [hall x hx] at this
      cases this
  have ha := hin r hr p1
  have hb := hin s hsm p2
  have hNm : ∀ L ∈ k.lv, Nms L := fun L hL => by
    have hlv2 := hlv
    unfold leavesF at hlv2
    rw [Bool.and_eq_true] at hlv2
    exact of_decide_eq_true (List.all_eq_true.1 hlv2.1 L hL)
  have hlt : r.nm < s.nm := by
    have h2 := mx_rows hm
    unfold rowsF at h2
    rw [Bool.and_eq_true, Bool.and_eq_true] at h2
    have h3 := (of_decide_eq_true h2.2.1).1
    obtain ⟨i1, hi1⟩ := List.getElem?_eq_some_iff.1 hi
    obtain ⟨j1, hj1⟩ := List.getElem?_eq_some_iff.1 hj
    have h4 := List.pairwise_iff_getElem.1 h3 i j (by simpa using i1) (by simpa using j1) hij
    simpa [hi1, hj1] using h4
  unfold confF
  rw [List.mem_flatMap]
  have hLm := List.getElem_mem hq
  exact ⟨r.nm, (keysB_mem hNm).2 ⟨_, hLm, ha⟩, List.mem_map.2 ⟨s.nm, (pairB_mem hNm).2 ⟨_, hLm, ha, hb, hlt⟩, rfl⟩⟩
end Go.Ky
