/- What the reference tells of wrong keys, confused names and depths is what the program tells: the mathematics. -/
import Derived.Test.YthfegbcbpeedbaaGreatDoorKyPu
import Derived.Test.YthfegbcbpeedbaaGreatDoorKyCh
import Derived.Test.YthfegbcbpeedbaaGreatDoorKyDp
namespace Go.Ky
open Go.Nm Go.Proofs.YthfegbcbpeedbaaGreatDoor
/-- some leaf that is reached lacks the name -/
def badF (k : Kx) (seen : List Int) (name : Int) : Bool := (List.range k.lv.length).any fun j => rchF k seen j && !hasF (k.lv.getD j []) name
theorem bad_yes {k : Kx} {seen : List Int} {name : Int} {i : Nat} {L : List Int} (hi : k.lv[i]? = some L) (hr : rchF k seen i = true) (hh : hasF L name = false) : badF k seen name = true := by
  unfold badF
  rw [List.any_eq_true]
  refine ⟨i, List.mem_range.2 (List.getElem?_eq_some_iff.1 hi).1, ?_⟩
  rw [List.getD_eq_getElem?_getD, hi]
  show (rchF k seen i && !hasF L name) = true
  rw [hr, hh]; rfl
theorem bad_no {k : Kx} {seen : List Int} {name : Int} (h : ∀ (i : Nat) (L : List Int), i < k.lv.length → k.lv[i]? = some L → rchF k seen i = true → hasF L name = true) : badF k seen name = false := by
  unfold badF
  rw [List.any_eq_false]
  intro i hi
  have hlt := List.mem_range.1 hi
  have e : k.lv[i]? = some k.lv[i] := List.getElem?_eq_getElem hlt
  rw [List.getD_eq_getElem?_getD, e]
  show ¬ (rchF k seen i && !hasF k.lv[i] name) = true
  cases hr : rchF k seen i with
  | false => simp
  | true => rw [h i _ hlt e hr]; simp
theorem bad_mis {k : Kx} {seen st : List Int} (hok : KOk st k) (hl : seen.length = st.length) (hs : ∀ (i : Nat) (x : Int), seen[i]? = some x → 0 ≤ x ∧ x ≤ 65535) (h1 : 1 ≤ k.lv.length) (name : Int) : badF k seen name = misF k name seen := by
  rw [Bool.eq_iff_iff, mis_iff hok hl hs h1]
  constructor
  · intro h
    unfold badF at h
    rw [List.any_eq_true] at h
    obtain ⟨j, hj, h2⟩ := h
    have hlt := List.mem_range.1 hj
    have e : k.lv[j]? = some k.lv[j] := List.getElem?_eq_getElem hlt
    rw [List.getD_eq_getElem?_getD, e, Bool.and_eq_true] at h2
    refine ⟨j, _, rch_pth.1 ((rch_iff hok hl (fun i x hx => (hs i x hx).1) j).1 h2.1), e, fun hm => ?_⟩
    have := has_iff.2 hm
    have h3 : (!hasF k.lv[j] name) = true := h2.2
    rw [this] at h3; cases h3
  · rintro ⟨j, L, hp, hj, hn⟩
    refine bad_yes hj ((rch_iff hok hl (fun i x hx => (hs i x hx).1) j).2 (rch_pth.2 hp)) ?_
    cases hh : hasF L name with
    | false => rfl
    | true => exact absurd (has_iff.1 hh) hn
theorem least_ex {P : Nat → Prop} : ∀ n, P n → ∃ t, t ≤ n ∧ P t ∧ ∀ s, s < t → ¬ P s := by
  intro n
  induction n using Nat.strongRecOn with
  | ind n ih =>
    intro h
    by_cases hc : ∃ s, s < n ∧ P s
    · obtain ⟨s, hs, hp⟩ := hc
      obtain ⟨t, h1, h2⟩ := ih s hs hp
      exact ⟨t, by omega, h2⟩
    · exact ⟨n, Nat.le_refl _, h, fun s hs hp => hc ⟨s, hs, hp⟩⟩
theorem fmI_at {k : Kx} {name : Int} {n : Nat} {may : Int} {c t : Nat} : ∀ (d s : Nat) (f g : Nat → Int), s ≤ t → t < s + d → meetF may (2 ^ t) ≠ 0 → misF k name ((List.range n).map (updP f c (meetF may (2 ^ t)))) = true →
    (∀ s', s ≤ s' → s' < t → ¬ (meetF may (2 ^ s') ≠ 0 ∧ misF k name ((List.range n).map (updP f c (meetF may (2 ^ s')))) = true)) → fmI k name n may c d s f g = (updP f c (meetF may (2 ^ t)), updP g c (t : Int))
  | 0, s, f, g, h1, h2, _, _, _ => by omega
  | d + 1, s, f, g, h1, h2, h3, h4, h5 => by
    by_cases e : s = t
    · subst e
      unfold fmI; rw [if_pos ⟨h3, h4⟩]
    · have ih := fmI_at (k := k) (name := name) (n := n) (may := may) (c := c) (t := t) d (s + 1) (updP f c (meetF may (2 ^ s))) g (by omega) (by omega) h3 (by rw [upd_upd]; exact h4) (fun s' a1 a2 => by rw [upd_upd]; exact h5 s' (by omega) a2)
      rw [upd_upd] at ih
      unfold fmI; rw [if_neg (h5 s (Nat.le_refl _) (by omega))]; exact ih
/-- what is left of the sets of a row when the first characters are known, and their states -/
def xsF (k : Kx) (r : Rw) (c : Nat) : List Int := (List.range r.may.length).map (fmS k r c).1
def spF (k : Kx) (r : Rw) (c : Nat) : List Int := (List.range c).map (fmS k r c).2
theorem xs_zero (k : Kx) (r : Rw) : xsF k r 0 = r.may := by
  apply List.ext_getElem?
  intro i
  show ((List.range r.may.length).map fun i => r.may.getD i 0)[i]? = _
  by_cases hi : i < r.may.length
  · rw [List.getElem?_map, List.getElem?_range hi]
    show some (r.may.getD i 0) = _
    rw [List.getD_eq_getElem?_getD, List.getElem?_eq_getElem hi]; rfl
  · rw [List.getElem?_eq_none (by simp; omega), List.getElem?_eq_none (by omega)]
theorem xs_len (k : Kx) (r : Rw) (c : Nat) : (xsF k r c).length = r.may.length := by unfold xsF; simp
theorem sp_len (k : Kx) (r : Rw) (c : Nat) : (spF k r c).length = c := by unfold spF; simp
theorem sp_zero (k : Kx) (r : Rw) : spF k r 0 = [] := rfl
theorem sp_all (k : Kx) (r : Rw) : spF k r r.may.length = firstF k r := rfl
theorem xs_rng {k : Kx} {st : List Int} {r : Rw} (hok : KOk st k) (hk : NoTw k) (h1 : 1 ≤ k.lv.length) (hlen : r.may.length = st.length) (hm : ∀ (i : Nat) (x : Int), r.may[i]? = some x → 1 ≤ x ∧ x ≤ 65535) (hmis : misF k r.nm r.may = true) {c : Nat} (hc : c ≤ r.may.length) :
    ∀ (i : Nat) (z : Int), (xsF k r c)[i]? = some z → 0 ≤ z ∧ z ≤ 65535 := fun i z hz => by
  have ih := fms_all hok hk h1 hlen hm hmis c hc
  unfold xsF at hz
  have hi : i < r.may.length := by have := (List.getElem?_eq_some_iff.1 hz).1; simpa using this
  rw [List.getElem?_map, List.getElem?_range hi] at hz
  simp only [Option.map_some, Option.some.injEq] at hz
  by_cases h : i < c
  · obtain ⟨s, _, hs, _, hf, _⟩ := ih.done i h
    have := pow_rng (s := s) (by omega)
    omega
  · have h2 := ih.rest i (by omega)
    have h3 := hm i _ (List.getElem?_eq_getElem hi)
    rw [List.getD_eq_getElem?_getD, List.getElem?_eq_getElem hi] at h2
    simp only [Option.getD_some] at h2
    omega
theorem set_rng {l : List Int} {c s : Nat} (h : ∀ (i : Nat) (z : Int), l[i]? = some z → 0 ≤ z ∧ z ≤ 65535) (hs : s < 16) : ∀ (i : Nat) (z : Int), (l.set c (2 ^ s))[i]? = some z → 0 ≤ z ∧ z ≤ 65535 := fun i z hz => by
  by_cases e : i = c
  · subst e
    by_cases hi : i < l.length
    · rw [List.getElem?_set_self hi] at hz
      injection hz with hz
      have := pow_rng (s := s) (by omega)
      omega
    · rw [List.getElem?_eq_none (by simp; omega)] at hz; cases hz
  · rw [List.getElem?_set_ne (fun h => e h.symm)] at hz
    exact h i z hz
/-- what the search finds at the next character -/
theorem fms_next {k : Kx} {st : List Int} {r : Rw} (hok : KOk st k) (hk : NoTw k) (h1 : 1 ≤ k.lv.length) (hlen : r.may.length = st.length) (hm : ∀ (i : Nat) (x : Int), r.may[i]? = some x → 1 ≤ x ∧ x ≤ 65535) (hmis : misF k r.nm r.may = true) {c : Nat} (hc : c < r.may.length) :
    ∃ s x : Nat, s < 16 ∧ x ≤ 65535 ∧ (xsF k r c)[c]? = some (x : Int) ∧ x / 2 ^ s % 2 = 1 ∧ badF k ((xsF k r c).set c (2 ^ s)) r.nm = true ∧ (∀ s', s' < s → x / 2 ^ s' % 2 = 1 → badF k ((xsF k r c).set c (2 ^ s')) r.nm = false) ∧
      xsF k r (c + 1) = (xsF k r c).set c (2 ^ s) ∧ spF k r (c + 1) = spF k r c ++ [(s : Int)] := by
  have ih := fms_all hok hk h1 hlen hm hmis c (by omega)
  have hFr := xs_rng hok hk h1 hlen hm hmis (c := c) (by omega)
  have hcx : r.may[c]? = some r.may[c] := List.getElem?_eq_getElem (by omega)
  have hmx := hm c _ hcx
  obtain ⟨x, hx⟩ : ∃ x : Nat, r.may[c] = (x : Int) := ⟨(r.may[c]).toNat, by omega⟩
  rw [hx] at hcx hmx
  have hgd : r.may.getD c 0 = (x : Int) := by rw [List.getD_eq_getElem?_getD, hcx]; rfl
  have hx1 : x ≤ 65535 := by omega
  have hxl : (xsF k r c).length = st.length := by rw [xs_len]; exact hlen
  have hBm : ∀ s, s < 16 → badF k ((xsF k r c).set c (2 ^ s)) r.nm = misF k r.nm ((xsF k r c).set c (2 ^ s)) := fun s hs =>
    bad_mis hok (by simpa using hxl) (set_rng hFr hs) h1 r.nm
  obtain ⟨j, L, hp, hj, hn⟩ := (mis_iff hok hxl hFr h1 r.nm).1 ih.mis
  have hxc : (xsF k r c)[c]? = some (x : Int) := by
    unfold xsF
    rw [List.getElem?_map, List.getElem?_range (by omega)]
    simp only [Option.map_some, Option.some.injEq]
    rw [ih.rest c (Nat.le_refl _), hgd]
  obtain ⟨s0, hs0, hb0, hp0⟩ := narrow hok hk hxc (by
    obtain ⟨t, ht⟩ := least_bit x (by omega)
    exact ⟨t, ht.lt (n := 16) (by omega), bit_iff _ _ |>.1 ht.on⟩) hp
  have hit0 : x / 2 ^ s0 % 2 = 1 ∧ misF k r.nm ((xsF k r c).set c (2 ^ s0)) = true := ⟨hb0, (mis_iff hok (by simpa using hxl) (set_rng hFr hs0) h1 r.nm).2 ⟨j, L, hp0, hj, hn⟩⟩
  obtain ⟨t, ht0, ⟨ht1, ht2⟩, ht3⟩ := least_ex (P := fun s => x / 2 ^ s % 2 = 1 ∧ misF k r.nm ((xsF k r c).set c (2 ^ s)) = true) s0 hit0
  have ht16 : t < 16 := by omega
  have hmeet : ∀ s, s < 16 → (meetF (x : Int) (2 ^ s) ≠ 0 ↔ x / 2 ^ s % 2 = 1) := fun s hs => (meet_pow hx1 hs).trans (bit_iff x s)
  have hval : ∀ s, s < 16 → x / 2 ^ s % 2 = 1 → (List.range r.may.length).map (updP (fmS k r c).1 c (meetF (x : Int) (2 ^ s))) = (xsF k r c).set c (2 ^ s) := fun s hs hb => by
    rw [meet_bit hx1 hs hb, map_upd]; rfl
  have hfm := fmI_at (k := k) (name := r.nm) (n := r.may.length) (may := (x : Int)) (c := c) (t := t) 16 0 (fmS k r c).1 (fmS k r c).2 (by omega) (by omega) ((hmeet t ht16).2 ht1) (by rw [hval t ht16 ht1]; exact ht2) (fun s' _ a2 ⟨a3, a4⟩ => by
    have hb := (hmeet s' (by omega)).1 a3
    rw [hval s' (by omega) hb] at a4
    exact ht3 s' a2 ⟨hb, a4⟩)
  have hst : fmS k r (c + 1) = (updP (fmS k r c).1 c (meetF (x : Int) (2 ^ t)), updP (fmS k r c).2 c (t : Int)) := by
    show fmI k r.nm r.may.length (r.may.getD c 0) c 16 0 (fmS k r c).1 (fmS k r c).2 = _
    rw [hgd]; exact hfm
  refine ⟨t, x, ht16, hx1, hxc, ht1, by rw [hBm t ht16]; exact ht2, fun s' a1 a2 => ?_, ?_, ?_⟩
  · rw [hBm s' (by omega)]
    cases hh : misF k r.nm ((xsF k r c).set c (2 ^ s')) with
    | false => rfl
    | true => exact absurd ⟨a2, hh⟩ (ht3 s' a1)
  · show (List.range r.may.length).map (fmS k r (c + 1)).1 = _
    rw [hst]
    exact hval t ht16 ht1
  · show (List.range (c + 1)).map (fmS k r (c + 1)).2 = _
    rw [hst, List.range_succ, List.map_append]
    have e1 : (List.range c).map (updP (fmS k r c).2 c (t : Int)) = spF k r c := by
      unfold spF
      apply List.map_congr_left
      intro i hi
      have := List.mem_range.1 hi
      show (if i = c then (t : Int) else _) = _
      rw [if_neg (by omega)]
    show (List.range c).map (updP (fmS k r c).2 c (t : Int)) ++ [updP (fmS k r c).2 c (t : Int) c] = _
    rw [e1]
    show _ ++ [if c = c then (t : Int) else _] = _
    rw [if_pos rfl]
end Go.Ky
namespace Go.Ky
open Go.Nm Go.Proofs.YthfegbcbpeedbaaGreatDoor
/-- all names of the first leaves -/
def allF (lv : List (List Int)) (i : Nat) : List Int := (lv.take i).foldl mrgF []
def withF (lv : List (List Int)) (a : Int) (i : Nat) : List Int := (lv.take i).foldl (fun W L => if hasF L a = true then mrgF W L else W) []
theorem all_next {lv : List (List Int)} {i : Nat} {L : List Int} (h : lv[i]? = some L) : allF lv (i + 1) = mrgF (allF lv i) L := by
  unfold allF; rw [fold_next h]
theorem with_yes {lv : List (List Int)} {i : Nat} {L : List Int} {a : Int} (h : lv[i]? = some L) (hh : hasF L a = true) : withF lv a (i + 1) = mrgF (withF lv a i) L := by
  unfold withF; rw [fold_next h, if_pos hh]
theorem with_no {lv : List (List Int)} {i : Nat} {L : List Int} {a : Int} (h : lv[i]? = some L) (hh : hasF L a = false) : withF lv a (i + 1) = withF lv a i := by
  unfold withF; rw [fold_next h, if_neg (by rw [hh]; simp)]
theorem all_spec {lv : List (List Int)} (h : ∀ L ∈ lv, Nms L) : ∀ i, i ≤ lv.length → Inc (allF lv i) ∧ ∀ z, z ∈ allF lv i ↔ ∃ j L, j < i ∧ lv[j]? = some L ∧ z ∈ L
  | 0, _ => ⟨List.Pairwise.nil, fun z => ⟨fun h => (nomatch h), fun ⟨j, _, h, _⟩ => by omega⟩⟩
  | i + 1, hi => by
    have ih := all_spec h i (by omega)
    obtain ⟨L, hL⟩ : ∃ L, lv[i]? = some L := ⟨_, List.getElem?_eq_getElem (by omega)⟩
    rw [all_next hL]
    refine ⟨mrg_inc _ _ ih.1 (h L (List.mem_of_getElem? hL)).1, fun z => ?_⟩
    rw [mrg_mem, ih.2 z]
    constructor
    · rintro (⟨j, M, h1, r⟩ | h1)
      · exact ⟨j, M, by omega, r⟩
      · exact ⟨i, L, by omega, hL, h1⟩
    · rintro ⟨j, M, h1, h2, r⟩
      by_cases e : j = i
      · subst e
        rw [hL] at h2; injection h2 with h2; subst h2
        exact .inr r
      · exact .inl ⟨j, M, by omega, h2, r⟩
theorem with_spec {lv : List (List Int)} (h : ∀ L ∈ lv, Nms L) (a : Int) : ∀ i, i ≤ lv.length → Inc (withF lv a i) ∧ ∀ z, z ∈ withF lv a i ↔ ∃ j L, j < i ∧ lv[j]? = some L ∧ a ∈ L ∧ z ∈ L
  | 0, _ => ⟨List.Pairwise.nil, fun z => ⟨fun h => (nomatch h), fun ⟨j, _, h, _⟩ => by omega⟩⟩
  | i + 1, hi => by
    have ih := with_spec h a i (by omega)
    obtain ⟨L, hL⟩ : ∃ L, lv[i]? = some L := ⟨_, List.getElem?_eq_getElem (by omega)⟩
    cases hh : hasF L a with
    | false =>
      rw [with_no hL hh]
      refine ⟨ih.1, fun z => ?_⟩
      rw [ih.2 z]
      constructor
      · rintro ⟨j, M, h1, r⟩; exact ⟨j, M, by omega, r⟩
      · rintro ⟨j, M, h1, h2, h3, h4⟩
        by_cases e : j = i
        · subst e
          rw [hL] at h2; injection h2 with h2; subst h2
          rw [has_iff.2 h3] at hh; cases hh
        · exact ⟨j, M, by omega, h2, h3, h4⟩
    | true =>
      rw [with_yes hL hh]
      refine ⟨mrg_inc _ _ ih.1 (h L (List.mem_of_getElem? hL)).1, fun z => ?_⟩
      rw [mrg_mem, ih.2 z]
      constructor
      · rintro (⟨j, M, h1, r⟩ | h1)
        · exact ⟨j, M, by omega, r⟩
        · exact ⟨i, L, by omega, hL, has_iff.1 hh, h1⟩
      · rintro ⟨j, M, h1, h2, h3, h4⟩
        by_cases e : j = i
        · subst e
          rw [hL] at h2; injection h2 with h2; subst h2
          exact .inr h4
        · exact .inl ⟨j, M, by omega, h2, h3, h4⟩
theorem all_keys {lv : List (List Int)} (h : ∀ L ∈ lv, Nms L) : allF lv lv.length = keysB lv := by
  obtain ⟨h1, h2⟩ := all_spec h lv.length (Nat.le_refl _)
  refine inc_ext h1 (keysB_inc lv) fun z => ?_
  rw [h2, keysB_mem h]
  constructor
  · rintro ⟨j, L, _, hj, hz⟩; exact ⟨L, List.mem_of_getElem? hj, hz⟩
  · rintro ⟨L, hL, hz⟩
    obtain ⟨j, hj⟩ := List.getElem?_of_mem hL
    exact ⟨j, L, (List.getElem?_eq_some_iff.1 hj).1, hj, hz⟩
def gtF (a z : Int) : Bool := decide (a < z)
theorem with_pairs {lv : List (List Int)} (h : ∀ L ∈ lv, Nms L) (a : Int) : (withF lv a lv.length).filter (gtF a) = pairB lv a := by
  obtain ⟨h1, h2⟩ := with_spec h a lv.length (Nat.le_refl _)
  refine inc_ext (List.Pairwise.filter _ h1) (pairB_inc lv a) fun z => ?_
  rw [List.mem_filter, h2, pairB_mem h]
  unfold gtF
  rw [decide_eq_true_eq]
  constructor
  · rintro ⟨⟨j, L, _, hj, ha, hz⟩, hlt⟩; exact ⟨L, List.mem_of_getElem? hj, ha, hz, hlt⟩
  · rintro ⟨L, hL, ha, hz, hlt⟩
    obtain ⟨j, hj⟩ := List.getElem?_of_mem hL
    exact ⟨⟨j, L, (List.getElem?_eq_some_iff.1 hj).1, hj, ha, hz⟩, hlt⟩
/-- the pairs of the first names, and of the first names beside the next one -/
def prF (lv : List (List Int)) (i j : Nat) : List (List Int) := ((keysB lv).take i).flatMap (fun a => (pairB lv a).map fun b => [a, b]) ++ (((withF lv ((keysB lv).getD i 0) lv.length).take j).filter (gtF ((keysB lv).getD i 0))).map fun b => [(keysB lv).getD i 0, b]
theorem pr_zero (lv : List (List Int)) : prF lv 0 0 = [] := rfl
theorem pr_no {lv : List (List Int)} {i j : Nat} {a z : Int} (ha : (keysB lv)[i]? = some a) (hz : (withF lv a lv.length)[j]? = some z) (h : ¬ a < z) : prF lv i (j + 1) = prF lv i j := by
  unfold prF
  rw [List.getD_eq_getElem?_getD, ha, Option.getD_some, List.take_add_one, hz, List.filter_append]
  simp [gtF, h]
theorem pr_yes {lv : List (List Int)} {i j : Nat} {a z : Int} (ha : (keysB lv)[i]? = some a) (hz : (withF lv a lv.length)[j]? = some z) (h : a < z) : prF lv i (j + 1) = prF lv i j ++ [[a, z]] := by
  unfold prF
  rw [List.getD_eq_getElem?_getD, ha, Option.getD_some, List.take_add_one, hz, List.filter_append]
  simp [gtF, h]
theorem pr_next {lv : List (List Int)} (h : ∀ L ∈ lv, Nms L) {i j : Nat} {a : Int} (ha : (keysB lv)[i]? = some a) (hj : (withF lv a lv.length).length ≤ j) : prF lv i j = prF lv (i + 1) 0 := by
  unfold prF
  rw [List.getD_eq_getElem?_getD, ha, Option.getD_some, List.take_of_length_le hj, with_pairs h a, List.take_add_one, ha]
  simp
theorem pr_all {lv : List (List Int)} {i : Nat} (hi : (keysB lv).length ≤ i) : prF lv i 0 = confF lv := by
  unfold prF confF
  rw [List.take_of_length_le hi]
  simp
theorem pr_len (lv : List (List Int)) (i j : Nat) : (prF lv i j).length ≤ (i + 1) * 65536 + (withF lv ((keysB lv).getD i 0) lv.length).length := by
  unfold prF
  rw [List.length_append, List.length_map]
  have h1 : ((((withF lv ((keysB lv).getD i 0) lv.length).take j).filter (gtF ((keysB lv).getD i 0)))).length ≤ (withF lv ((keysB lv).getD i 0) lv.length).length :=
    Nat.le_trans (List.length_filter_le _ _) (by rw [List.length_take]; omega)
  have h2 : ∀ l : List Int, (l.flatMap fun a => (pairB lv a).map fun b => [a, b]).length ≤ l.length * 65536 := fun l => by
    induction l with
    | nil => simp
    | cons a l ih =>
      rw [List.flatMap_cons, List.length_append, List.length_map, List.length_cons]
      have := pairB_len lv a
      omega
  have h3 := h2 ((keysB lv).take i)
  have h4 : ((keysB lv).take i).length ≤ i := by rw [List.length_take]; omega
  have h5 : ((keysB lv).take i).length * 65536 ≤ i * 65536 := Nat.mul_le_mul_right _ h4
  omega
end Go.Ky
namespace Go.Ky
open Go.Nm Go.Proofs.YthfegbcbpeedbaaGreatDoor
def dqS (i : Nat) (f : Int → Int) (x : Int) : Int → Int := if 0 ≤ x then (fun k => if k = (i : Int) then max (f i) (1 + f x) else f k) else f
def dqN (i : Nat) (r : Rw) (f : Int → Int) (j : Nat) : Int → Int := (r.may.take j).foldl (dqS i) (fun k => if k = (i : Int) then 1 else f k)
theorem dq_next {i : Nat} {r : Rw} {f : Int → Int} {j : Nat} {x : Int} (h : r.may[j]? = some x) : dqN i r f (j + 1) = dqS i (dqN i r f j) x := by
  unfold dqN; rw [fold_next h]
theorem dpN_far {i : Nat} {r : Rw} {f : Int → Int} {z : Int} (hz : z ≠ (i : Int)) : ∀ j, dpN i r f j z = f z
  | 0 => rfl
  | j + 1 => by
    have ih := dpN_far (i := i) (r := r) (f := f) hz j
    cases hx : r.may[j]? with
    | none =>
      have e : dpN i r f (j + 1) = dpN i r f j := by unfold dpN; rw [show r.may.take (j + 1) = r.may.take j from by rw [List.take_add_one, hx]; simp]
      rw [e, ih]
    | some x =>
      rw [dpN_next hx]
      show (if z = (i : Int) then _ else _) = _
      rw [if_neg hz, ih]
theorem dq_dp {i : Nat} {r : Rw} {f : Int → Int} (hf : f i = 0) (hneg : ∀ z, z < 0 → f z = 0) (hx : ∀ x ∈ r.may, 0 ≤ x → (i : Int) < x) : ∀ j, j ≤ r.may.length → dqN i r f j = fun k => if k = (i : Int) then max 1 (dpN i r f j i) else dpN i r f j k
  | 0, _ => by
    funext k
    show (if k = (i : Int) then 1 else f k) = if k = (i : Int) then max 1 (f i) else f k
    rw [hf]; rfl
  | j + 1, hj => by
    have ih := dq_dp hf hneg hx j (by omega)
    obtain ⟨x, hjx⟩ : ∃ x, r.may[j]? = some x := ⟨_, List.getElem?_eq_getElem (by omega)⟩
    rw [dq_next hjx, dpN_next hjx, ih]
    obtain ⟨D, hD⟩ : ∃ D, dpN i r f j = D := ⟨_, rfl⟩
    have hDx : x ≠ (i : Int) → D x = f x := fun h => by rw [← hD]; exact dpN_far h j
    rw [hD]
    funext k
    unfold dqS dpS
    have hxx := hx x (List.mem_of_getElem? hjx)
    by_cases h0 : 0 ≤ x
    · have hne : x ≠ (i : Int) := by have := hxx h0; omega
      rw [if_pos h0]
      simp only [if_true, hne, if_false]
      by_cases hk : k = (i : Int)
      · rw [if_pos hk, if_pos hk]; omega
      · rw [if_neg hk, if_neg hk, if_neg hk, if_neg hk]
    · rw [if_neg h0]
      have hne : x ≠ (i : Int) := by omega
      have h3 := hDx hne
      rw [hneg x (by omega)] at h3
      simp only [if_true]
      by_cases hk : k = (i : Int)
      · rw [if_pos hk, if_pos hk, h3]; omega
      · rw [if_neg hk, if_neg hk, if_neg hk]
theorem dpM_low {nd : List Rw} : ∀ t, t ≤ nd.length → ∀ z : Int, z + t < nd.length → dpM nd t z = 0
  | 0, _, _, _ => rfl
  | t + 1, ht, z, hz => by
    obtain ⟨r, hr⟩ : ∃ r, nd[nd.length - 1 - t]? = some r := ⟨_, List.getElem?_eq_getElem (by omega)⟩
    rw [dpM_next (by omega) hr, dpN_far (by omega)]
    exact dpM_low t (by omega) z (by omega)
/-- the reference's depths, from the last node back -/
theorem dq_all {nd : List Rw} {t i : Nat} {r : Rw} (hi : i + t + 1 = nd.length) (hr : nd[i]? = some r) (hl : 1 ≤ r.may.length) (hx : ∀ x ∈ r.may, 0 ≤ x → (i : Int) < x) (hb : ∀ r ∈ nd, r.may.length ≤ 1000) : dqN i r (dpM nd t) r.may.length = dpM nd (t + 1) := by
  have h0 := dpM_bd hb t (by omega)
  rw [dq_dp (dpM_low t (by omega) _ (by omega)) (fun z hz => dpM_low t (by omega) z (by omega)) hx _ (Nat.le_refl _), dpM_next hi hr]
  obtain ⟨j, hj⟩ : ∃ j, r.may.length = j + 1 := ⟨r.may.length - 1, by omega⟩
  obtain ⟨x, hjx⟩ : ∃ x, r.may[j]? = some x := ⟨_, List.getElem?_eq_getElem (by omega)⟩
  have h1 := dpN_bd (i := i) (r := r) h0 (by omega) j x
  funext k
  by_cases hk : k = (i : Int)
  · subst hk
    rw [if_pos rfl, hj, dpN_next hjx]
    show max 1 (if (i : Int) = (i : Int) then _ else _) = if (i : Int) = (i : Int) then _ else _
    rw [if_pos rfl]; omega
  · rw [if_neg hk]
end Go.Ky
