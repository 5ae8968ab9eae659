
/- What both sides tell of the reached leaves: the same names. -/
import Derived.Test.YthfegbcbpeedbaaGreatDoorKyRm
import Derived.Test.YthfegbcbpeedbaaGreatDoorKyPk
import Derived.Test.YthfegbcbpeedbaaGreatDoorKyRf
namespace Go.Ky
open Go.Nm
/-- what a walk adds -/
structure WkP (k : Kx) (seen : List Int) (B B' : List Int) : Prop where
  sub : ∀ z ∈ B, z ∈ B'
  cls : ∀ z ∈ B', z ∉ B → ∀ b, StepR k seen z b → b ∈ B'
  snd : (∀ z ∈ B, Rch k seen z) → ∀ z ∈ B', Rch k seen z
theorem WkP.refl (k : Kx) (seen B : List Int) : WkP k seen B B := ⟨fun _ h => h, fun _ h hn => absurd h hn, fun h => h⟩
theorem WkP.trans {k : Kx} {seen B C D : List Int} (h1 : WkP k seen B C) (h2 : WkP k seen C D) : WkP k seen B D :=
  ⟨fun z h => h2.sub z (h1.sub z h), fun z hz hn b hb => by
    by_cases hc : z ∈ C
    · exact h2.sub b (h1.cls z hc hn b hb)
    · exact h2.cls z hz hc b hb, fun h => h2.snd (h1.snd h)⟩
/-- the bit that the program asks for is the one of the state -/
theorem bit_state {seen : List Int} {c s x : Nat} (hx : seen[c]? = some (x : Int)) (hx1 : x ≤ 65535) (hs : s < 16) : bitF seen (c : Int) s = true ↔ x / 2 ^ s % 2 = 1 := by
  unfold bitF
  rw [Int.toNat_natCast, List.getD_eq_getElem?_getD, hx, decide_eq_true_eq]
  exact (meet_pow hx1 hs).trans (bit_iff x s)
theorem walk_all {k : Kx} {seen st : List Int} (hok : KOk st k) (hl : seen.length = st.length) (hs : ∀ (i : Nat) (x : Int), seen[i]? = some x → 0 ≤ x ∧ x ≤ 65535) : ∀ (d : Nat) (B : List Int) (a : Int), (a < 0 ∨ a < k.nd.length) → (0 < d) → (0 ≤ a → (k.nd.length : Int) < a + d) → (Rch k seen a) → WkP k seen B (walkF k seen d B a) ∧ a ∈ walkF k seen d B a
  | 0, _, _, _, h, _, _ => absurd h (by omega)
  | d + 1, B, a, ha, _, hd, hra => by
    by_cases hB : a ∈ B
    · rw [walk_mem hB]
      exact ⟨WkP.refl _ _ _, hB⟩
    · by_cases h0 : a < 0
      · rw [walk_leaf hB h0]
        refine ⟨⟨fun z h => List.mem_append_left _ h, fun z hz hn b hb => ?_, fun h z hz => ?_⟩, by simp⟩
        · rcases List.mem_append.1 hz with h | h
          · exact absurd h hn
          · rw [List.mem_singleton] at h
            subst h
            have := step_node hb
            omega
        · rcases List.mem_append.1 hz with h2 | h2
          · exact h z h2
          · rw [List.mem_singleton] at h2
            subst h2
            exact hra
      · obtain ⟨i, rfl⟩ : ∃ i : Nat, a = (i : Int) := ⟨a.toNat, by omega⟩
        have hi : i < k.nd.length := by omega
        obtain ⟨r, hr⟩ : ∃ r, k.nd[i]? = some r := ⟨_, List.getElem?_eq_getElem hi⟩
        rw [walk_node hB hr]
        obtain ⟨hc0, hc1, hql, hall⟩ := hok.nd i r hr
        obtain ⟨c, hc⟩ : ∃ c : Nat, r.nm = (c : Int) := ⟨r.nm.toNat, by omega⟩
        have hcs : c < seen.length := by omega
        obtain ⟨x, hx⟩ : ∃ x : Nat, seen[c]? = some (x : Int) := by
          have h4 := hs _ _ (List.getElem?_eq_getElem hcs)
          exact ⟨(seen[c]).toNat, by rw [List.getElem?_eq_getElem hcs]; congr 1; omega⟩
        have hx1 : x ≤ 65535 := by have := hs _ _ hx; omega
        have hq16 : r.may.length ≤ 16 := by
          have h1 := hok.sv c _ (List.getElem?_eq_getElem (show c < st.length by omega))
          rw [hc, Int.toNat_natCast, List.getD_eq_getElem?_getD, List.getElem?_eq_getElem (show c < st.length by omega)] at hql
          simp only [Option.getD_some] at hql
          omega
        have stp : ∀ s b, r.may[s]? = some b → x / 2 ^ s % 2 = 1 → StepR k seen (i : Int) b := fun s b hb hbit => ⟨i, s, x, r, rfl, hr, by rw [hc, Int.toNat_natCast]; exact hx, hbit, hb⟩
        have key : ∀ t, t ≤ r.may.length → WkP k seen (B ++ [(i : Int)]) ((r.may.zipIdx.take t).foldl (wkStep k seen d r.nm) (B ++ [(i : Int)])) ∧ ∀ s b, s < t → r.may[s]? = some b → x / 2 ^ s % 2 = 1 → b ∈ (r.may.zipIdx.take t).foldl (wkStep k seen d r.nm) (B ++ [(i : Int)]) := by
          intro t
          induction t with
          | zero => exact fun _ => ⟨WkP.refl _ _ _, fun s b h => by omega⟩
          | succ t ih =>
            intro ht
            obtain ⟨h1, h2⟩ := ih (by omega)
            obtain ⟨z, hz⟩ : ∃ z, r.may[t]? = some z := ⟨_, List.getElem?_eq_getElem (by omega)⟩
            rw [fold_next (idx_getI hz)]
            obtain ⟨C, hC⟩ : ∃ C, (r.may.zipIdx.take t).foldl (wkStep k seen d r.nm) (B ++ [(i : Int)]) = C := ⟨_, rfl⟩
            rw [hC] at h1 h2 ⊢
            obtain ⟨b1, b2, b3⟩ := hall z (List.mem_of_getElem? hz)
            unfold wkStep
            rw [hc]
            by_cases hb : x / 2 ^ t % 2 = 1
            · rw [if_pos ((bit_state hx hx1 (by omega)).2 hb)]
              obtain ⟨w1, w2⟩ := walk_all hok hl hs d C z (by omega) (by omega) (fun h => by have := b3 h; omega) (.step hra (stp t z hz hb))
              refine ⟨h1.trans w1, fun s b hst hb2 hbit => ?_⟩
              by_cases e : s = t
              · subst e
                rw [hz] at hb2; injection hb2 with hb2; subst hb2
                exact w2
              · exact w1.sub b (h2 s b (by omega) hb2 hbit)
            · rw [if_neg (fun h => hb ((bit_state hx hx1 (by omega)).1 h))]
              refine ⟨h1, fun s b hst hb2 hbit => ?_⟩
              by_cases e : s = t
              · subst e; exact absurd hbit hb
              · exact h2 s b (by omega) hb2 hbit
        obtain ⟨k1, k2⟩ := key r.may.length (Nat.le_refl _)
        rw [show r.may.zipIdx.take r.may.length = r.may.zipIdx from List.take_of_length_le (by simp)] at k1 k2
        refine ⟨⟨fun z h => k1.sub z (List.mem_append_left _ h), fun z hz hn b hb => ?_, fun h => k1.snd fun z hz => ?_⟩, k1.sub _ (by simp)⟩
        · by_cases e : z = (i : Int)
          · subst e
            obtain ⟨i2, s, x2, r2, e2, hr2, hx2, hbit, hz2⟩ := hb
            obtain rfl : i = i2 := by omega
            rw [hr] at hr2; injection hr2 with hr2; subst hr2
            rw [hc, Int.toNat_natCast, hx] at hx2; injection hx2 with hx2
            obtain rfl : x = x2 := by omega
            exact k2 s b (List.getElem?_eq_some_iff.1 hz2).1 hz2 hbit
          · exact k1.cls z hz (by simp [hn, e]) b hb
        · rcases List.mem_append.1 hz with h2 | h2
          · exact h z h2
          · rw [List.mem_singleton] at h2
            subst h2
            exact hra
/-- what the program's walk visits is what is reached -/
theorem walk_iff {k : Kx} {seen st : List Int} (hok : KOk st k) (hl : seen.length = st.length) (hs : ∀ (i : Nat) (x : Int), seen[i]? = some x → 0 ≤ x ∧ x ≤ 65535) (z : Int) : z ∈ walkF k seen (k.nd.length + 1) [] (begF k) ↔ Rch k seen z := by
  have hb : begF k < 0 ∨ begF k < k.nd.length := by unfold begF; split <;> omega
  obtain ⟨h1, h2⟩ := walk_all hok hl hs (k.nd.length + 1) [] (begF k) hb (by omega) (fun h => by omega) .beg
  refine ⟨fun h => h1.snd (fun _ h => nomatch h) z h, fun h => ?_⟩
  induction h with
  | beg => exact h2
  | @step a b _ hst ih => exact h1.cls a ih (by simp) b hst
end Go.Ky
namespace Go.Ky
open Go.Nm
theorem fol_mem {k : Kx} {f : Nat → Bool} {z : Int} : ∀ i, i ≤ k.lv.length → (z ∈ folF k f i ↔ ∃ j L, j < i ∧ f j = true ∧ k.lv[j]? = some L ∧ z ∈ L)
  | 0, _ => by
    unfold folF
    constructor
    · intro h; cases h
    · rintro ⟨j, L, h, _⟩; omega
  | i + 1, hi => by
    have ih := fol_mem (k := k) (f := f) (z := z) i (by omega)
    obtain ⟨L, hL⟩ : ∃ L, k.lv[i]? = some L := ⟨_, List.getElem?_eq_getElem (by omega)⟩
    cases hf : f i with
    | false =>
      rw [fol_no hf, ih]
      constructor
      · rintro ⟨j, M, h, r⟩; exact ⟨j, M, by omega, r⟩
      · rintro ⟨j, M, h, h2, r⟩
        by_cases e : j = i
        · subst e; rw [hf] at h2; cases h2
        · exact ⟨j, M, by omega, h2, r⟩
    | true =>
      rw [fol_yes hf hL, mrg_mem, ih]
      constructor
      · rintro (⟨j, M, h, r⟩ | h)
        · exact ⟨j, M, by omega, r⟩
        · exact ⟨i, L, by omega, hf, hL, h⟩
      · rintro ⟨j, M, h, h2, h3, r⟩
        by_cases e : j = i
        · subst e
          rw [hL] at h3; injection h3 with h3; subst h3
          exact .inr r
        · exact .inl ⟨j, M, by omega, h2, h3, r⟩
theorem fol_inc {k : Kx} {f : Nat → Bool} (h : ∀ L ∈ k.lv, Inc L) : ∀ i, i ≤ k.lv.length → Inc (folF k f i)
  | 0, _ => by unfold folF; exact List.Pairwise.nil
  | i + 1, hi => by
    have ih := fol_inc (f := f) h i (by omega)
    obtain ⟨L, hL⟩ : ∃ L, k.lv[i]? = some L := ⟨_, List.getElem?_eq_getElem (by omega)⟩
    cases hf : f i with
    | false => rw [fol_no hf]; exact ih
    | true => rw [fol_yes hf hL]; exact mrg_inc _ _ ih (h L (List.mem_of_getElem? hL))
theorem reach_range {k : Kx} {seen st : List Int} (hok : KOk st k) (hl : 1 ≤ k.lv.length) {z : Int} (h : Rch k seen z) : -(k.lv.length : Int) ≤ z := by
  cases h with
  | beg => unfold begF; split <;> omega
  | step _ hst => exact (step_next hok hst).1
/-- the leaves that the program's walk comes to -/
theorem reached_leaf {k : Kx} {seen st : List Int} (hok : KOk st k) (hl : seen.length = st.length) (hs : ∀ (i : Nat) (x : Int), seen[i]? = some x → 0 ≤ x ∧ x ≤ 65535) (h1 : 1 ≤ k.lv.length) (L : List Int) : L ∈ reachF k seen ↔ ∃ j : Nat, Rch k seen (-1 - (j : Int)) ∧ k.lv[j]? = some L := by
  unfold reachF lvsF
  rw [List.mem_map]
  constructor
  · rintro ⟨z, hz, e⟩
    rw [List.mem_filter, decide_eq_true_eq, walk_iff hok hl hs] at hz
    have hr := reach_range hok h1 hz.1
    refine ⟨(-1 - z).toNat, by rw [show (-1 - (((-1 - z).toNat : Nat) : Int)) = z from by omega]; exact hz.1, ?_⟩
    rw [← e, List.getD_eq_getElem?_getD, List.getElem?_eq_getElem (show (-1 - z).toNat < k.lv.length by omega)]
    rfl
  · rintro ⟨j, hr, hj⟩
    refine ⟨-1 - (j : Int), List.mem_filter.2 ⟨(walk_iff hok hl hs _).2 hr, by simp; omega⟩, ?_⟩
    rw [show (-1 - (-1 - (j : Int))).toNat = j from by omega, List.getD_eq_getElem?_getD, hj]
    rfl
/-- the reference's names are those of the leaves that the program's walk comes to -/
theorem follow_mem {k : Kx} {seen st : List Int} (hok : KOk st k) (hl : seen.length = st.length) (hs : ∀ (i : Nat) (x : Int), seen[i]? = some x → 0 ≤ x ∧ x ≤ 65535) (h1 : 1 ≤ k.lv.length) (z : Int) : z ∈ folF k (rchF k seen) k.lv.length ↔ ∃ L ∈ reachF k seen, z ∈ L := by
  rw [fol_mem _ (Nat.le_refl _)]
  constructor
  · rintro ⟨j, L, _, h2, h3, h4⟩
    exact ⟨L, (reached_leaf hok hl hs h1 L).2 ⟨j, (rch_iff hok hl (fun i x h => (hs i x h).1) j).1 h2, h3⟩, h4⟩
  · rintro ⟨L, hL, h4⟩
    obtain ⟨j, hr, hj⟩ := (reached_leaf hok hl hs h1 L).1 hL
    exact ⟨j, L, (List.getElem?_eq_some_iff.1 hj).1, (rch_iff hok hl (fun i x h => (hs i x h).1) j).2 hr, hj, h4⟩
end Go.Ky
