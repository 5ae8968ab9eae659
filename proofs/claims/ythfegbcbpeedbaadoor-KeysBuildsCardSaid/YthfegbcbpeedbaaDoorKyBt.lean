/- The key that is made, as a tree: the mathematics. -/
import Derived.Test.YthfegbcbpeedbaaDoorKyCl
namespace Go.Ky
open Go.Nm
/-- what a growing key knows of each character: all states, or one -/
def Kn (st l : List Int) : Prop := l.length = st.length ∧ ∀ (c : Nat) (n : Int), st[c]? = some n → l[c]? = some (full n) ∨ ∃ s : Nat, (s : Int) < n ∧ l[c]? = some (2 ^ s)
inductive Tree (m : Mx) (k : Kx) : Nat → Int → List Int → Prop
  | leaf {b j : Nat} {l : List Int} : k.lv[j]? = some ((remL m.rows l).map (·.nm)) → (∀ c, c < l.length → usefulF (remL m.rows l) c (l.getD c 0) = false) → Tree m k b (-1 - (j : Int)) l
  | node {b i c : Nat} {n : Int} {next l : List Int} : b ≤ i → k.nd[i]? = some ⟨(c : Int), next⟩ → m.st[c]? = some n → l[c]? = some (full n) → (next.length : Int) = n → (∀ (s : Nat) (x : Int), next[s]? = some x → Tree m k (i + 1) x (l.set c (2 ^ s))) → Tree m k b (i : Int) l
theorem Tree.mono {m : Mx} {k k' : Kx} {b : Nat} {a : Int} {l : List Int} (h : Tree m k b a l) (hl : ∀ j, j < k.lv.length → k'.lv[j]? = k.lv[j]?) : (∀ i, b ≤ i → i < k.nd.length → k'.nd[i]? = k.nd[i]?) → Tree m k' b a l := by
  induction h with
  | leaf h1 h2 => exact fun _ => .leaf ((hl _ (List.getElem?_eq_some_iff.1 h1).1).trans h1) h2
  | node h1 h2 h3 h4 h5 _ ih => exact fun hn => .node h1 ((hn _ h1 (List.getElem?_eq_some_iff.1 h2).1).trans h2) h3 h4 h5 fun s x hx => ih s x hx fun i hi hi2 => hn i (by omega) hi2
theorem Tree.low {m : Mx} {k : Kx} {b b' : Nat} {a : Int} {l : List Int} (h : Tree m k b a l) (hb : b' ≤ b) : Tree m k b' a l := by
  cases h with
  | leaf h1 h2 => exact .leaf h1 h2
  | node h1 h2 h3 h4 h5 h6 => exact .node (by omega) h2 h3 h4 h5 h6
theorem Tree.range {m : Mx} {k : Kx} {b : Nat} {a : Int} {l : List Int} (h : Tree m k b a l) : -(k.lv.length : Int) ≤ a ∧ a < k.nd.length ∧ (0 ≤ a → (b : Int) ≤ a) := by
  cases h with
  | leaf h1 _ => have := (List.getElem?_eq_some_iff.1 h1).1; omega
  | node h1 h2 _ _ _ _ => have := (List.getElem?_eq_some_iff.1 h2).1; omega
theorem best_none {L : List Rw} {l : List Int} {P : Nat → Bool} : ∀ n, (bestS L l P n).2.1 = false → ∀ c, c < n → P c = false
  | 0, _, c, h => absurd h (by omega)
  | n + 1, h, c, hc => by
    rw [bestS_next] at h
    unfold bestStep at h
    cases hp : P n with
    | true =>
      rw [if_pos hp] at h
      split at h
      · cases h
      · rename_i hq
        rw [h] at hq
        simp at hq
    | false =>
      rw [if_neg (by rw [hp]; simp)] at h
      by_cases e : c = n
      · subst e; exact hp
      · exact best_none n h c (by omega)
theorem full_bit {n s : Nat} (hs : s < n) : (2 ^ n - 1) / 2 ^ s % 2 = 1 := by
  rw [← bit_iff, Nat.testBit_two_pow_sub_one]; simp [hs]
theorem full_val {n : Int} (h : 2 ≤ n ∧ n ≤ 16) : ∃ k : Nat, n = (k : Int) ∧ 2 ≤ k ∧ k ≤ 16 ∧ full n = ((2 ^ k - 1 : Nat) : Int) ∧ 2 ^ k - 1 ≤ 65535 := by
  obtain ⟨k, rfl⟩ : ∃ k : Nat, n = (k : Int) := ⟨n.toNat, by omega⟩
  refine ⟨k, rfl, by omega, by omega, ?_, ?_⟩
  · rw [full_nat]
    have := Nat.two_pow_pos k
    have e : ((2 : Int) ^ k) = ((2 ^ k : Nat) : Int) := by simp
    omega
  · have : 2 ^ k ≤ 2 ^ 16 := Nat.pow_le_pow_right (by omega) (by omega)
    omega
theorem kn_set {st l : List Int} (h : Kn st l) {c s : Nat} {n : Int} (hn : st[c]? = some n) (hs : (s : Int) < n) : Kn st (l.set c (2 ^ s)) := by
  refine ⟨by rw [List.length_set]; exact h.1, fun c' n' hn' => ?_⟩
  have hc := (List.getElem?_eq_some_iff.1 hn).1
  by_cases e : c' = c
  · subst e
    rw [hn] at hn'; injection hn' with hn'; subst hn'
    exact .inr ⟨s, hs, List.getElem?_set_self (by rw [h.1]; exact hc)⟩
  · rw [List.getElem?_set_ne (fun e2 => e e2.symm)]
    exact h.2 c' n' hn'
theorem rem_set {m : Mx} (hm : mxF m = true) {l : List Int} {c s : Nat} {n : Int} (hn : m.st[c]? = some n) (hl : l[c]? = some (full n)) (hs : (s : Int) < n) : remL (remL m.rows l) (l.set c (2 ^ s)) = remL m.rows (l.set c (2 ^ s)) := by
  unfold remL
  rw [List.filter_filter]
  apply List.filter_congr
  intro r hr
  have hst := st_range hm (List.mem_of_getElem? hn)
  obtain ⟨k, hk, hk2, hk16, hf, hf2⟩ := full_val hst
  have hms := may_sets hm hr
  have hc := (List.getElem?_eq_some_iff.1 hn).1
  obtain ⟨y, hy⟩ : ∃ y, r.may[c]? = some y := ⟨_, List.getElem?_eq_getElem (by rw [sets_len hms]; exact hc)⟩
  have hyr := sets_range hm hms hy
  obtain ⟨yn, rfl⟩ : ∃ y' : Nat, y = (y' : Int) := ⟨y.toNat, by omega⟩
  rw [hf] at hl
  rw [fits_set hy hl hf2 (by omega) (by omega) ((bit_iff _ _).2 (full_bit (by omega)))]
  cases fitsF r.may l <;> simp
/-- what growing gives -/
structure GT (m : Mx) (k : Kx) (l : List Int) (g : Kx × Int × Int) : Prop where
  tree : Tree m g.1 k.nd.length g.2.1 l
  all : ∀ i, k.nd.length ≤ i → i < g.1.nd.length → ∃ l', Kn m.st l' ∧ Tree m g.1 i (i : Int) l'
  lvs : ∀ j, k.lv.length ≤ j → j < g.1.lv.length → ∃ l', Kn m.st l' ∧ g.1.lv[j]? = some ((remL m.rows l').map (·.nm)) ∧ ∀ c, c < l'.length → usefulF (remL m.rows l') c (l'.getD c 0) = false
  pre : ∀ j, j < k.lv.length → g.1.lv[j]? = k.lv[j]?
structure GTA (m : Mx) (k : Kx) (l : List Int) (c : Nat) (g : Kx × List Int × Int) : Prop where
  kids : ∀ (t : Nat) (x : Int), g.2.1[t]? = some x → Tree m g.1 (k.nd.length + 1) x (l.set c (2 ^ t))
  all : ∀ i, k.nd.length + 1 ≤ i → i < g.1.nd.length → ∃ l', Kn m.st l' ∧ Tree m g.1 i (i : Int) l'
  lvs : ∀ j, k.lv.length ≤ j → j < g.1.lv.length → ∃ l', Kn m.st l' ∧ g.1.lv[j]? = some ((remL m.rows l').map (·.nm)) ∧ ∀ c, c < l'.length → usefulF (remL m.rows l') c (l'.getD c 0) = false
  pre : ∀ j, j < k.lv.length → g.1.lv[j]? = k.lv[j]?
theorem gta_all {m : Mx} (hm : mxF m = true) {d c : Nat} {n : Int} {l : List Int} {k : Kx} (hn : m.st[c]? = some n) (hl : l[c]? = some (full n)) (hk : Kn m.st l)
    (ih : ∀ (L : List Rw) (l : List Int) (k : Kx), Kn m.st l → L = remL m.rows l → (growF m d L l k).2.2 = 0 → GT m k l (growF m d L l k)) : ∀ s : Nat, (s : Int) ≤ n → (gAll m d (remL m.rows l) l c k s).2.2 = 0 → GTA m k l c (gAll m d (remL m.rows l) l c k s)
  | 0, _, _ => by
    rw [gAll_zero]
    refine ⟨fun t x h => (by cases h), fun i h1 h2 => ?_, fun j h1 h2 => ?_, fun j _ => rfl⟩
    · simp at h2; omega
    · exact absurd h2 (by show ¬ j < k.lv.length; omega)
  | s + 1, hs, h0 => by
    have hst : ∀ (c : Nat) (n : Int), m.st[c]? = some n → 2 ≤ n := fun c n h => (st_range hm (List.mem_of_getElem? h)).1
    have ga := gaK_all (m := m) (d := d) (c := c) (L := remL m.rows l) (l := l) (k := k) (fun L l k h => grK hst d L l k h) hk.1 s
    rw [gAll_succ] at h0 ⊢
    have hs0 : (gAll m d (remL m.rows l) l c k s).2.2 = 0 := by
      unfold gStep at h0
      by_cases e : (gAll m d (remL m.rows l) l c k s).2.2 = 0
      · exact e
      · rw [if_neg e] at h0; exact h0
    have h := gta_all hm hn hl hk ih s (by omega) hs0
    obtain ⟨st, hste⟩ : ∃ st, gAll m d (remL m.rows l) l c k s = st := ⟨_, rfl⟩
    rw [hste] at h0 hs0 h ga ⊢
    unfold gStep at h0 ⊢
    rw [if_pos hs0] at h0 ⊢
    have hks := kn_set hk hn (show (s : Int) < n by omega)
    have hre := rem_set hm hn hl (show (s : Int) < n by omega)
    have hgr := grK hst d (remL (remL m.rows l) (l.set c (2 ^ s))) (l.set c (2 ^ s)) st.1 hks.1
    have hih := ih (remL (remL m.rows l) (l.set c (2 ^ s))) (l.set c (2 ^ s)) st.1 hks hre
    obtain ⟨g, hgg⟩ : ∃ g, growF m d (remL (remL m.rows l) (l.set c (2 ^ s))) (l.set c (2 ^ s)) st.1 = g := ⟨_, rfl⟩
    rw [hgg] at h0 hgr hih ⊢
    by_cases hg0 : g.2.2 = 0
    · rw [if_pos hg0]
      have hgt := hih hg0
      have up : ∀ {b : Nat} {a : Int} {l' : List Int}, Tree m st.1 b a l' → Tree m g.1 b a l' := fun ht => ht.mono (fun j hj => hgt.pre j hj) (fun i _ hi => hgr.pre i hi)
      refine ⟨fun t x hx => ?_, fun i h1 h2 => ?_, fun j h1 h2 => ?_, fun j hj => ?_⟩
      · change (st.2.1 ++ [g.2.1])[t]? = some x at hx
        have hlen := ga.len hs0
        by_cases e : t < st.2.1.length
        · rw [List.getElem?_append_left e] at hx
          exact up (h.kids t x hx)
        · rw [List.getElem?_append_right (by omega)] at hx
          have e0 : t - st.2.1.length = 0 := by
            have := (List.getElem?_eq_some_iff.1 hx).1
            simp at this
            omega
          rw [e0] at hx
          injection hx with hx
          subst hx
          have et : t = s := by omega
          subst et
          exact hgt.tree.low ga.nle
      · by_cases e : i < st.1.nd.length
        · obtain ⟨l', h3, h4⟩ := h.all i h1 e
          exact ⟨l', h3, up h4⟩
        · exact hgt.all i (by omega) h2
      · by_cases e : j < st.1.lv.length
        · obtain ⟨l', h3, h4, h5⟩ := h.lvs j h1 e
          exact ⟨l', h3, (hgt.pre j e).trans h4, h5⟩
        · exact hgt.lvs j (by omega) h2
      · exact (hgt.pre j (by have := ga.lle; omega)).trans (h.pre j hj)
    · rw [if_neg hg0] at h0
      exact absurd h0 hg0
theorem grow_tree {m : Mx} (hm : mxF m = true) : ∀ (d : Nat) (L : List Rw) (l : List Int) (k : Kx), Kn m.st l → L = remL m.rows l → (growF m d L l k).2.2 = 0 → GT m k l (growF m d L l k) := by
  intro d
  induction d with
  | zero => intro L l k _ _ h; cases h
  | succ d ih =>
    intro L l k hk hL h0
    subst hL
    cases hch : (charF (remL m.rows l) l).2.1 with
    | true =>
      obtain ⟨c, hcl, hc, hus⟩ := best_ok (L := remL m.rows l) (l := l) (P := fun c => usefulF (remL m.rows l) c (l.getD c 0)) l.length hch
      have hcs : c < m.st.length := by have := hk.1; omega
      have hn : m.st[c]? = some m.st[c] := List.getElem?_eq_getElem hcs
      have e1 : m.st.getD c 0 = m.st[c] := by rw [List.getD_eq_getElem?_getD, hn]; rfl
      obtain ⟨n, hne⟩ : ∃ n, m.st[c] = n := ⟨_, rfl⟩
      rw [hne] at hn e1
      have hst := st_range hm (List.mem_of_getElem? hn)
      have hlc : l[c]? = some (full n) := by
        rcases hk.2 c n hn with h | ⟨s, hs, h⟩
        · exact h
        · exfalso
          have hp := pow_rng (s := s) (by omega)
          have := useful_und (L := remL m.rows l) (c := c) (x := 2 ^ s) (by omega) (fun r hr => by
            have hr2 := List.mem_filter.1 hr
            have hms := may_sets hm hr2.1
            obtain ⟨y, hy⟩ : ∃ y, r.may[c]? = some y := ⟨_, List.getElem?_eq_getElem (by rw [sets_len hms]; exact hcs)⟩
            have hyr := sets_range hm hms hy
            exact ⟨y, hy, hyr.1, hyr.2, fits_iff.1 hr2.2 c y _ hy h⟩) (by rw [List.getD_eq_getElem?_getD, h] at hus; exact hus)
          rw [dec_pow (by omega)] at this
          cases this
      rw [grow_node hch hc, e1] at h0 ⊢
      have hst2 : ∀ (c : Nat) (n : Int), m.st[c]? = some n → 2 ≤ n := fun c n h => (st_range hm (List.mem_of_getElem? h)).1
      have ga := gaK_all (m := m) (d := d) (c := c) (L := remL m.rows l) (l := l) (k := k) (fun L l k h => grK hst2 d L l k h) hk.1 n.toNat
      have hta := gta_all (k := k) hm hn hlc hk ih n.toNat (by omega)
      obtain ⟨st, hste⟩ : ∃ st, gAll m d (remL m.rows l) l c k n.toNat = st := ⟨_, rfl⟩
      rw [hste] at h0 ga hta ⊢
      by_cases hs0 : st.2.2 = 0
      · rw [if_pos hs0]
        have ht := hta hs0
        have hnle := ga.nle
        have up : ∀ {b : Nat} {a : Int} {l' : List Int}, k.nd.length + 1 ≤ b → Tree m st.1 b a l' → Tree m ⟨st.1.nd.set k.nd.length ⟨(c : Int), st.2.1⟩, st.1.lv⟩ b a l' := fun hb ht => ht.mono (fun j _ => rfl) (fun i hi _ => by
          show (st.1.nd.set _ _)[i]? = _
          rw [List.getElem?_set_ne (by omega)])
        have root : Tree m ⟨st.1.nd.set k.nd.length ⟨(c : Int), st.2.1⟩, st.1.lv⟩ k.nd.length (k.nd.length : Int) l := by
          refine .node (c := c) (n := n) (next := st.2.1) (Nat.le_refl _) ?_ hn hlc ?_ fun s x hx => up (Nat.le_refl _) (ht.kids s x hx)
          · show (st.1.nd.set _ _)[k.nd.length]? = _
            rw [List.getElem?_set_self (by omega)]
          · have := ga.len hs0; omega
        refine ⟨root, fun i h1 h2 => ?_, ht.lvs, ht.pre⟩
        by_cases e : i = k.nd.length
        · subst e; exact ⟨l, hk, root⟩
        · have h3 : i < st.1.nd.length := by
            have h4 : i < (st.1.nd.set k.nd.length ⟨(c : Int), st.2.1⟩).length := h2
            rw [List.length_set] at h4; exact h4
          obtain ⟨l', h5, h6⟩ := ht.all i (by omega) h3
          exact ⟨l', h5, up (by omega) h6⟩
      · rw [if_neg hs0] at h0
        exact absurd h0 hs0
    | false =>
      rw [grow_leaf hch] at h0 ⊢
      split at h0
      · cases h0
      · rename_i h1
        rw [if_neg h1]
        refine ⟨.leaf ?_ (best_none l.length hch), fun i h2 h3 => absurd h3 (by show ¬ i < k.nd.length; omega), fun j h2 h3 => ?_, fun j hj => List.getElem?_append_left hj⟩
        · show (k.lv ++ _)[k.lv.length]? = _
          rw [List.getElem?_append_right (Nat.le_refl _)]; simp
        · have h4 : j < (k.lv ++ [(remL m.rows l).map (·.nm)]).length := h3
          rw [List.length_append, List.length_singleton] at h4
          have e : j = k.lv.length := by omega
          subst e
          refine ⟨l, hk, ?_, best_none l.length hch⟩
          show (k.lv ++ _)[k.lv.length]? = _
          rw [List.getElem?_append_right (Nat.le_refl _)]; simp
end Go.Ky
