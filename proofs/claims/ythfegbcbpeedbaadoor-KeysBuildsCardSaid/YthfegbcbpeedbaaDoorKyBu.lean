/- The key that is made is valid and right, and confuses just the pairs that share a specimen: the mathematics. -/
import Derived.Test.YthfegbcbpeedbaaDoorKyBt
namespace Go.Ky
open Go.Nm
theorem grow_cs {m : Mx} : ∀ (d : Nat) (L : List Rw) (l : List Int) (k : Kx), (growF m d L l k).2.2 = 0 ∨ (growF m d L l k).2.2 = 2 := by
  intro d
  induction d with
  | zero => exact fun _ _ _ => .inr rfl
  | succ d ihd =>
    intro L l k
    cases hch : (charF L l).2.1 with
    | true =>
      obtain ⟨c, _, hc, _⟩ := best_ok (L := L) (l := l) (P := fun c => usefulF L c (l.getD c 0)) l.length hch
      rw [grow_node hch hc]
      have hg : ∀ s, (gAll m d L l c k s).2.2 = 0 ∨ (gAll m d L l c k s).2.2 = 2 := fun s => by
        induction s with
        | zero => exact .inl rfl
        | succ s ih =>
          rw [gAll_succ]
          unfold gStep
          split
          · split
            · exact .inl rfl
            · exact ihd _ _ _
          · exact ih
      split
      · exact .inl rfl
      · exact hg _
    | false =>
      rw [grow_leaf hch]
      split
      · exact .inr rfl
      · exact .inl rfl
theorem build_cs (m : Mx) : buildE m = 0 ∨ buildE m = 2 ∨ buildE m = 30 := by
  unfold buildE
  split
  · rcases grow_cs (m := m) 65 m.rows (m.st.map full) ⟨[], []⟩ with h | h
    · exact .inl h
    · exact .inr (.inl h)
  · exact .inr (.inr rfl)
theorem rem_full {m : Mx} (hm : mxF m = true) : remL m.rows (m.st.map full) = m.rows := List.filter_eq_self.2 fun _ hr => fits_full (mx_chr hm) (may_sets hm hr)
theorem kn_full (m : Mx) : Kn m.st (m.st.map full) := ⟨by simp, fun c n h => .inl (by rw [List.getElem?_map, h]; rfl)⟩
/-- what is known of the key that is made -/
structure Bd (m : Mx) (k : Kx) : Prop where
  mx : mxF m = true
  root : Tree m k 0 (begF k) (m.st.map full)
  all : ∀ i, i < k.nd.length → ∃ l', Kn m.st l' ∧ Tree m k i (i : Int) l'
  lvs : ∀ j, j < k.lv.length → ∃ l', Kn m.st l' ∧ k.lv[j]? = some ((remL m.rows l').map (·.nm)) ∧ ∀ c, c < l'.length → usefulF (remL m.rows l') c (l'.getD c 0) = false
  slk : k.nd.length + 1 ≤ k.lv.length
  max : k.lv.length ≤ 1000
theorem build_bd {m : Mx} (h : buildE m = 0) : Bd m (buildK m) := by
  have hk : buildK m = (buildG m).1 := by unfold buildK; rw [if_pos h]
  have hm : mxF m = true := by
    unfold buildE at h
    split at h
    · assumption
    · cases h
  have h0 : (buildG m).2.2 = 0 := by unfold buildE at h; rw [if_pos hm] at h; exact h
  rw [hk]
  have hkn := kn_full m
  have hst : ∀ (c : Nat) (n : Int), m.st[c]? = some n → 2 ≤ n := fun c n h => (st_range hm (List.mem_of_getElem? h)).1
  have hgt := grow_tree hm 65 m.rows (m.st.map full) ⟨[], []⟩ hkn (rem_full hm).symm h0
  have hgr := grK hst 65 m.rows (m.st.map full) ⟨[], []⟩ hkn.1
  have hroot : (buildG m).2.1 = begF (buildG m).1 := by
    cases hch : (charF m.rows (m.st.map full)).2.1 with
    | true =>
      obtain ⟨c, _, hc, _⟩ := best_ok (L := m.rows) (l := m.st.map full) (P := fun c => usefulF m.rows c ((m.st.map full).getD c 0)) (m.st.map full).length hch
      have e : buildG m = _ := grow_node (m := m) (d := 64) (k := ⟨[], []⟩) hch hc
      have ga := gaK_all (m := m) (d := 64) (c := c) (L := m.rows) (l := m.st.map full) (k := ⟨[], []⟩) (fun L l k h => grK hst 64 L l k h) hkn.1 (m.st.getD c 0).toNat
      rw [e] at h0 ⊢
      obtain ⟨st, hste⟩ : ∃ st, gAll m 64 m.rows (m.st.map full) c ⟨[], []⟩ (m.st.getD c 0).toNat = st := ⟨_, rfl⟩
      rw [hste] at h0 ga ⊢
      by_cases hs0 : st.2.2 = 0
      · rw [if_pos hs0]
        have := ga.nle
        show (((([] : List Rw).length : Nat) : Int)) = begF ⟨st.1.nd.set _ _, st.1.lv⟩
        unfold begF
        rw [if_neg (by rw [List.length_set]; simp at this; omega)]
        rfl
      · rw [if_neg hs0] at h0; exact absurd h0 hs0
    | false =>
      have e : buildG m = _ := grow_leaf (m := m) (d := 64) (k := ⟨[], []⟩) hch
      rw [e, if_neg (by simp)]
      rfl
  have htree : Tree m (buildG m).1 0 (buildG m).2.1 (m.st.map full) := hgt.tree
  rw [hroot] at htree
  have hslk : (buildG m).1.nd.length + 0 + 1 ≤ (buildG m).1.lv.length + 0 := hgr.slk h0
  have hmax : (buildG m).1.lv.length ≤ 1000 := hgr.max (by simp)
  exact ⟨hm, htree, fun i hi => hgt.all i (Nat.zero_le _) hi, fun j hj => hgt.lvs j (Nat.zero_le _) hj, by omega, hmax⟩
theorem tree_node {m : Mx} {k : Kx} {b i : Nat} {l : List Int} (ht : Tree m k b (i : Int) l) : ∃ (c : Nat) (n : Int) (next : List Int), k.nd[i]? = some ⟨(c : Int), next⟩ ∧ m.st[c]? = some n ∧ l[c]? = some (full n) ∧ (next.length : Int) = n ∧ ∀ (s : Nat) (x : Int), next[s]? = some x → Tree m k (i + 1) x (l.set c (2 ^ s)) := by
  generalize ha : (i : Int) = a at ht
  cases ht with
  | leaf _ _ => omega
  | @node _ i' c n next _ h1 h2 h3 h4 h5 h6 =>
    obtain rfl : i = i' := by omega
    exact ⟨c, n, next, h2, h3, h4, h5, h6⟩
theorem tree_leaf {m : Mx} {k : Kx} {b j : Nat} {l : List Int} (ht : Tree m k b (-1 - (j : Int)) l) : k.lv[j]? = some ((remL m.rows l).map (·.nm)) := by
  generalize ha : (-1 - (j : Int)) = a at ht
  cases ht with
  | @leaf _ j' _ h1 _ =>
    obtain rfl : j = j' := by omega
    exact h1
  | node _ _ _ _ _ _ => omega
theorem nms_filter {m : Mx} (hm : mxF m = true) (p : Rw → Bool) : Nms ((m.rows.filter p).map (·.nm)) := by
  have hN := mx_nms hm
  have hsub : ((m.rows.filter p).map (·.nm)).Sublist (m.rows.map (·.nm)) := List.Sublist.map _ List.filter_sublist
  exact ⟨List.Pairwise.sublist hsub hN.1, fun x hx => hN.2 x (hsub.subset hx)⟩
theorem bd_nodes {m : Mx} {k : Kx} (h : Bd m k) : nodesF m.st k = true := by
  unfold nodesF
  rw [Bool.and_eq_true]
  refine ⟨List.all_eq_true.2 fun p hp => ?_, decide_eq_true (by have := h.slk; have := h.max; omega)⟩
  obtain ⟨q, hq, e⟩ := List.getElem_of_mem hp
  have h2 : k.nd.zipIdx[q]? = some p := by rw [← e]; exact List.getElem?_eq_getElem hq
  rw [List.getElem?_zipIdx, Nat.zero_add] at h2
  obtain ⟨r, hr, e2⟩ := Option.map_eq_some_iff.1 h2
  obtain rfl := e2
  obtain ⟨l, hkn, ht⟩ := h.all q (List.getElem?_eq_some_iff.1 hr).1
  obtain ⟨c, n, next, h3, h4, h5, h6, h7⟩ := tree_node ht
  rw [hr] at h3; injection h3 with h3; subst h3
  have hc := (List.getElem?_eq_some_iff.1 h4).1
  unfold nodeF
  simp only [Bool.and_eq_true, decide_eq_true_eq]
  refine ⟨⟨by omega, ?_⟩, List.all_eq_true.2 fun x hx => ?_⟩
  · rw [Int.toNat_natCast, List.getD_eq_getElem?_getD, h4]; exact h6
  · obtain ⟨s, hs⟩ := List.mem_iff_getElem?.1 hx
    have := (h7 s x hs).range
    unfold nextF
    simp
    by_cases h0 : 0 ≤ x
    · have h8 := this.2.2 h0
      refine ⟨.inr ⟨by omega, by omega⟩, by omega⟩
    · exact ⟨.inl (by omega), by omega⟩
theorem bd_leaves {m : Mx} {k : Kx} (h : Bd m k) : leavesF k.lv = true := by
  unfold leavesF
  rw [Bool.and_eq_true]
  refine ⟨List.all_eq_true.2 fun L hL => decide_eq_true ?_, decide_eq_true ⟨by have := h.slk; omega, h.max⟩⟩
  obtain ⟨j, hj⟩ := List.mem_iff_getElem?.1 hL
  obtain ⟨l, _, h2, _⟩ := h.lvs j (List.getElem?_eq_some_iff.1 hj).1
  rw [hj] at h2; injection h2 with h2; subst h2
  exact nms_filter h.mx _
theorem full_odd {n : Int} (h : 2 ≤ n ∧ n ≤ 16) (s : Nat) : (2 : Int) ^ s ≠ full n := by
  obtain ⟨k, rfl, hk2, _, hf, _⟩ := full_val h
  rw [hf]
  intro e
  have e3 : ((2 : Int) ^ s) = ((2 ^ s : Nat) : Int) := by simp
  have h4 := Nat.two_pow_pos k
  have e2 : 2 ^ s = 2 ^ k - 1 := by omega
  obtain ⟨q, rfl⟩ : ∃ q, k = q + 2 := ⟨k - 2, by omega⟩
  have h1 : 2 ^ (q + 2) = 4 * 2 ^ q := by rw [Nat.pow_add]; omega
  have h0 := Nat.two_pow_pos q
  cases s with
  | zero => simp at e2; omega
  | succ s => rw [Nat.pow_succ] at e2; omega
theorem tree_asks {m : Mx} {k : Kx} (hm : mxF m = true) {i : Nat} {c : Int} (h : Asks k.nd i c) : ∀ {b : Nat} {l : List Int}, Tree m k b (i : Int) l → ∃ (q : Nat) (n : Int), c = (q : Int) ∧ m.st[q]? = some n ∧ l[q]? = some (full n) := by
  induction h with
  | here hr =>
    intro b l ht
    obtain ⟨c, n, next, hi, h3, h4, _, _⟩ := tree_node ht
    rw [hr] at hi; injection hi with hi; subst hi
    exact ⟨c, n, rfl, h3, h4⟩
  | on hr hj _ ih =>
    intro b l ht
    obtain ⟨c, n, next, hi, h3, h4, h5, h6⟩ := tree_node ht
    rw [hr] at hi; injection hi with hi; subst hi
    obtain ⟨s, hs⟩ := List.mem_iff_getElem?.1 hj
    obtain ⟨q, n', e, h7, h8⟩ := ih (h6 s _ hs)
    by_cases e2 : q = c
    · subst e2
      exfalso
      rw [List.getElem?_set_self (List.getElem?_eq_some_iff.1 h4).1] at h8; injection h8 with h8
      exact full_odd (st_range hm (List.mem_of_getElem? h7)) s h8
    · rw [List.getElem?_set_ne (fun e3 => e2 e3.symm)] at h8
      exact ⟨q, n', e, h7, h8⟩
theorem and_bit0 {a : Int} (ha : okU a) {c : Nat} (hc : c < 64) (h : a.toNat.testBit c = false) : andF a (2 ^ c) = 0 := by
  obtain ⟨x, rfl, hx⟩ := ha.nat
  have e : ((2 : Int) ^ c) = ((2 ^ c : Nat) : Int) := by simp
  have hp : 2 ^ c < 18446744073709551616 := Nat.pow_lt_pow_right (a := 2) (n := 64) (by omega) hc
  rw [e, show andF (x : Int) ((2 ^ c : Nat) : Int) = ((x &&& 2 ^ c : Nat) : Int) from and_u64 hx hp, and_pow0 (by simpa using h)]
  rfl
theorem ask_none {nd : List Rw} (hr : ∀ (i : Nat) (r : Rw), nd[i]? = some r → 0 ≤ r.nm ∧ r.nm < 64 ∧ ∀ x ∈ r.may, x < nd.length ∧ (0 ≤ x → (i : Int) < x)) (no : ∀ (i : Nat) (r : Rw), nd[i]? = some r → ∀ j : Nat, (j : Int) ∈ r.may → ¬ Asks nd j r.nm) : ∀ t, t ≤ nd.length → (askM nd t).2 = false ∧ (∀ x, okU ((askM nd t).1 x)) ∧ ∀ i : Nat, nd.length - t ≤ i → ∀ c : Nat, ((askM nd t).1 i).toNat.testBit c = true → Asks nd i c
  | 0, _ => ⟨rfl, fun x => by show okU 0; unfold okU; omega, fun i _ c h => by
      rw [show (askM nd 0).1 i = 0 from rfl] at h; simp at h⟩
  | t + 1, ht => by
    obtain ⟨h0, h1, h2⟩ := ask_none hr no t (by omega)
    obtain ⟨i0, hi0⟩ : ∃ i0, i0 + t + 1 = nd.length := ⟨nd.length - 1 - t, by omega⟩
    obtain ⟨r0, hr0⟩ : ∃ r, nd[i0]? = some r := ⟨_, List.getElem?_eq_getElem (by omega)⟩
    have hn := ask_next h0 hi0 hr0
    obtain ⟨q0, q1, q2⟩ := hr i0 r0 hr0
    have hc0 : r0.nm.toNat < 64 := by omega
    have kid : ∀ x ∈ r0.may, ∀ c : Nat, ((askM nd t).1 x).toNat.testBit c = true → ∃ j : Nat, x = (j : Int) ∧ Asks nd j c := fun x hx c hb => by
      by_cases h0x : 0 ≤ x
      · obtain ⟨j, rfl⟩ : ∃ j : Nat, x = (j : Int) := ⟨x.toNat, by omega⟩
        have := q2 _ hx
        exact ⟨j, rfl, h2 j (by omega) c hb⟩
      · rw [ask_zero nd t x (.inl (by omega)) (by omega)] at hb; simp at hb
    have hz : (askOne r0 (askM nd t).1).toNat.testBit r0.nm.toNat = false := by
      rw [(ask_bit h1 r0 _).2]
      refine List.any_eq_false.2 fun x hx hb => ?_
      obtain ⟨j, rfl, ha⟩ := kid x hx _ hb
      refine no i0 r0 hr0 j hx ?_
      rw [Int.toNat_of_nonneg q0] at ha; exact ha
    have hz0 := and_bit0 (ask_bit h1 r0 0).1 hc0 hz
    rw [hn]
    unfold askStep
    rw [if_neg (fun hx => hx hz0)]
    refine ⟨rfl, fun x => ?_, fun i hi c hb => ?_⟩
    · show okU (if x = (i0 : Int) then _ else _)
      split
      · exact or_ok _ _
      · exact h1 x
    · change (if (i : Int) = (i0 : Int) then _ else _ : Int).toNat.testBit c = true at hb
      by_cases e : i = i0
      · subst e
        rw [if_pos rfl, or_bit (ask_bit h1 r0 0).1 (pow_ok hc0).1, (pow_ok hc0).2, (ask_bit h1 r0 _).2, Nat.testBit_two_pow, Bool.or_eq_true] at hb
        rcases hb with hb | hb
        · obtain ⟨x, hx, hb⟩ := List.any_eq_true.1 hb
          obtain ⟨j, rfl, ha⟩ := kid x hx _ hb
          exact .on hr0 hx ha
        · have e : r0.nm.toNat = c := of_decide_eq_true hb
          have e2 : (c : Int) = r0.nm := by omega
          rw [e2]; exact .here hr0
      · rw [if_neg (by omega)] at hb
        exact h2 i (by omega) c hb
theorem bd_ok {m : Mx} {k : Kx} (h : Bd m k) : ckE m k = 0 := by
  have hn := bd_nodes h
  have hl := bd_leaves h
  have hna := nodes_all hn
  have hc := chr_ok (mx_chr h.mx)
  have ht := (ask_none (nd := k.nd) (fun i r hr => by
    obtain ⟨h1, h2, h3, h4⟩ := hna.2 i r hr
    exact ⟨h1, by omega, fun x hx => (h4 x hx).2⟩) (fun i r hr j hj ha => by
      obtain ⟨l, _, htr⟩ := h.all i (List.getElem?_eq_some_iff.1 hr).1
      obtain ⟨c, n, next, hi, h3, h4, h5, h6⟩ := tree_node htr
      rw [hr] at hi; injection hi with hi; subst hi
      obtain ⟨s, hs⟩ := List.mem_iff_getElem?.1 hj
      obtain ⟨q, n', e2, h7, h8⟩ := tree_asks h.mx ha (h6 s _ hs)
      have e4 : (c : Int) = (q : Int) := e2
      have e3 : c = q := by omega
      subst e3
      rw [List.getElem?_set_self (List.getElem?_eq_some_iff.1 h4).1] at h8; injection h8 with h8
      exact full_odd (st_range h.mx (List.mem_of_getElem? h7)) s h8) k.nd.length (Nat.le_refl _)).1
  unfold ckE
  rw [if_pos h.mx, hl, hn, show twiceF k.nd = false from ht]; rfl
theorem fits_kid {m : Mx} (hm : mxF m = true) {r : Rw} (hr : r ∈ m.rows) {l : List Int} {c s x : Nat} {n : Int} (hn : m.st[c]? = some n) (hl : l[c]? = some (full n)) (hf : fitsF r.may l = true) (hx : r.may[c]? = some (x : Int)) (hb : x / 2 ^ s % 2 = 1) : fitsF r.may (l.set c (2 ^ s)) = true := by
  have hms := may_sets hm hr
  have hst := st_range hm (List.mem_of_getElem? hn)
  have hxr := sets_range hm hms hx
  have hs := (full_lt hst.1 hst.2 (sets_fl hms hx hn).2 hb).1
  obtain ⟨q, rfl, hq2, hq16, hfv, hfv2⟩ := full_val hst
  rw [hfv] at hl
  rw [fits_set hx hl hfv2 (by omega) (by omega) ((bit_iff _ _).2 (full_bit (by omega))), hf, Bool.true_and]
  unfold bitB
  rw [List.getD_eq_getElem?_getD, hx]
  show (meetF (x : Int) _).toNat.testBit s = true
  rw [meet_nat (by omega) hfv2, Int.toNat_natCast, Nat.testBit_and, (bit_iff _ _).2 hb, (bit_iff _ _).2 (full_bit (by omega))]
  rfl
theorem tree_pth {m : Mx} {k : Kx} (hm : mxF m = true) {r : Rw} (hr : r ∈ m.rows) {z a : Int} (h : Pth k r.may z a) : ∀ {b : Nat} {l : List Int}, Tree m k b a l → fitsF r.may l = true → ∀ j : Nat, z = -1 - (j : Int) → ∀ L, k.lv[j]? = some L → r.nm ∈ L := by
  induction h with
  | nil =>
    intro b l ht hf j e L hL
    subst e
    rw [tree_leaf ht] at hL; injection hL with hL; subst hL
    exact List.mem_map.2 ⟨r, List.mem_filter.2 ⟨hr, hf⟩, rfl⟩
  | cons st _ ih =>
    intro b l ht hf j e L hL
    obtain ⟨i, s, x, nd, rfl, h1, h2, h3, h4⟩ := st
    obtain ⟨c, n, next, g1, g2, g3, g4, g5⟩ := tree_node ht
    rw [g1] at h1; injection h1 with h1; subst h1
    rw [Int.toNat_natCast] at h2
    exact ih (g5 s _ h4) (fits_kid hm hr g2 g3 hf h2 h3) j e L hL
theorem bd_right {m : Mx} {k : Kx} (h : Bd m k) : wrongE m k = 3 := by
  have hck := bd_ok h
  obtain ⟨_, hlv, hok⟩ := ck_ok hck
  have hw : wrongR m k = none := List.find?_eq_none.2 fun r hr hb => by
    have hms := may_sets h.mx hr
    obtain ⟨j, L, hp, hL, hn⟩ := (mis_iff hok (sets_len hms) (fun i y hy => by have := sets_range h.mx hms hy; omega) (leaves_one hlv) r.nm).1 (by simpa using hb)
    exact hn (tree_pth h.mx hr hp h.root (fits_full (mx_chr h.mx) hms) j rfl L hL)
  unfold wrongE
  rw [if_pos hck, hw]
  rfl
theorem not_sub {x y t : Nat} (hx : x < 65536) (hy : y < 65536) (h : notF (x : Int) (y : Int) = 0) (hb : x.testBit t = true) : y.testBit t = true := by
  have ht : t < 16 := by
    by_cases e : t < 16
    · exact e
    · have : x < 2 ^ t := Nat.lt_of_lt_of_le hx (Nat.pow_le_pow_right (n := 2) (i := 16) (by omega) (by omega))
      rw [Nat.testBit_lt_two_pow this] at hb; cases hb
  have h1 : (BitVec.ofInt 64 (x : Int) &&& ~~~ BitVec.ofInt 64 (y : Int)).toNat ≤ x := by
    rw [BitVec.toNat_and, ofInt_nat (by omega)]
    exact Nat.and_le_left
  have h2 : (BitVec.ofInt 64 (x : Int) &&& ~~~ BitVec.ofInt 64 (y : Int)).toNat = 0 := by
    have h3 : IntKind.i64.wrap ((BitVec.ofInt 64 (x : Int) &&& ~~~ BitVec.ofInt 64 (y : Int)).toNat : Int) = 0 := h
    rw [IntKind.wrap_i64] at h3
    omega
  have h4 : (BitVec.ofInt 64 (x : Int) &&& ~~~ BitVec.ofInt 64 (y : Int)).getLsbD t = false := by
    simp only [BitVec.getLsbD, h2, Nat.zero_testBit]
  rw [BitVec.getLsbD_and, BitVec.getLsbD_not] at h4
  simp only [BitVec.getLsbD, ofInt_nat (show x < 18446744073709551616 by omega), ofInt_nat (show y < 18446744073709551616 by omega), hb] at h4
  simpa [show t < 64 by omega] using h4
theorem two_mem {α : Type} {L : List α} {a b : α} (ha : a ∈ L) (hb : b ∈ L) (h : a ≠ b) : 1 < L.length := by
  match L, ha, hb with
  | [], ha, _ => cases ha
  | [x], ha, hb => exact absurd ((List.mem_singleton.1 ha).trans (List.mem_singleton.1 hb).symm) h
  | _ :: _ :: _, _, _ => simp
theorem leaf_row {m : Mx} {k : Kx} (h : Bd m k) {L : List Int} (hL : L ∈ k.lv) {z : Int} (hz : z ∈ L) : ∃ r ∈ m.rows, r.nm = z := by
  obtain ⟨j, hj⟩ := List.mem_iff_getElem?.1 hL
  obtain ⟨l, _, h2, _⟩ := h.lvs j (List.getElem?_eq_some_iff.1 hj).1
  rw [hj] at h2; injection h2 with h2; subst h2
  obtain ⟨r, hr, e⟩ := List.mem_map.1 hz
  exact ⟨r, (List.mem_filter.1 hr).1, e⟩
theorem leaf_same {m : Mx} {k : Kx} (h : Bd m k) {L : List Int} (hL : L ∈ k.lv) {r s : Rw} (hr : r ∈ m.rows) (hs : s ∈ m.rows) (hne : r.nm ≠ s.nm) (h1 : r.nm ∈ L) (h2 : s.nm ∈ L) : sameE m r.nm s.nm = 0 := by
  obtain ⟨j, hj⟩ := List.mem_iff_getElem?.1 hL
  obtain ⟨l, hkn, h3, hus⟩ := h.lvs j (List.getElem?_eq_some_iff.1 hj).1
  rw [hj] at h3; injection h3 with h3; subst h3
  have back : ∀ x ∈ m.rows, x.nm ∈ (remL m.rows l).map (·.nm) → x ∈ remL m.rows l := fun x hx hn => by
    obtain ⟨y, hy, e⟩ := List.mem_map.1 hn
    have := rows_uniq h.mx hx (List.mem_filter.1 hy).1 e.symm
    rw [this]; exact hy
  have hr2 := back r hr h1
  have hs2 := back s hs h2
  have htwo := two_mem hr2 hs2 (fun e => hne (by rw [e]))
  have hms := may_sets h.mx hr
  have hmt := may_sets h.mx hs
  have hf : fitsF r.may s.may = true := fits_iff.2 fun i x y hx hy => by
    have hi : i < m.st.length := by rw [← sets_len hms]; exact (List.getElem?_eq_some_iff.1 hx).1
    have hn : m.st[i]? = some m.st[i] := List.getElem?_eq_getElem hi
    have hst := st_range h.mx (List.mem_of_getElem? hn)
    obtain ⟨v, hv, hv1, hv2⟩ : ∃ v : Nat, l[i]? = some (v : Int) ∧ 1 ≤ v ∧ v ≤ 65535 := by
      rcases hkn.2 i _ hn with e | ⟨t, ht, e⟩
      · obtain ⟨q, hq, _, _, hfv, hfv2⟩ := full_val hst
        rw [hfv] at e
        have h4 : 2 ^ 1 ≤ 2 ^ q := Nat.pow_le_pow_right (by omega) (by omega)
        exact ⟨_, e, by omega, hfv2⟩
      · have e3 : ((2 : Int) ^ t) = ((2 ^ t : Nat) : Int) := by simp
        rw [e3] at e
        have h4 : 2 ^ t ≤ 2 ^ 15 := Nat.pow_le_pow_right (by omega) (by omega)
        have h5 := Nat.two_pow_pos t
        exact ⟨_, e, by omega, by omega⟩
    have hu := hus i (by rw [hkn.1]; exact hi)
    rw [List.getD_eq_getElem?_getD, hv] at hu
    unfold usefulF at hu
    rw [decide_eq_true htwo, Bool.true_and] at hu
    have hno : ∀ w ∈ remL m.rows l, notF (v : Int) (w.may.getD i 0) = 0 := fun w hw => by
      have := List.any_eq_false.1 hu w hw
      simpa using this
    have n1 := hno r hr2
    have n2 := hno s hs2
    rw [List.getD_eq_getElem?_getD, hx] at n1
    rw [List.getD_eq_getElem?_getD, hy] at n2
    have rx := sets_range h.mx hms hx
    have ry := sets_range h.mx hmt hy
    obtain ⟨X, rfl⟩ : ∃ X : Nat, x = (X : Int) := ⟨x.toNat, by omega⟩
    obtain ⟨Y, rfl⟩ : ∃ Y : Nat, y = (Y : Int) := ⟨y.toNat, by omega⟩
    obtain ⟨t, ht⟩ := least_bit v (by omega)
    have b1 := not_sub (x := v) (y := X) (by omega) (by omega) n1 ht.on
    have b2 := not_sub (x := v) (y := Y) (by omega) (by omega) n2 ht.on
    rw [meet_nat (by omega) (by omega)]
    intro e
    have e2 : X &&& Y = 0 := by omega
    have : (X &&& Y).testBit t = true := by rw [Nat.testBit_and, b1, b2]; rfl
    rw [e2, Nat.zero_testBit] at this
    cases this
  have hcom : comE m r.nm s.nm = 0 := by
    unfold comE
    rw [if_pos (row_of h.mx hr).1]
    exact (row_of h.mx hs).1
  unfold sameE
  rw [if_pos hcom, ← com_all, (row_of h.mx hr).2, (row_of h.mx hs).2, if_pos hf]
theorem bd_nms {m : Mx} {k : Kx} (h : Bd m k) : ∀ L ∈ k.lv, Nms L := fun L hL => by
  have hlv2 := bd_leaves h
  unfold leavesF at hlv2
  rw [Bool.and_eq_true] at hlv2
  exact of_decide_eq_true (List.all_eq_true.1 hlv2.1 L hL)
theorem bd_in {m : Mx} {k : Kx} (h : Bd m k) {r : Rw} (hr : r ∈ m.rows) {j : Nat} (hj : j < k.lv.length) (hp : Pth k r.may (-1 - (j : Int)) (begF k)) : r.nm ∈ k.lv[j] := tree_pth h.mx hr hp h.root (fits_full (mx_chr h.mx) (may_sets h.mx hr)) j rfl _ (List.getElem?_eq_getElem hj)
theorem bd_keys {m : Mx} {k : Kx} (h : Bd m k) : keysB k.lv = m.rows.map (·.nm) := inc_ext (keysB_inc _) (mx_nms h.mx).1 fun z => by
  rw [keysB_mem (bd_nms h)]
  constructor
  · rintro ⟨L, hL, hz⟩
    obtain ⟨r, hr, e⟩ := leaf_row h hL hz
    exact List.mem_map.2 ⟨r, hr, e⟩
  · intro hz
    obtain ⟨r, hr, rfl⟩ := List.mem_map.1 hz
    have hf := same_fits (same_self h.mx hr).1
    rw [(row_of h.mx hr).2] at hf
    obtain ⟨j, hj, p1, _⟩ := both_leaf (bd_ok h) (may_sets h.mx hr) hr hf
    exact ⟨_, List.getElem_mem hj, bd_in h hr hj p1⟩
theorem bd_pairs {m : Mx} {k : Kx} (h : Bd m k) {r : Rw} (hr : r ∈ m.rows) : pairB k.lv r.nm = (m.rows.filter fun s => decide (r.nm < s.nm ∧ sameE m r.nm s.nm = 0)).map (·.nm) := inc_ext (pairB_inc _ _) (nms_filter h.mx _).1 fun z => by
  rw [pairB_mem (bd_nms h)]
  constructor
  · rintro ⟨L, hL, ha, hz, hlt⟩
    obtain ⟨s, hs, rfl⟩ := leaf_row h hL hz
    exact List.mem_map.2 ⟨s, List.mem_filter.2 ⟨hs, decide_eq_true ⟨hlt, leaf_same h hL hr hs (by omega) ha hz⟩⟩, rfl⟩
  · intro hz
    obtain ⟨s, hs, rfl⟩ := List.mem_map.1 hz
    have h2 := List.mem_filter.1 hs
    have h3 := of_decide_eq_true h2.2
    have hf := same_fits h3.2
    rw [(row_of h.mx hr).2, (row_of h.mx h2.1).2] at hf
    obtain ⟨j, hj, p1, p2⟩ := both_leaf (bd_ok h) (may_sets h.mx h2.1) hr hf
    exact ⟨_, List.getElem_mem hj, bd_in h hr hj p1, bd_in h h2.1 hj p2, h3.1⟩
theorem fm_congr {L : List Rw} {f g : Rw → List (List Int)} (h : ∀ r ∈ L, f r = g r) : L.flatMap f = L.flatMap g := by
  induction L with
  | nil => rfl
  | cons a L ih => rw [List.flatMap_cons, List.flatMap_cons, h a (by simp), ih fun r hr => h r (by simp [hr])]
/-- a row's pairs with the first j rows; all pairs of the first i rows -/
def rowG (m : Mx) (j : Nat) (r : Rw) : List (List Int) := ((m.rows.take j).filter fun s => decide (r.nm < s.nm ∧ sameE m r.nm s.nm = 0)).map fun s => [r.nm, s.nm]
def cntB (m : Mx) (i : Nat) : List (List Int) := (m.rows.take i).flatMap fun r => rowG m m.rows.length r
theorem bd_conf {m : Mx} {k : Kx} (h : Bd m k) : confF k.lv = cntB m m.rows.length := by
  unfold confF cntB
  rw [bd_keys h, List.flatMap_map, List.take_length]
  refine fm_congr fun r hr => ?_
  show (pairB k.lv r.nm).map _ = _
  rw [bd_pairs h hr, List.map_map]
  unfold rowG
  rw [List.take_length]
  rfl
theorem row_lt {m : Mx} (hm : mxF m = true) {i j : Nat} {r s : Rw} (hi : m.rows[i]? = some r) (hj : m.rows[j]? = some s) (hij : i < j) : r.nm < s.nm := by
  have h3 := (mx_nms hm).1
  obtain ⟨i1, hi1⟩ := List.getElem?_eq_some_iff.1 hi
  obtain ⟨j1, hj1⟩ := List.getElem?_eq_some_iff.1 hj
  have h4 := List.pairwise_iff_getElem.1 h3 i j (by simpa using i1) (by simpa using j1) hij
  simpa [hi1, hj1] using h4
theorem rowG_next {m : Mx} {j : Nat} {r s : Rw} (hj : m.rows[j]? = some s) : rowG m (j + 1) r = rowG m j r ++ if r.nm < s.nm ∧ sameE m r.nm s.nm = 0 then [[r.nm, s.nm]] else [] := by
  unfold rowG
  rw [show m.rows.take (j + 1) = m.rows.take j ++ [s] from by rw [List.take_add_one, hj]; rfl, List.filter_append, List.map_append]
  congr 1
  by_cases e : r.nm < s.nm ∧ sameE m r.nm s.nm = 0
  · rw [if_pos e, List.filter_cons, if_pos (decide_eq_true e)]; rfl
  · rw [if_neg e, List.filter_cons, if_neg (by simpa using e)]; rfl
theorem rowG_start {m : Mx} (hm : mxF m = true) {i : Nat} {r : Rw} (hi : m.rows[i]? = some r) : rowG m (i + 1) r = [] := by
  unfold rowG
  rw [List.map_eq_nil_iff, List.filter_eq_nil_iff]
  intro s hs hb
  have hb := (of_decide_eq_true hb).1
  obtain ⟨q, hq⟩ := List.mem_iff_getElem?.1 hs
  rw [List.getElem?_take] at hq
  split at hq
  · rename_i hlt
    by_cases e : q = i
    · subst e; rw [hi] at hq; injection hq with hq; subst hq; omega
    · have := row_lt hm hq hi (by omega); omega
  · cases hq
theorem cntB_next {m : Mx} {i : Nat} {r : Rw} (hi : m.rows[i]? = some r) : cntB m (i + 1) = cntB m i ++ rowG m m.rows.length r := by
  unfold cntB
  rw [show m.rows.take (i + 1) = m.rows.take i ++ [r] from by rw [List.take_add_one, hi]; rfl, List.flatMap_append]
  simp
theorem cntB_pre {m : Mx} {i j : Nat} (h : i ≤ j) : cntB m i <+: cntB m j := by
  have e : m.rows.take j = m.rows.take i ++ (m.rows.take j).drop i := by
    have := List.take_append_drop i (m.rows.take j)
    rw [List.take_take, Nat.min_eq_left h] at this
    exact this.symm
  unfold cntB
  rw [e, List.flatMap_append]
  exact List.prefix_append _ _
theorem rowG_pre {m : Mx} {i j : Nat} {r : Rw} (h : i ≤ j) : rowG m i r <+: rowG m j r := by
  have e : m.rows.take j = m.rows.take i ++ (m.rows.take j).drop i := by
    have := List.take_append_drop i (m.rows.take j)
    rw [List.take_take, Nat.min_eq_left h] at this
    exact this.symm
  unfold rowG
  rw [e, List.filter_append, List.map_append]
  exact List.prefix_append _ _
theorem cnt_hit {m : Mx} {i j : Nat} {r s : Rw} (hm : mxF m = true) (hi : m.rows[i]? = some r) (hj : m.rows[j]? = some s) (hij : i < j) (hs : sameE m r.nm s.nm = 0) :
    (rowG m (j + 1) r).length = (rowG m j r).length + 1 ∧ (cntB m m.rows.length)[(cntB m i).length + (rowG m j r).length]? = some [r.nm, s.nm] ∧ (cntB m i).length + (rowG m j r).length < (cntB m m.rows.length).length := by
  have hn := rowG_next (r := r) hj
  rw [if_pos ⟨row_lt hm hi hj hij, hs⟩] at hn
  have hj1 := (List.getElem?_eq_some_iff.1 hj).1
  have hi1 := (List.getElem?_eq_some_iff.1 hi).1
  have hp1 : cntB m (i + 1) <+: cntB m m.rows.length := cntB_pre (by omega)
  rw [cntB_next hi] at hp1
  have hp2 : cntB m i ++ rowG m (j + 1) r <+: cntB m m.rows.length := ((List.prefix_append_right_inj _).2 (rowG_pre (by omega))).trans hp1
  rw [hn] at hp2
  have e : (cntB m m.rows.length)[(cntB m i).length + (rowG m j r).length]? = some [r.nm, s.nm] := by
    obtain ⟨t, ht⟩ := hp2
    rw [← ht, List.append_assoc, List.getElem?_append_right (by omega), Nat.add_sub_cancel_left, List.append_assoc, List.getElem?_append_right (by omega)]
    simp
  exact ⟨by rw [hn]; simp, e, (List.getElem?_eq_some_iff.1 e).1⟩
theorem cnt_miss {m : Mx} {j : Nat} {r s : Rw} (hj : m.rows[j]? = some s) (hs : sameE m r.nm s.nm ≠ 0) : rowG m (j + 1) r = rowG m j r := by
  rw [rowG_next hj, if_neg (fun h => hs h.2), List.append_nil]
end Go.Ky
namespace Go.Proofs.YthfegbcbpeedbaaDoor
open Go.RowKit Go.Nm Go.Ky

theorem bd_sm {m : Mx} {k : Kx} (h : Bd m k) (hs : MSm m) : KSm k := by
  have h1 := h.slk
  have h2 := h.max
  refine ⟨by omega, by omega, fun r hr => ?_, fun l hl => ?_⟩
  · obtain ⟨i, hi⟩ := List.mem_iff_getElem?.1 hr
    obtain ⟨l, _, ht⟩ := h.all i (List.getElem?_eq_some_iff.1 hi).1
    obtain ⟨c, n, next, e, h3, _, h5, _⟩ := tree_node ht
    rw [hi] at e; injection e with e; subst e
    have := st_range h.mx (List.mem_of_getElem? h3)
    show next.length ≤ 1000
    omega
  · obtain ⟨j, hj⟩ := List.mem_iff_getElem?.1 hl
    obtain ⟨l', _, h2, _⟩ := h.lvs j (List.getElem?_eq_some_iff.1 hj).1
    rw [hj] at h2; injection h2 with h2; subst h2
    rw [List.length_map]
    have := List.length_filter_le (fun r : Rw => fitsF r.may l') m.rows
    have := hs.2.1
    show (m.rows.filter _).length ≤ 1000
    omega
end Go.Proofs.YthfegbcbpeedbaaDoor
