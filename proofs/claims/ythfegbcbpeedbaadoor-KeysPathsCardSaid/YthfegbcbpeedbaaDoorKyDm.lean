/- Paths: the mathematics of the law. -/
import Derived.Test.YthfegbcbpeedbaaDoorKyDp
import Derived.Test.YthfegbcbpeedbaaDoorKyPu
namespace Go.Ky
open Go.Nm
theorem dpN_other {i : Nat} {r : Rw} {f : Int → Int} {k : Int} (h : k ≠ (i : Int)) : ∀ j, dpN i r f j k = f k
  | 0 => rfl
  | j + 1 => by
    have ih := dpN_other (i := i) (r := r) (f := f) h j
    cases hx : r.may[j]? with
    | none =>
      have e : dpN i r f (j + 1) = dpN i r f j := by unfold dpN; rw [show r.may.take (j + 1) = r.may.take j from by rw [List.take_add_one, hx]; simp]
      rw [e, ih]
    | some x =>
      rw [dpN_next hx]
      unfold dpS
      rw [if_neg h, ih]
theorem dpN_ge {i : Nat} {r : Rw} {f : Int → Int} : ∀ (j s : Nat) (x : Int), s < j → r.may[s]? = some x → x ≠ (i : Int) → 1 + f x ≤ dpN i r f j i
  | 0, s, x, h, _, _ => absurd h (by omega)
  | j + 1, s, x, h, hs, hxi => by
    cases hx : r.may[j]? with
    | none =>
      have e : dpN i r f (j + 1) = dpN i r f j := by unfold dpN; rw [show r.may.take (j + 1) = r.may.take j from by rw [List.take_add_one, hx]; simp]
      have hne : s ≠ j := fun e2 => by subst e2; rw [hx] at hs; cases hs
      rw [e]
      exact dpN_ge j s x (by omega) hs hxi
    | some y =>
      rw [dpN_next hx]
      unfold dpS
      rw [if_pos rfl]
      by_cases e : s = j
      · subst e
        rw [hx] at hs; injection hs with hs; subst hs
        rw [dpN_other hxi]
        omega
      · have := dpN_ge (f := f) j s x (by omega) hs hxi
        omega
theorem dpM_fix {nd : List Rw} {t : Nat} {k : Int} (hk : k < 0 ∨ (nd.length : Int) ≤ k + t) : ∀ d, t + d ≤ nd.length → dpM nd (t + d) k = dpM nd t k
  | 0, _ => rfl
  | d + 1, h => by
    have ih := dpM_fix hk d (by omega)
    obtain ⟨r, hr⟩ : ∃ r, nd[nd.length - 1 - (t + d)]? = some r := ⟨_, List.getElem?_eq_getElem (by omega)⟩
    rw [show t + (d + 1) = t + d + 1 from rfl, dpM_next (by omega) hr, dpN_other (by omega), ih]
theorem dep_step {nd : List Rw} {i : Nat} {r : Rw} {x : Int} (hr : nd[i]? = some r) (hx : x ∈ r.may) (h : x < 0 ∨ (i : Int) < x) : 1 + dpM nd nd.length x ≤ dpM nd nd.length i := by
  have hi := (List.getElem?_eq_some_iff.1 hr).1
  obtain ⟨s, hs⟩ := List.getElem?_of_mem hx
  have h1 := dpM_fix (nd := nd) (t := nd.length - 1 - i) (k := x) (by omega) (i + 1) (by omega)
  have h2 := dpM_fix (nd := nd) (t := nd.length - 1 - i + 1) (k := (i : Int)) (by omega) i (by omega)
  rw [show nd.length - 1 - i + (i + 1) = nd.length from by omega] at h1
  rw [show nd.length - 1 - i + 1 + i = nd.length from by omega] at h2
  rw [h1, h2, dpM_next (by omega) hr]
  exact dpN_ge _ s x (List.getElem?_eq_some_iff.1 hs).1 hs (by omega)
/-- the character of a node -/
def chF (k : Kx) (a : Int) : Int := (k.nd.getD a.toNat ⟨0, []⟩).nm
/-- the path of a specimen from a node -/
structure TrP (k : Kx) (l : List Int) (a : Int) (T : List Int) : Prop where
  last : ∃ z, (a :: T).getLast? = some z ∧ z < 0 ∧ -(k.lv.length : Int) ≤ z ∧ Pth k (bitsF l) z a
  dep : (T.length : Int) ≤ dpM k.nd k.nd.length a
  node : ∀ (i : Nat) (z : Int), i < T.length → (a :: T)[i]? = some z → 0 ≤ z ∧ z < k.nd.length
  asks : ∀ (i : Nat) (z : Int), i < T.length → (a :: T)[i]? = some z → ∀ j : Nat, a = (j : Int) → Asks k.nd j (chF k z)
  once : ∀ (i j : Nat) (y z : Int), i < j → j < T.length → (a :: T)[i]? = some y → (a :: T)[j]? = some z → chF k y ≠ chF k z
theorem bits_get {st l : List Int} (h : specF st l = true) (hs : ∀ (j : Nat) (n : Int), st[j]? = some n → 2 ≤ n ∧ n ≤ 16) : bitsF l = l.map (fun x => (2 : Int) ^ x.toNat) ∧ ∀ (c : Nat) (s : Int), l[c]? = some s → 0 ≤ s ∧ s < 16 ∧ (bitsF l)[c]? = some (((2 ^ s.toNat : Nat)) : Int) := by
  have h1 := spec_ok h
  have hall : l.all stOk = true := List.all_eq_true.2 fun x hx => by
    obtain ⟨c, hc⟩ := List.getElem?_of_mem hx
    have hcl : c < st.length := by have := (List.getElem?_eq_some_iff.1 hc).1; have := h1.1; omega
    have h2 := h1.2 c _ x (List.getElem?_eq_getElem hcl) hc
    have h3 := hs c _ (List.getElem?_eq_getElem hcl)
    unfold stOk
    exact decide_eq_true (by omega)
  have e : bitsF l = l.map (fun x => (2 : Int) ^ x.toNat) := by unfold bitsF; rw [if_pos hall]
  refine ⟨e, fun c s hc => ?_⟩
  have h2 := List.all_eq_true.1 hall s (List.mem_of_getElem? hc)
  unfold stOk at h2
  have h3 := of_decide_eq_true h2
  exact ⟨h3.1, h3.2, by rw [e, List.getElem?_map, hc]; simp⟩
theorem tr_path {k : Kx} {st l : List Int} (hok : KOk st k) (hn : NoTw k) (hs : specF st l = true) (h1 : 1 ≤ k.lv.length) (hmay : ∀ r ∈ k.nd, r.may.length ≤ 1000) : ∀ (d : Nat) (a : Int), a < k.nd.length → -(k.lv.length : Int) ≤ a → (0 ≤ a → (k.nd.length : Int) < a + d) → TrP k l a (trF k l d a)
  | 0, a, h2, h3, h4 => by
    have ha : a < 0 := by
      by_cases h : a < 0
      · exact h
      · have := h4 (by omega); omega
    have hb := (dpM_bd (nd := k.nd) hmay k.nd.length (Nat.le_refl _) a).1
    exact ⟨⟨a, rfl, ha, h3, .nil⟩, by show ((0 : Nat) : Int) ≤ _; omega, fun i z hi => absurd hi (by unfold trF; simp), fun i z hi => absurd hi (by unfold trF; simp), fun i j y z _ hj => absurd hj (by unfold trF; simp)⟩
  | d + 1, a, h2, h3, h4 => by
    have hb := (dpM_bd (nd := k.nd) hmay k.nd.length (Nat.le_refl _) a).1
    by_cases h0 : a < 0
    · rw [tr_neg h0]
      exact ⟨⟨a, rfl, h0, h3, .nil⟩, by show ((0 : Nat) : Int) ≤ _; omega, fun i z hi => absurd hi (by simp), fun i z hi => absurd hi (by simp), fun i j y z _ hj => absurd hj (by simp)⟩
    · obtain ⟨i, rfl⟩ : ∃ i : Nat, a = (i : Int) := ⟨a.toNat, by omega⟩
      obtain ⟨r, hr⟩ : ∃ r, k.nd[i]? = some r := ⟨_, List.getElem?_eq_getElem (by omega)⟩
      obtain ⟨q1, q2, q3, q4⟩ := hok.nd i r hr
      have hsp := spec_ok hs
      obtain ⟨c, hc⟩ : ∃ c : Nat, r.nm = (c : Int) := ⟨r.nm.toNat, by omega⟩
      have hcs : c < st.length := by omega
      obtain ⟨s, hsc⟩ : ∃ s, l[c]? = some s := ⟨_, List.getElem?_eq_getElem (by have := hsp.1; omega)⟩
      obtain ⟨s0, s16, hbit⟩ := (bits_get hs hok.sv).2 c s hsc
      have hrg := hsp.2 c _ s (List.getElem?_eq_getElem hcs) hsc
      rw [hc, Int.toNat_natCast, List.getD_eq_getElem?_getD, List.getElem?_eq_getElem hcs, Option.getD_some] at q3
      obtain ⟨x, hx⟩ : ∃ x, r.may[s.toNat]? = some x := ⟨_, List.getElem?_eq_getElem (by omega)⟩
      obtain ⟨b1, b2, b3⟩ := q4 x (List.mem_of_getElem? hx)
      have hst : StepR k (bitsF l) (i : Int) x := ⟨i, s.toNat, 2 ^ s.toNat, r, rfl, hr, by rw [hc, Int.toNat_natCast]; exact hbit, pow_bit.2 rfl, hx⟩
      have e : trF k l (d + 1) (i : Int) = x :: trF k l d x := by
        obtain ⟨sn, rfl⟩ : ∃ n : Nat, s = (n : Int) := ⟨s.toNat, by omega⟩
        exact tr_node hr hc hsc hx
      have ih := tr_path hok hn hs h1 hmay d x b2 b1 (fun h => by have := b3 h; have := h4 (by omega); omega)
      rw [e]
      obtain ⟨z, z1, z2, z3, z4⟩ := ih.last
      have hch : chF k (i : Int) = r.nm := by unfold chF; rw [Int.toNat_natCast, List.getD_eq_getElem?_getD, hr]; rfl
      have hxn : ∀ j : Nat, x = (j : Int) → ∀ (p : Nat) (y : Int), p < (trF k l d x).length → (x :: trF k l d x)[p]? = some y → Asks k.nd j (chF k y) := fun j ej p y hp hy => ih.asks p y hp hy j ej
      have hnt : 0 < (trF k l d x).length → ∃ j : Nat, x = (j : Int) := fun h => by
        have := (ih.node 0 x h rfl).1
        exact ⟨x.toNat, by omega⟩
      refine ⟨⟨z, by rw [List.getLast?_cons_cons]; exact z1, z2, z3, .cons hst z4⟩, ?_, fun p y hp hy => ?_, fun p y hp hy j ej => ?_, fun p q y y2 hpq hq hy hy2 => ?_⟩
      · have h5 := dep_step (nd := k.nd) hr (List.mem_of_getElem? hx) (by by_cases h : x < 0; exact .inl h; exact .inr (b3 (by omega)))
        have h6 := ih.dep
        rw [List.length_cons]
        omega
      · cases p with
        | zero => injection hy with hy; subst hy; omega
        | succ p => exact ih.node p y (by simp at hp; omega) hy
      · obtain rfl : i = j := by omega
        cases p with
        | zero => injection hy with hy; subst hy; rw [hch]; exact .here hr
        | succ p =>
          have hp2 : p < (trF k l d x).length := by simp at hp; omega
          obtain ⟨j2, ej2⟩ := hnt (by omega)
          exact .on hr (by rw [← ej2]; exact List.mem_of_getElem? hx) (hxn j2 ej2 p y hp2 hy)
      · cases q with
        | zero => omega
        | succ q =>
          have hq2 : q < (trF k l d x).length := by simp at hq; omega
          cases p with
          | zero =>
            injection hy with hy; subst hy
            obtain ⟨j2, ej2⟩ := hnt (by omega)
            have ha := hxn j2 ej2 q y2 hq2 hy2
            have hne := hn i r hr j2 (by rw [← ej2]; exact List.mem_of_getElem? hx) _ ha
            rw [hch]
            intro e2
            exact hne (by rw [← e2])
          | succ p => exact ih.once p q y y2 (by omega) hq2 hy hy2
theorem foll_inc {m : Mx} {k : Kx} {l : List Int} (h : ckE m k = 0) (hl : setsF m.st l = true) : Inc (followL m k l) := by
  rw [(follow_ok h hl).2]
  refine fol_inc (fun L hL => ?_) _ (Nat.le_refl _)
  have hlv := (ck_ok h).2.1
  unfold leavesF at hlv
  rw [Bool.and_eq_true] at hlv
  exact (of_decide_eq_true (List.all_eq_true.1 hlv.1 L hL)).1
theorem trace_ok {m : Mx} {k : Kx} {l : List Int} (h : traceE m k l = 0) : ckE m k = 0 ∧ specF m.st l = true ∧ traceL m k l = begF k :: trF k l (k.nd.length + 1) (begF k) := by
  have h0 := h
  unfold traceE at h
  by_cases h1 : ckE m k = 0
  · rw [if_pos h1] at h
    by_cases h2 : specF m.st l = true
    · exact ⟨h1, h2, by unfold traceL; rw [if_pos h0]⟩
    · rw [if_neg h2] at h; cases h
  · rw [if_neg h1] at h; exact absurd h h1
/-- a specimen alone leads to the names of the leaf of its path -/
theorem paths_law {m : Mx} {k : Kx} {l : List Int} (h : traceE m k l = 0) (hk : KSm k) : ckE m k = 0 ∧ setsF m.st (bitsF l) = true ∧ followE m k (bitsF l) = 0 ∧ ∃ (N : Nat) (z : Int), (traceL m k l).length = N + 1 ∧ (N : Int) ≤ depC m k ∧ (traceL m k l)[N]? = some z ∧ z < 0 ∧ -(k.lv.length : Int) ≤ z ∧ k.lv[(-1 - z).toNat]? = some (followL m k (bitsF l)) ∧
    (∀ (i : Nat) (y : Int), i < N → (traceL m k l)[i]? = some y → 0 ≤ y ∧ y < k.nd.length) ∧ ∀ (i j : Nat) (y y2 : Int), i < j → j < N → (traceL m k l)[i]? = some y → (traceL m k l)[j]? = some y2 → chF k y ≠ chF k y2 := by
  obtain ⟨hck, hsp, ht⟩ := trace_ok h
  obtain ⟨hm, hlv, hok⟩ := ck_ok hck
  have h1 := leaves_one hlv
  obtain ⟨hb1, hb2⟩ := bits_get hsp hok.sv
  have hsl := spec_ok hsp
  have hset : setsF m.st (bitsF l) = true := by
    refine sets_mk2 (by rw [hb1, List.length_map]; exact hsl.1) fun c x n hx hn => ?_
    have hc := (List.getElem?_eq_some_iff.1 hn).1
    obtain ⟨s, hs⟩ : ∃ s, l[c]? = some s := ⟨_, List.getElem?_eq_getElem (by have := hsl.1; omega)⟩
    obtain ⟨s0, s1, s2⟩ := hb2 c s hs
    rw [hx] at s2; injection s2 with s2
    have hr := hsl.2 c n s hn hs
    obtain ⟨k', rfl⟩ : ∃ k' : Nat, n = (k' : Int) := ⟨n.toNat, by omega⟩
    have hst := st_range hm (List.mem_of_getElem? hn)
    have hp := Nat.pow_lt_pow_right (a := 2) (by omega) (show s.toNat < k' by omega)
    rw [full_nat]
    have e : ((2 : Int) ^ k') = ((2 ^ k' : Nat) : Int) := by simp
    have hp0 : 0 < 2 ^ s.toNat := Nat.two_pow_pos _
    omega
  have T := tr_path hok (no_twice hck) hsp h1 hk.2.2.1 (k.nd.length + 1) (begF k) (by unfold begF; split <;> omega) (by unfold begF; split <;> omega) (fun h => by omega)
  rw [ht]
  obtain ⟨TT, hTT⟩ : ∃ T, trF k l (k.nd.length + 1) (begF k) = T := ⟨_, rfl⟩
  rw [hTT] at T ⊢
  obtain ⟨z, z1, z2, z3, z4⟩ := T.last
  have hz : (begF k :: TT)[TT.length]? = some z := by
    rw [List.getLast?_eq_getElem?] at z1
    simpa using z1
  refine ⟨hck, hset, (follow_ok hck hset).1, TT.length, z, by simp, ?_, hz, z2, z3, ?_, T.node, T.once⟩
  · unfold depC
    rw [if_pos hck]
    have hd := T.dep
    by_cases h0 : k.nd.length = 0
    · have hl0 : TT.length = 0 := by
        cases hT : TT with
        | nil => rfl
        | cons x t =>
          have := T.node 0 (begF k) (by rw [hT]; simp) rfl
          omega
      have := (dpM_bd (nd := k.nd) hk.2.2.1 k.nd.length (Nat.le_refl _) 0).1
      omega
    · have hb : begF k = 0 := by unfold begF; rw [if_neg h0]
      rw [hb] at hd
      exact hd
  · have hj : (-1 - z).toNat < k.lv.length := by omega
    have hL : k.lv[(-1 - z).toNat]? = some k.lv[(-1 - z).toNat] := List.getElem?_eq_getElem hj
    rw [hL]
    congr 1
    have hinc : Inc k.lv[(-1 - z).toNat] := by
      have hlv2 := hlv
      unfold leavesF at hlv2
      rw [Bool.and_eq_true] at hlv2
      exact (of_decide_eq_true (List.all_eq_true.1 hlv2.1 _ (List.getElem_mem hj))).1
    refine inc_ext hinc (foll_inc hck hset) fun y => ?_
    rw [fol_iff hck hset]
    constructor
    · intro hy
      exact ⟨(-1 - z).toNat, _, by rw [show (-1 - (((-1 - z).toNat : Nat) : Int)) = z from by omega]; exact z4, hL, hy⟩
    · rintro ⟨j, L, hp, hjL, hy⟩
      have e := pth_det (fun i x hx => by
        have hi : i < l.length := by have := (List.getElem?_eq_some_iff.1 hx).1; rw [hb1, List.length_map] at this; exact this
        obtain ⟨_, _, s2⟩ := hb2 i _ (List.getElem?_eq_getElem hi)
        rw [hx] at s2; injection s2 with s2
        exact ⟨_, by exact_mod_cast s2⟩) hp z4 (by omega) z2
      have ej : (-1 - z).toNat = j := by omega
      have e5 : some k.lv[(-1 - z).toNat] = some L := by rw [← hL, ej]; exact hjL
      injection e5 with e5
      rw [e5]; exact hy
/-- with more excluded a key leads to no further name -/
theorem more_law {m : Mx} {k : Kx} {a b : List Int} (h : followE m k a = 0) (hb : bothE m a b = 0) : followE m k (bothL m a b) = 0 ∧ partF (followL m k (bothL m a b)) (followL m k a) = true := by
  have hck : ckE m k = 0 := by
    unfold followE at h
    by_cases h0 : ckE m k = 0
    · exact h0
    · rw [if_neg h0] at h; exact absurd h h0
  obtain ⟨h1, h2, _⟩ := both_rem hb
  obtain ⟨hm, ha⟩ := seen_ok h1
  obtain ⟨_, hq⟩ := seen_ok h2
  refine ⟨(follow_ok hck hq).1, ?_⟩
  unfold partF
  rw [List.all_eq_true]
  intro z hz
  obtain ⟨j, L, hp, hj, hzL⟩ := (fol_iff hck hq z).1 hz
  refine has_iff.2 ((fol_iff hck ha z).2 ⟨j, L, pth_mono (fun i x s hx hs => ?_) hp, hj, hzL⟩)
  have hbl : bothL m a b = List.zipWith meetF a b := by unfold bothL; rw [if_pos hb]
  rw [hbl, List.getElem?_zipWith] at hx
  have hsb : setsF m.st b = true := by
    have h0 : seenE m [a, b] = 0 := by
      unfold bothE at hb
      split at hb
      · assumption
      · rename_i hne; exact absurd hb hne
    rw [seen2 hm] at h0
    split at h0
    · rename_i h3; exact h3.2
    · cases h0
  cases hx1 : a[i]? with
  | none => rw [hx1] at hx; simp at hx
  | some u =>
    cases hx2 : b[i]? with
    | none => rw [hx1, hx2] at hx; simp at hx
    | some v =>
      rw [hx1, hx2] at hx
      simp only [Option.some.injEq] at hx
      have r1 := sets_range hm ha hx1
      have r2 := sets_range hm hsb hx2
      obtain ⟨un, rfl⟩ : ∃ n : Nat, u = (n : Int) := ⟨u.toNat, by omega⟩
      obtain ⟨vn, rfl⟩ : ∃ n : Nat, v = (n : Int) := ⟨v.toNat, by omega⟩
      rw [meet_nat (by omega) (by omega)] at hx
      have e : x = un &&& vn := by omega
      subst e
      rw [← bit_iff, Nat.testBit_and, Bool.and_eq_true] at hs
      exact ⟨un, rfl, (bit_iff _ _).1 hs.1⟩
end Go.Ky
