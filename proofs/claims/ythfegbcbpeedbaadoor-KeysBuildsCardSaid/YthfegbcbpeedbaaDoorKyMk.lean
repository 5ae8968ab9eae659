/- The reference's builder makes what the program makes: the mathematics. -/
import Derived.Test.YthfegbcbpeedbaaDoorKyMu
namespace Go.Ky
open Go.Nm
def fullK (k : Kx) : Bool := decide (1000 < k.nd.length ∨ 1000 < k.lv.length)
mutual
/-- what the reference makes -/
def makeF (m : Mx) : Nat → List Int → Kx → Kx × Int
  | 0, _, k => (k, 0)
  | d + 1, l, k =>
    if fullK k = true then (k, 0)
    else if (charF (remL m.rows l) l).2.1 = true then
      let st := (List.range (m.st.getD (charF (remL m.rows l) l).1.toNat 0).toNat).foldl (fun (st : Kx × List Int) s =>
        (let g := makeF m d (l.set (charF (remL m.rows l) l).1.toNat (2 ^ s)) st.1; (g.1, st.2 ++ [g.2]))) (⟨k.nd ++ [⟨(charF (remL m.rows l) l).1, []⟩], k.lv⟩, [])
      (⟨st.1.nd.set k.nd.length ⟨(charF (remL m.rows l) l).1, st.2⟩, st.1.lv⟩, (k.nd.length : Int))
    else (⟨k.nd, k.lv ++ [(remL m.rows l).map (·.nm)]⟩, -1 - (k.lv.length : Int))
end
def mStep (m : Mx) (d : Nat) (l : List Int) (c : Nat) (st : Kx × List Int) (s : Nat) : Kx × List Int := ((makeF m d (l.set c (2 ^ s)) st.1).1, st.2 ++ [(makeF m d (l.set c (2 ^ s)) st.1).2])
def mAll (m : Mx) (d : Nat) (l : List Int) (c : Nat) (k : Kx) (n : Nat) : Kx × List Int := (List.range n).foldl (mStep m d l c) (⟨k.nd ++ [⟨(c : Int), []⟩], k.lv⟩, [])
theorem mAll_zero (m : Mx) (d : Nat) (l : List Int) (c : Nat) (k : Kx) : mAll m d l c k 0 = (⟨k.nd ++ [⟨(c : Int), []⟩], k.lv⟩, []) := rfl
theorem mAll_succ (m : Mx) (d : Nat) (l : List Int) (c : Nat) (k : Kx) (s : Nat) : mAll m d l c k (s + 1) = mStep m d l c (mAll m d l c k s) s := by
  unfold mAll; rw [List.range_succ, List.foldl_append]; rfl
theorem make_full {m : Mx} {d : Nat} {l : List Int} {k : Kx} (h : fullK k = true) : makeF m d l k = (k, 0) := by
  cases d with
  | zero => rfl
  | succ d => unfold makeF; rw [if_pos h]
theorem make_node {m : Mx} {d c : Nat} {l : List Int} {k : Kx} (h0 : fullK k = false) (h : (charF (remL m.rows l) l).2.1 = true) (hc : (charF (remL m.rows l) l).1 = (c : Int)) : makeF m (d + 1) l k =
    (⟨(mAll m d l c k (m.st.getD c 0).toNat).1.nd.set k.nd.length ⟨(c : Int), (mAll m d l c k (m.st.getD c 0).toNat).2⟩, (mAll m d l c k (m.st.getD c 0).toNat).1.lv⟩, (k.nd.length : Int)) := by
  unfold makeF
  rw [if_neg (by rw [h0]; simp), if_pos h, hc, Int.toNat_natCast]
  rfl
theorem make_leaf {m : Mx} {d : Nat} {l : List Int} {k : Kx} (h0 : fullK k = false) (h : (charF (remL m.rows l) l).2.1 = false) : makeF m (d + 1) l k = (⟨k.nd, k.lv ++ [(remL m.rows l).map (·.nm)]⟩, -1 - (k.lv.length : Int)) := by
  unfold makeF
  rw [if_neg (by rw [h0]; simp), if_neg (by rw [h]; simp)]
theorem full_set {a b : List Rw} {x : List (List Int)} (h : a.length = b.length) : fullK ⟨a, x⟩ = fullK ⟨b, x⟩ := by unfold fullK; simp only [h]
theorem make_up {m : Mx} {d : Nat} {l : List Int} {k : Kx} (h : fullK (makeF m d l k).1 = false) : fullK k = false := by
  cases e : fullK k with
  | false => rfl
  | true => rw [make_full e, e] at h; cases h
theorem mAll_up {m : Mx} {d : Nat} {l : List Int} {c : Nat} {k : Kx} {s : Nat} (h : fullK (mAll m d l c k (s + 1)).1 = false) : fullK (mAll m d l c k s).1 = false := by
  rw [mAll_succ] at h
  exact make_up h
/-- a useful character that is asked is undecided: what is left to decide becomes less -/
theorem char_node {m : Mx} (hm : mxF m = true) {l : List Int} (hk : Kn m.st l) (h : (charF (remL m.rows l) l).2.1 = true) : ∃ (c : Nat) (n : Int), (charF (remL m.rows l) l).1 = (c : Int) ∧ m.st[c]? = some n ∧ l[c]? = some (full n) ∧ ∀ s : Nat, (s : Int) < n → und (l.set c (2 ^ s)) + 1 = und l := by
  obtain ⟨c, hcl, hc, hus⟩ := best_ok (L := remL m.rows l) (l := l) (P := fun c => usefulF (remL m.rows l) c (l.getD c 0)) l.length h
  have hcs : c < m.st.length := by have := hk.1; omega
  have hn : m.st[c]? = some m.st[c] := List.getElem?_eq_getElem hcs
  have hst := st_range hm (List.mem_of_getElem? hn)
  obtain ⟨x, hx⟩ : ∃ x, l[c]? = some x := ⟨_, List.getElem?_eq_getElem hcl⟩
  have hx1 : 1 ≤ x ∧ x ≤ 65535 := by
    rcases hk.2 c _ hn with e | ⟨t, ht, e⟩
    · rw [hx] at e; injection e with e; subst e
      obtain ⟨q, hq, h2, _, hfv, hfv2⟩ := full_val hst
      rw [hfv]
      have h4 : 2 ^ 1 ≤ 2 ^ q := Nat.pow_le_pow_right (by omega) (by omega)
      omega
    · rw [hx] at e; injection e with e; subst e
      have := pow_rng (s := t) (by omega)
      omega
  rw [List.getD_eq_getElem?_getD, hx] at hus
  have hund := useful_und (L := remL m.rows l) (c := c) (x := x) hx1 (fun r hr => by
    have hr2 := List.mem_filter.1 hr
    have hms := may_sets hm hr2.1
    obtain ⟨y, hy⟩ : ∃ y, r.may[c]? = some y := ⟨_, List.getElem?_eq_getElem (by rw [sets_len hms]; exact hcs)⟩
    have hyr := sets_range hm hms hy
    exact ⟨y, hy, hyr.1, hyr.2, fits_iff.1 hr2.2 c y _ hy hx⟩) hus
  refine ⟨c, _, hc, hn, ?_, fun s hs => und_set l c x _ hx hund (dec_pow (by omega))⟩
  rcases hk.2 c _ hn with e | ⟨t, ht, e⟩
  · exact e
  · rw [hx] at e; injection e with e; subst e
    rw [dec_pow (by omega)] at hund; cases hund
theorem make_grow {m : Mx} (hm : mxF m = true) : ∀ (d : Nat) (l : List Int) (k : Kx), Kn m.st l → und l < d → fullK (makeF m d l k).1 = false → growF m d (remL m.rows l) l k = ((makeF m d l k).1, (makeF m d l k).2, 0) := by
  intro d
  induction d with
  | zero => intro l k _ h; omega
  | succ d ih =>
    intro l k hk hd hf
    have h0 := make_up hf
    cases hch : (charF (remL m.rows l) l).2.1 with
    | true =>
      obtain ⟨c, n, hc, hn, hlc, hun⟩ := char_node hm hk hch
      rw [make_node h0 hch hc] at hf ⊢
      rw [grow_node hch hc]
      have e1 : (m.st.getD c 0).toNat = n.toNat := by rw [List.getD_eq_getElem?_getD, hn]; rfl
      rw [e1] at hf ⊢
      have hf2 : fullK (mAll m d l c k n.toNat).1 = false := by
        rw [← hf]; exact full_set (by rw [List.length_set])
      have hst := st_range hm (List.mem_of_getElem? hn)
      have key : ∀ s : Nat, (s : Int) ≤ n → fullK (mAll m d l c k s).1 = false → gAll m d (remL m.rows l) l c k s = ((mAll m d l c k s).1, (mAll m d l c k s).2, 0) := by
        intro s
        induction s with
        | zero => intro _ _; rfl
        | succ s ihs =>
          intro hs hfs
          have hfp := mAll_up hfs
          have h1 := ihs (by omega) hfp
          rw [mAll_succ] at hfs ⊢
          rw [gAll_succ, h1]
          have hks := kn_set hk hn (show (s : Int) < n by omega)
          have hre := rem_set hm hn hlc (show (s : Int) < n by omega)
          have hu := hun s (by omega)
          have h2 := ih (l.set c (2 ^ s)) (mAll m d l c k s).1 hks (by omega) hfs
          unfold gStep mStep
          rw [if_pos rfl, hre, h2, if_pos rfl]
      rw [key n.toNat (by omega) hf2, if_pos rfl]
    | false =>
      rw [make_leaf h0 hch] at hf ⊢
      rw [grow_leaf hch]
      have h1 : k.lv.length ≠ 1000 := by
        intro e
        unfold fullK at hf
        simp [e] at hf
      rw [if_neg h1]
theorem grow_make {m : Mx} (hm : mxF m = true) : ∀ (d : Nat) (l : List Int) (k : Kx), Kn m.st l → (growF m d (remL m.rows l) l k).2.2 = 0 → (growF m d (remL m.rows l) l k).1.nd.length ≤ 1000 → (growF m d (remL m.rows l) l k).1.lv.length ≤ 1000 → makeF m d l k = ((growF m d (remL m.rows l) l k).1, (growF m d (remL m.rows l) l k).2.1) := by
  have hst2 : ∀ (c : Nat) (n : Int), m.st[c]? = some n → 2 ≤ n := fun c n h => (st_range hm (List.mem_of_getElem? h)).1
  intro d
  induction d with
  | zero => intro l k _ h; cases h
  | succ d ih =>
    intro l k hk h0 hn1 hl1
    have hgr := grK hst2 (d + 1) (remL m.rows l) l k hk.1
    have hnf : fullK k = false := by
      have h1 := hgr.nle
      have h2 := hgr.lle
      unfold fullK
      exact decide_eq_false (by omega)
    cases hch : (charF (remL m.rows l) l).2.1 with
    | true =>
      obtain ⟨c, n, hc, hn, hlc, hun⟩ := char_node hm hk hch
      rw [make_node hnf hch hc]
      rw [grow_node hch hc] at h0 hn1 hl1 ⊢
      have e1 : (m.st.getD c 0).toNat = n.toNat := by rw [List.getD_eq_getElem?_getD, hn]; rfl
      rw [e1] at h0 hn1 hl1 ⊢
      have hst := st_range hm (List.mem_of_getElem? hn)
      by_cases hs0 : (gAll m d (remL m.rows l) l c k n.toNat).2.2 = 0
      · rw [if_pos hs0] at hn1 hl1 ⊢
        have hn2 : (gAll m d (remL m.rows l) l c k n.toNat).1.nd.length ≤ 1000 := by
          have : ((gAll m d (remL m.rows l) l c k n.toNat).1.nd.set k.nd.length ⟨(c : Int), (gAll m d (remL m.rows l) l c k n.toNat).2.1⟩).length ≤ 1000 := hn1
          rw [List.length_set] at this; exact this
        have hl2 : (gAll m d (remL m.rows l) l c k n.toNat).1.lv.length ≤ 1000 := hl1
        have key : ∀ s : Nat, (s : Int) ≤ n → (gAll m d (remL m.rows l) l c k s).2.2 = 0 → (gAll m d (remL m.rows l) l c k s).1.nd.length ≤ 1000 → (gAll m d (remL m.rows l) l c k s).1.lv.length ≤ 1000 → mAll m d l c k s = ((gAll m d (remL m.rows l) l c k s).1, (gAll m d (remL m.rows l) l c k s).2.1) := by
          intro s
          induction s with
          | zero => intro _ _ _ _; rfl
          | succ s ihs =>
            intro hs g0 g1 g2
            rw [gAll_succ] at g0 g1 g2 ⊢
            obtain ⟨st, hste⟩ : ∃ st, gAll m d (remL m.rows l) l c k s = st := ⟨_, rfl⟩
            rw [hste] at g0 g1 g2 ihs ⊢
            have hks := kn_set hk hn (show (s : Int) < n by omega)
            have hre := rem_set hm hn hlc (show (s : Int) < n by omega)
            unfold gStep at g0 g1 g2 ⊢
            by_cases e : st.2.2 = 0
            · rw [if_pos e, hre] at g0 g1 g2 ⊢
              have hg := grK hst2 d (remL m.rows (l.set c (2 ^ s))) (l.set c (2 ^ s)) st.1 hks.1
              have hih := ih (l.set c (2 ^ s)) st.1 hks
              obtain ⟨g, hgg⟩ : ∃ g, growF m d (remL m.rows (l.set c (2 ^ s))) (l.set c (2 ^ s)) st.1 = g := ⟨_, rfl⟩
              rw [hgg] at g0 g1 g2 hg hih ⊢
              by_cases e2 : g.2.2 = 0
              · rw [if_pos e2] at g1 g2 ⊢
                have g3 : g.1.nd.length ≤ 1000 := g1
                have g4 : g.1.lv.length ≤ 1000 := g2
                have h1 := hg.nle
                have h2 := hg.lle
                have h3 := ihs (by omega) e (by omega) (by omega)
                rw [mAll_succ, h3]
                unfold mStep
                rw [hih e2 g3 g4]
              · rw [if_neg e2] at g0; exact absurd g0 e2
            · rw [if_neg e] at g0; exact absurd g0 e
        rw [key n.toNat (by omega) hs0 hn2 hl2]
      · rw [if_neg hs0] at h0; exact absurd h0 hs0
    | false =>
      rw [make_leaf hnf hch]
      rw [grow_leaf hch] at h0 ⊢
      split at h0
      · cases h0
      · rename_i h1
        rw [if_neg h1]
/-- the reference's Build and the program's -/
theorem make_build {m : Mx} (hm : mxF m = true) : (buildE m = if fullK (makeF m 65 (m.st.map full) ⟨[], []⟩).1 = true then 2 else 0) ∧ (fullK (makeF m 65 (m.st.map full) ⟨[], []⟩).1 = false → buildK m = (makeF m 65 (m.st.map full) ⟨[], []⟩).1) := by
  have hkn := kn_full m
  have hlen := (chr_ok (mx_chr hm)).2.1
  have hu : und (m.st.map full) < 65 := by
    have := und_le (m.st.map full)
    rw [List.length_map] at this; omega
  have hE : buildE m = (buildG m).2.2 := by unfold buildE; rw [if_pos hm]
  cases hf : fullK (makeF m 65 (m.st.map full) ⟨[], []⟩).1 with
  | false =>
    have h1 := make_grow hm 65 (m.st.map full) ⟨[], []⟩ hkn hu hf
    rw [rem_full hm] at h1
    have h2 : buildG m = _ := h1
    have h3 : buildE m = 0 := by rw [hE, h2]
    refine ⟨by rw [h3]; rfl, fun _ => ?_⟩
    unfold buildK
    rw [if_pos h3, h2]
  | true =>
    refine ⟨?_, fun h => by cases h⟩
    rw [if_pos rfl]
    rcases build_cs m with h0 | h0 | h0
    · exfalso
      have hb := build_bd h0
      have hk : buildK m = (buildG m).1 := by unfold buildK; rw [if_pos h0]
      have h1 := hb.slk
      have h2 := hb.max
      rw [hk] at h1 h2
      have h3 := grow_make hm 65 (m.st.map full) ⟨[], []⟩ hkn
      rw [rem_full hm] at h3
      have h4 : makeF m 65 (m.st.map full) ⟨[], []⟩ = ((buildG m).1, (buildG m).2.1) := h3 (by rw [hE] at h0; exact h0) (by show (buildG m).1.nd.length ≤ 1000; omega) h2
      rw [h4] at hf
      unfold fullK at hf
      have h6 : 1000 < (buildG m).1.nd.length ∨ 1000 < (buildG m).1.lv.length := of_decide_eq_true hf
      omega
    · exact h0
    · exfalso
      unfold buildE at h0
      rw [if_pos hm] at h0
      rcases grow_cs (m := m) 65 m.rows (m.st.map full) ⟨[], []⟩ with h | h
      · have h5 : (buildG m).2.2 = 0 := h
        omega
      · have h5 : (buildG m).2.2 = 2 := h
        omega
end Go.Ky
