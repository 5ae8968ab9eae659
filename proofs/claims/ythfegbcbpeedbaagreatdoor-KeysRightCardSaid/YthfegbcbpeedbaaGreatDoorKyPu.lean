
/- Right keys: what the law asks. -/
import Derived.Test.YthfegbcbpeedbaaGreatDoorKyRy
import Derived.Test.YthfegbcbpeedbaaGreatDoorKyUn
import Derived.Test.YthfegbcbpeedbaaGreatDoorKyOo
import Derived.Test.YthfegbcbpeedbaaGreatDoorKyFm
import Derived.Test.YthfegbcbpeedbaaGreatDoorKyOv
namespace Go.Ky
open Go.Nm
theorem or_u64 {x y : Nat} (hx : x < 18446744073709551616) (hy : y < 18446744073709551616) : orF (x : Int) (y : Int) = ((x ||| y : Nat) : Int) := by
  have h : (BitVec.ofInt 64 (x : Int) ||| BitVec.ofInt 64 (y : Int)).toNat = x ||| y := by rw [BitVec.toNat_or, ofInt_nat hx, ofInt_nat hy]
  show IntKind.u64.wrap ((BitVec.ofInt 64 (x : Int) ||| BitVec.ofInt 64 (y : Int)).toNat : Int) = _
  rw [h]
  exact wrap_u64 (Nat.or_lt_two_pow (n := 64) hx hy)
theorem okU.nat {a : Int} (h : okU a) : ∃ n : Nat, a = (n : Int) ∧ n < 18446744073709551616 := ⟨a.toNat, by have := h.1; omega, by have := h.1; have := h.2; omega⟩
theorem or_bit {a b : Int} (ha : okU a) (hb : okU b) (c : Nat) : (orF a b).toNat.testBit c = (a.toNat.testBit c || b.toNat.testBit c) := by
  obtain ⟨x, rfl, hx⟩ := ha.nat
  obtain ⟨y, rfl, hy⟩ := hb.nat
  rw [or_u64 hx hy]
  simp only [Int.toNat_natCast, Nat.testBit_or]
theorem fold_bit {f : Int → Int} (hf : ∀ x, okU (f x)) (c : Nat) : ∀ (l : List Int) (a : Int), okU a → okU (l.foldl (fun a x => orF a (f x)) a) ∧ (l.foldl (fun a x => orF a (f x)) a).toNat.testBit c = (a.toNat.testBit c || l.any fun x => (f x).toNat.testBit c)
  | [], a, ha => ⟨ha, by simp⟩
  | x :: l, a, ha => by
    obtain ⟨h1, h2⟩ := fold_bit hf c l (orF a (f x)) (or_ok _ _)
    refine ⟨h1, ?_⟩
    rw [List.foldl_cons, h2, or_bit ha (hf x), List.any_cons, Bool.or_assoc]
theorem ask_bit {f : Int → Int} (hf : ∀ x, okU (f x)) (r : Rw) (c : Nat) : okU (askOne r f) ∧ (askOne r f).toNat.testBit c = r.may.any fun x => (f x).toNat.testBit c := by
  have h := fold_bit hf c r.may 0 (by unfold okU; omega)
  unfold askOne
  exact ⟨h.1, by rw [h.2]; simp⟩
theorem pow_ok {c : Nat} (h : c < 64) : okU ((2 : Int) ^ c) ∧ ((2 : Int) ^ c).toNat = 2 ^ c := by
  have e : ((2 : Int) ^ c) = ((2 ^ c : Nat) : Int) := by simp
  have h2 : 2 ^ c < 2 ^ 64 := Nat.pow_lt_pow_right (by omega) h
  rw [e]
  generalize 2 ^ c = p at *
  unfold okU
  exact ⟨⟨by omega, by omega⟩, by simp⟩
theorem and_bit {a : Int} (ha : okU a) {c : Nat} (hc : c < 64) (h : andF a (2 ^ c) = 0) : a.toNat.testBit c = false := by
  obtain ⟨x, rfl, hx⟩ := ha.nat
  have e : ((2 : Int) ^ c) = ((2 ^ c : Nat) : Int) := by simp
  have hp : 2 ^ c < 18446744073709551616 := Nat.pow_lt_pow_right (a := 2) (n := 64) (by omega) hc
  have h1 : andF (x : Int) (2 ^ c) = ((x &&& 2 ^ c : Nat) : Int) := by rw [e]; exact and_u64 hx hp
  rw [h1] at h
  have h2 : x &&& 2 ^ c = 0 := by omega
  have h3 : (x &&& 2 ^ c).testBit c = false := by rw [h2]; simp
  rw [Nat.testBit_and, Nat.testBit_two_pow_self, Bool.and_true] at h3
  rw [Int.toNat_natCast]; exact h3
/-- a character is asked at a node, or behind it -/
inductive Asks (nd : List Rw) : Nat → Int → Prop
  | here {i : Nat} {r : Rw} : nd[i]? = some r → Asks nd i r.nm
  | on {i j : Nat} {r : Rw} {c : Int} : nd[i]? = some r → (j : Int) ∈ r.may → Asks nd j c → Asks nd i c
theorem Asks.lt {nd : List Rw} {i : Nat} {c : Int} (h : Asks nd i c) : i < nd.length := by
  cases h with
  | here h => exact (List.getElem?_eq_some_iff.1 h).1
  | on h => exact (List.getElem?_eq_some_iff.1 h).1
theorem Asks.nn {nd : List Rw} (hr : ∀ (i : Nat) (r : Rw), nd[i]? = some r → 0 ≤ r.nm) {i : Nat} {c : Int} (h : Asks nd i c) : 0 ≤ c := by
  induction h with
  | here h => exact hr _ _ h
  | on _ _ _ ih => exact ih
theorem ask_all {nd : List Rw} (hr : ∀ (i : Nat) (r : Rw), nd[i]? = some r → 0 ≤ r.nm ∧ r.nm < 64 ∧ ∀ x ∈ r.may, x < nd.length ∧ (0 ≤ x → (i : Int) < x)) : ∀ t, t ≤ nd.length → (askM nd t).2 = false → (∀ x, okU ((askM nd t).1 x)) ∧ ∀ i : Nat, nd.length - t ≤ i → (∀ c : Int, Asks nd i c → ((askM nd t).1 i).toNat.testBit c.toNat = true) ∧ ∀ r, nd[i]? = some r → ∀ j : Nat, (j : Int) ∈ r.may → ¬ Asks nd j r.nm
  | 0, _, _ => by
    refine ⟨fun x => by show okU 0; unfold okU; omega, fun i hi => ⟨fun c h => ?_, fun r h => ?_⟩⟩
    · have := h.lt; omega
    · have := (List.getElem?_eq_some_iff.1 h).1; omega
  | t + 1, ht, h => by
    have h0 : (askM nd t).2 = false := by
      cases e : (askM nd t).2 with
      | false => rfl
      | true => have := ask_mono e 1; rw [h] at this; cases this
    obtain ⟨h1, h2⟩ := ask_all hr t (by omega) h0
    obtain ⟨i0, hi0⟩ : ∃ i0, i0 + t + 1 = nd.length := ⟨nd.length - 1 - t, by omega⟩
    obtain ⟨r0, hr0⟩ : ∃ r, nd[i0]? = some r := ⟨_, List.getElem?_eq_getElem (by omega)⟩
    have hn := ask_next h0 hi0 hr0
    obtain ⟨q0, q1, q2⟩ := hr i0 r0 hr0
    have hc0 : r0.nm.toNat < 64 := by omega
    rw [hn] at h ⊢
    unfold askStep at h ⊢
    by_cases hc : andF (askOne r0 (askM nd t).1) (2 ^ r0.nm.toNat) = 0
    · rw [if_neg (fun hx => hx hc)]
      have hz := and_bit (ask_bit h1 r0 0).1 hc0 hc
      rw [(ask_bit h1 r0 _).2] at hz
      have no : ∀ j : Nat, (j : Int) ∈ r0.may → ¬ Asks nd j r0.nm := fun j hj ha => by
        have hj2 := q2 _ hj
        have h3 := (h2 j (by omega)).1 _ ha
        exact (List.any_eq_false.1 hz _ hj) h3
      refine ⟨fun x => ?_, fun i hi => ?_⟩
      · show okU (if x = (i0 : Int) then _ else _)
        split
        · exact or_ok _ _
        · exact h1 x
      · by_cases e : i = i0
        · subst e
          refine ⟨fun c ha => ?_, fun r hr1 j hj => ?_⟩
          · show (if ((i : Nat) : Int) = (i : Int) then _ else _ : Int).toNat.testBit _ = true
            rw [if_pos rfl, or_bit (ask_bit h1 r0 0).1 (pow_ok hc0).1, (pow_ok hc0).2, (ask_bit h1 r0 _).2]
            cases ha with
            | here hr1 => rw [hr0] at hr1; injection hr1 with e; subst e; rw [Nat.testBit_two_pow_self]; simp
            | on hr1 hj hj2 =>
              rw [hr0] at hr1; injection hr1 with e; subst e
              have h3 := q2 _ hj
              have h4 := (h2 _ (by omega)).1 _ hj2
              rw [Bool.or_eq_true]
              exact .inl (List.any_eq_true.2 ⟨_, hj, h4⟩)
          · rw [hr0] at hr1; injection hr1 with e; subst e
            exact no j hj
        · have h3 := h2 i (by omega)
          refine ⟨fun c ha => ?_, h3.2⟩
          show (if (i : Int) = (i0 : Int) then _ else _ : Int).toNat.testBit _ = true
          rw [if_neg (by omega)]
          exact h3.1 c ha
    · rw [if_pos hc] at h; cases h
/-- no path asks a character twice -/
def NoTw (k : Kx) : Prop := ∀ (i : Nat) (r : Rw), k.nd[i]? = some r → ∀ j : Nat, (j : Int) ∈ r.may → ∀ c, Asks k.nd j c → c.toNat ≠ r.nm.toNat
theorem no_twice {m : Mx} {k : Kx} (h : ckE m k = 0) : NoTw k := by
  have hok := (ck_ok h).2.2
  have ht : twiceF k.nd = false := by
    unfold ckE at h
    rw [if_pos (ck_ok h).1] at h
    cases e : twiceF k.nd with
    | false => rfl
    | true => rw [e] at h; simp at h
  have hall := ask_all (nd := k.nd) (fun i r hr => by
    obtain ⟨h1, h2, h3, h4⟩ := hok.nd i r hr
    have := hok.len
    exact ⟨h1, by omega, fun x hx => (h4 x hx).2⟩) k.nd.length (Nat.le_refl _) ht
  intro i r hr j hj c ha e
  have h1 := ha.nn (fun i r hr => (hok.nd i r hr).1)
  have h2 := (hok.nd i r hr).1
  have e2 : c = r.nm := by omega
  subst e2
  exact (hall.2 i (by omega)).2 r hr j hj ha
/-- a path to z -/
inductive Pth (k : Kx) (seen : List Int) (z : Int) : Int → Prop
  | nil : Pth k seen z z
  | cons {a b : Int} : StepR k seen a b → Pth k seen z b → Pth k seen z a
theorem Pth.snoc {k : Kx} {seen : List Int} {a b z : Int} (h : Pth k seen b a) (st : StepR k seen b z) : Pth k seen z a := by
  induction h with
  | nil => exact .cons st .nil
  | cons s _ ih => exact .cons s ih
theorem rch_pth {k : Kx} {seen : List Int} {z : Int} : Rch k seen z ↔ Pth k seen z (begF k) := by
  constructor
  · intro h
    induction h with
    | beg => exact .nil
    | step _ st ih => exact ih.snoc st
  · intro h
    have go : ∀ a, Pth k seen z a → Rch k seen a → Rch k seen z := by
      intro a h
      induction h with
      | nil => exact id
      | cons st _ ih => exact fun hr => ih (.step hr st)
    exact go _ h .beg
theorem pth_free {k : Kx} {seen seen' : List Int} {c : Nat} (ho : ∀ i, i ≠ c → seen'[i]? = seen[i]?) {z a : Int} (h : Pth k seen z a) : (∀ i : Nat, a = (i : Int) → ∀ c', Asks k.nd i c' → c'.toNat ≠ c) → Pth k seen' z a := by
  induction h with
  | nil => exact fun _ => .nil
  | cons st hp ih =>
    intro hn
    obtain ⟨i, s, x, r, rfl, hr, hx, hb, hz⟩ := st
    have hne : r.nm.toNat ≠ c := hn i rfl _ (.here hr)
    exact .cons ⟨i, s, x, r, rfl, hr, (ho _ hne).trans hx, hb, hz⟩ (ih fun j e c' ha => hn i rfl c' (.on hr (by rw [← e]; exact List.mem_of_getElem? hz) ha))
theorem pth_mono {k : Kx} {seen seen' : List Int} (ho : ∀ (i x s : Nat), seen[i]? = some (x : Int) → x / 2 ^ s % 2 = 1 → ∃ y : Nat, seen'[i]? = some (y : Int) ∧ y / 2 ^ s % 2 = 1) {z a : Int} (h : Pth k seen z a) : Pth k seen' z a := by
  induction h with
  | nil => exact .nil
  | cons st _ ih =>
    obtain ⟨i, s, x, r, rfl, hr, hx, hb, hz⟩ := st
    obtain ⟨y, hy, hb2⟩ := ho _ _ _ hx hb
    exact .cons ⟨i, s, y, r, rfl, hr, hy, hb2, hz⟩ ih
theorem pow_bit {s t : Nat} : (2 ^ s) / 2 ^ t % 2 = 1 ↔ s = t := by
  rw [← bit_iff, Nat.testBit_two_pow, decide_eq_true_eq]
/-- a path asks for one state of a character alone -/
theorem narrow {k : Kx} {st : List Int} (hok : KOk st k) (hk : NoTw k) {seen : List Int} {c x : Nat} (hx : seen[c]? = some (x : Int)) (hx0 : ∃ s, s < 16 ∧ x / 2 ^ s % 2 = 1) {z a : Int} (h : Pth k seen z a) : ∃ s, s < 16 ∧ x / 2 ^ s % 2 = 1 ∧ Pth k (seen.set c (2 ^ s)) z a := by
  have hcl := (List.getElem?_eq_some_iff.1 hx).1
  induction h with
  | nil => obtain ⟨s, h1, h2⟩ := hx0; exact ⟨s, h1, h2, .nil⟩
  | cons stp hp ih =>
    obtain ⟨i, s, x', r, rfl, hr, hx', hb, hz⟩ := stp
    by_cases e : r.nm.toNat = c
    · subst e
      rw [hx] at hx'; injection hx' with hx'
      obtain rfl : x = x' := by omega
      have hs : s < 16 := by
        have h1 := (List.getElem?_eq_some_iff.1 hz).1
        obtain ⟨q1, q2, q3, _⟩ := hok.nd i r hr
        have h2 := hok.sv r.nm.toNat _ (List.getElem?_eq_getElem (show r.nm.toNat < st.length by omega))
        rw [List.getD_eq_getElem?_getD, List.getElem?_eq_getElem (show r.nm.toNat < st.length by omega)] at q3
        simp only [Option.getD_some] at q3
        omega
      refine ⟨s, hs, hb, .cons ⟨i, s, 2 ^ s, r, rfl, hr, by rw [List.getElem?_set_self hcl]; simp, pow_bit.2 rfl, hz⟩ (pth_free (c := r.nm.toNat) (fun j hj => List.getElem?_set_ne (fun h => hj h.symm)) hp fun j ej c' ha => hk i r hr j (by rw [← ej]; exact List.mem_of_getElem? hz) c' ha)⟩
    · obtain ⟨s', h1, h2, h3⟩ := ih
      exact ⟨s', h1, h2, .cons ⟨i, s, x', r, rfl, hr, by rw [List.getElem?_set_ne (fun h => e h.symm)]; exact hx', hb, hz⟩ h3⟩
/-- a specimen has one path -/
theorem pth_det {k : Kx} {seen : List Int} (hs : ∀ (i x : Nat), seen[i]? = some (x : Int) → ∃ s, x = 2 ^ s) {z a : Int} (h : Pth k seen z a) : ∀ {z'}, Pth k seen z' a → z < 0 → z' < 0 → z = z' := by
  induction h with
  | nil =>
    intro z' h2 hz _
    cases h2 with
    | nil => rfl
    | cons st _ => have := step_node st; omega
  | cons st hp ih =>
    intro z' h2 hz hz'
    cases h2 with
    | nil => have := step_node st; omega
    | cons st' hp' =>
      obtain ⟨i, s, x, r, rfl, hr, hx, hb, hn⟩ := st
      obtain ⟨i2, s2, x2, r2, e, hr2, hx2, hb2, hn2⟩ := st'
      obtain rfl : i = i2 := by omega
      rw [hr] at hr2; injection hr2 with hr2; subst hr2
      rw [hx] at hx2; injection hx2 with hx2
      obtain rfl : x = x2 := by omega
      obtain ⟨p, rfl⟩ := hs _ _ hx
      rw [pow_bit] at hb hb2
      subst hb; subst hb2
      rw [hn] at hn2; injection hn2 with hn2; subst hn2
      exact ih hp' hz hz'
/-- there is a leaf -/
theorem pth_leaf {k : Kx} {st seen : List Int} (hok : KOk st k) (h1 : 1 ≤ k.lv.length) (hs : ∀ (c : Nat) (n : Int), st[c]? = some n → ∃ x s : Nat, seen[c]? = some (x : Int) ∧ (s : Int) < n ∧ x / 2 ^ s % 2 = 1) : ∀ (d : Nat) (a : Int), a < k.nd.length → -(k.lv.length : Int) ≤ a → (k.nd.length : Int) ≤ a + d → ∃ j : Nat, j < k.lv.length ∧ Pth k seen (-1 - (j : Int)) a
  | 0, a, h, _, h2 => absurd h (by omega)
  | d + 1, a, h, hl, h2 => by
    by_cases h0 : a < 0
    · exact ⟨(-1 - a).toNat, by omega, by rw [show (-1 - (((-1 - a).toNat : Nat) : Int)) = a from by omega]; exact .nil⟩
    · obtain ⟨i, rfl⟩ : ∃ i : Nat, a = (i : Int) := ⟨a.toNat, by omega⟩
      obtain ⟨r, hr⟩ : ∃ r, k.nd[i]? = some r := ⟨_, List.getElem?_eq_getElem (by omega)⟩
      obtain ⟨q1, q2, q3, q4⟩ := hok.nd i r hr
      have hc : r.nm.toNat < st.length := by omega
      obtain ⟨x, s, hx, hs2, hb⟩ := hs r.nm.toNat _ (List.getElem?_eq_getElem hc)
      rw [List.getD_eq_getElem?_getD, List.getElem?_eq_getElem hc, Option.getD_some] at q3
      obtain ⟨b, hb2⟩ : ∃ b, r.may[s]? = some b := ⟨_, List.getElem?_eq_getElem (by omega)⟩
      obtain ⟨b1, b2, b3⟩ := q4 b (List.mem_of_getElem? hb2)
      by_cases hbn : b < 0
      · exact ⟨(-1 - b).toNat, by omega, .cons ⟨i, s, x, r, rfl, hr, hx, hb, hb2⟩ (by rw [show (-1 - (((-1 - b).toNat : Nat) : Int)) = b from by omega]; exact .nil)⟩
      · obtain ⟨j, hj, hp⟩ := pth_leaf hok h1 hs d b b2 b1 (by have := b3 (by omega); omega)
        exact ⟨j, hj, .cons ⟨i, s, x, r, rfl, hr, hx, hb, hb2⟩ hp⟩
end Go.Ky
namespace Go.Ky
open Go.Nm
open Go.Proofs.YthfegbcbpeedbaaGreatDoor (updP)
theorem mis_iff {k : Kx} {seen st : List Int} (hok : KOk st k) (hl : seen.length = st.length) (hs : ∀ (i : Nat) (x : Int), seen[i]? = some x → 0 ≤ x ∧ x ≤ 65535) (h1 : 1 ≤ k.lv.length) (name : Int) : misF k name seen = true ↔ ∃ (j : Nat) (L : List Int), Pth k seen (-1 - (j : Int)) (begF k) ∧ k.lv[j]? = some L ∧ name ∉ L := by
  unfold misF
  rw [List.any_eq_true]
  constructor
  · rintro ⟨L, hL, hn⟩
    obtain ⟨j, hr, hj⟩ := (reached_leaf hok hl hs h1 L).1 hL
    exact ⟨j, L, rch_pth.1 hr, hj, by simpa using hn⟩
  · rintro ⟨j, L, hp, hj, hn⟩
    exact ⟨L, (reached_leaf hok hl hs h1 L).2 ⟨j, rch_pth.2 hp, hj⟩, by simpa using hn⟩
theorem upd_upd {α : Type} (f : Nat → α) (c : Nat) (x y : α) : updP (updP f c x) c y = updP f c y := by
  funext i
  unfold updP
  split <;> rfl
theorem upd_id {α : Type} (f : Nat → α) (c : Nat) : updP f c (f c) = f := by
  funext i
  unfold updP
  split
  · rename_i h; rw [h]
  · rfl
theorem map_upd {n c : Nat} (f : Nat → Int) (v : Int) : (List.range n).map (updP f c v) = ((List.range n).map f).set c v := by
  apply List.ext_getElem?
  intro i
  by_cases hi : i < n
  · by_cases e : i = c
    · subst e
      rw [List.getElem?_set_self (by simpa using hi), List.getElem?_map, List.getElem?_range hi]
      unfold updP
      simp
    · rw [List.getElem?_set_ne (fun h => e h.symm), List.getElem?_map, List.getElem?_map, List.getElem?_range hi]
      unfold updP
      simp [e]
  · rw [List.getElem?_eq_none (by simp; omega), List.getElem?_eq_none (by simp; omega)]
theorem fmI_hits {k : Kx} {name : Int} {n : Nat} {may : Int} {c : Nat} : ∀ (d s : Nat) (f g : Nat → Int), (∃ s', s ≤ s' ∧ s' < s + d ∧ meetF may (2 ^ s') ≠ 0 ∧ misF k name ((List.range n).map (updP f c (meetF may (2 ^ s')))) = true) →
    ∃ s', s' < s + d ∧ meetF may (2 ^ s') ≠ 0 ∧ misF k name ((List.range n).map (updP f c (meetF may (2 ^ s')))) = true ∧ fmI k name n may c d s f g = (updP f c (meetF may (2 ^ s')), updP g c (s' : Int))
  | 0, s, f, g, h => by obtain ⟨s', h1, h2, _⟩ := h; omega
  | d + 1, s, f, g, h => by
    by_cases hc : meetF may (2 ^ s) ≠ 0 ∧ misF k name ((List.range n).map (updP f c (meetF may (2 ^ s)))) = true
    · exact ⟨s, by omega, hc.1, hc.2, by unfold fmI; rw [if_pos hc]⟩
    · obtain ⟨s', h1, h2, h3, h4⟩ := h
      have hne : s' ≠ s := fun e => by subst e; exact hc ⟨h3, h4⟩
      obtain ⟨t, t1, t2, t3, t4⟩ := fmI_hits (k := k) (name := name) (n := n) (may := may) (c := c) d (s + 1) (updP f c (meetF may (2 ^ s))) g ⟨s', by omega, by omega, h3, by rw [upd_upd]; exact h4⟩
      rw [upd_upd] at t3 t4
      exact ⟨t, by omega, t2, t3, by unfold fmI; rw [if_neg hc]; exact t4⟩
theorem pow_rng {s : Nat} (h : s < 16) : (1 : Int) ≤ 2 ^ s ∧ (2 : Int) ^ s ≤ 32768 := by
  have h2 : ∀ i : Fin 16, (1 : Int) ≤ 2 ^ i.val ∧ (2 : Int) ^ i.val ≤ 32768 := by decide
  exact h2 ⟨s, h⟩
theorem meet_bit {x s : Nat} (hx : x ≤ 65535) (hs : s < 16) (h : x / 2 ^ s % 2 = 1) : meetF (x : Int) (2 ^ s) = 2 ^ s := by
  have hp : (2 : Nat) ^ s ≤ 65535 := by
    have : (2 : Nat) ^ s ≤ 2 ^ 15 := Nat.pow_le_pow_right (by omega) (by omega)
    omega
  have e : ((2 : Int) ^ s) = ((2 ^ s : Nat) : Int) := by simp
  rw [e, meet_nat hx hp]
  congr 1
  apply Nat.eq_of_testBit_eq
  intro j
  rw [Nat.testBit_and, Nat.testBit_two_pow]
  by_cases hj : s = j
  · subst hj
    rw [(bit_iff _ _).2 h]; rfl
  · simp [hj]
/-- the specimen by which a key is wrong for a row -/
structure Fms (k : Kx) (r : Rw) (c : Nat) (f g : Nat → Int) : Prop where
  mis : misF k r.nm ((List.range r.may.length).map f) = true
  done : ∀ i : Nat, i < c → ∃ s x : Nat, s < 16 ∧ g i = (s : Int) ∧ f i = 2 ^ s ∧ r.may[i]? = some (x : Int) ∧ x / 2 ^ s % 2 = 1
  rest : ∀ i : Nat, c ≤ i → f i = r.may.getD i 0
theorem fms_all {k : Kx} {st : List Int} {r : Rw} (hok : KOk st k) (hk : NoTw k) (h1 : 1 ≤ k.lv.length) (hlen : r.may.length = st.length) (hm : ∀ (i : Nat) (x : Int), r.may[i]? = some x → 1 ≤ x ∧ x ≤ 65535) (hmis : misF k r.nm r.may = true) : ∀ c, c ≤ r.may.length → Fms k r c (fmS k r c).1 (fmS k r c).2
  | 0, _ => by
    refine ⟨?_, fun i hi => by omega, fun i _ => rfl⟩
    have e : (List.range r.may.length).map (fmS k r 0).1 = r.may := by
      apply List.ext_getElem?
      intro i
      show ((List.range r.may.length).map fun i => r.may.getD i 0)[i]? = _
      by_cases hi : i < r.may.length
      · rw [List.getElem?_map, List.getElem?_range hi]
        show some (r.may.getD i 0) = _
        rw [List.getD_eq_getElem?_getD, List.getElem?_eq_getElem hi]; rfl
      · rw [List.getElem?_eq_none (by simp; omega), List.getElem?_eq_none (by omega)]
    rw [e]; exact hmis
  | c + 1, hc => by
    have ih := fms_all hok hk h1 hlen hm hmis c (by omega)
    show Fms k r (c + 1) (fmI k r.nm r.may.length (r.may.getD c 0) c 16 0 (fmS k r c).1 (fmS k r c).2).1 (fmI k r.nm r.may.length (r.may.getD c 0) c 16 0 (fmS k r c).1 (fmS k r c).2).2
    obtain ⟨F, hF⟩ : ∃ F, (fmS k r c).1 = F := ⟨_, rfl⟩
    obtain ⟨G, hG⟩ : ∃ G, (fmS k r c).2 = G := ⟨_, rfl⟩
    rw [hF, hG] at ih ⊢
    have hcx : r.may[c]? = some r.may[c] := List.getElem?_eq_getElem (by omega)
    have hmx := hm c _ hcx
    obtain ⟨x, hx⟩ : ∃ x : Nat, r.may[c] = (x : Int) := ⟨(r.may[c]).toNat, by omega⟩
    rw [hx] at hcx hmx
    have hgd : r.may.getD c 0 = (x : Int) := by rw [List.getD_eq_getElem?_getD, hcx]; rfl
    have hx1 : x ≤ 65535 := by omega
    have hFr : ∀ (i : Nat) (z : Int), ((List.range r.may.length).map F)[i]? = some z → 0 ≤ z ∧ z ≤ 65535 := fun i z hz => by
      have hi : i < r.may.length := by have := (List.getElem?_eq_some_iff.1 hz).1; simpa using this
      rw [List.getElem?_map, List.getElem?_range hi] at hz
      simp only [Option.map_some, Option.some.injEq] at hz
      by_cases h : i < c
      · obtain ⟨s, _, hs, _, hf, _⟩ := ih.done i h
        have := pow_rng (s := s) (by omega)
        omega
      · have h2 := ih.rest i (by omega)
        have h3 := hm i _ (List.getElem?_eq_getElem hi)
        rw [List.getD_eq_getElem?_getD, List.getElem?_eq_getElem hi] at h2
        simp only [Option.getD_some] at h2
        omega
    have hS : ∀ s, s < 16 → ∀ (i : Nat) (z : Int), ((((List.range r.may.length).map F).set c (2 ^ s)))[i]? = some z → 0 ≤ z ∧ z ≤ 65535 := fun s hs i z hz => by
      by_cases e : i = c
      · subst e
        rw [List.getElem?_set_self (by simp; omega)] at hz
        injection hz with hz
        have := pow_rng (s := s) (by omega)
        omega
      · rw [List.getElem?_set_ne (fun h => e h.symm)] at hz
        exact hFr i z hz
    obtain ⟨j, L, hp, hj, hn⟩ := (mis_iff hok (by simpa using hlen) hFr h1 r.nm).1 ih.mis
    have hxc : ((List.range r.may.length).map F)[c]? = some (x : Int) := by
      rw [List.getElem?_map, List.getElem?_range (by omega)]
      simp only [Option.map_some, Option.some.injEq]
      rw [ih.rest c (Nat.le_refl _), hgd]
    obtain ⟨s0, hs0, hb0, hp0⟩ := narrow hok hk hxc (by
      obtain ⟨t, ht⟩ := least_bit x (by omega)
      exact ⟨t, ht.lt (n := 16) (by omega), bit_iff _ _ |>.1 ht.on⟩) hp
    have hm0 := meet_bit hx1 hs0 hb0
    rw [hgd]
    obtain ⟨s', t1, t2, t3, t4⟩ := fmI_hits (k := k) (name := r.nm) (n := r.may.length) (may := (x : Int)) (c := c) 16 0 F G ⟨s0, by omega, by omega, by rw [hm0]; exact Int.ne_of_gt (Int.pow_pos (by decide)), by
      rw [hm0, map_upd]
      exact (mis_iff hok (by simpa using hlen) (hS s0 hs0) h1 r.nm).2 ⟨j, L, hp0, hj, hn⟩⟩
    have hb' : x / 2 ^ s' % 2 = 1 := (bit_iff _ _).1 ((meet_pow hx1 (by omega)).1 t2)
    have hm' := meet_bit hx1 (by omega) hb'
    rw [hm'] at t3 t4
    rw [t4]
    refine ⟨t3, fun i hi => ?_, fun i hi => ?_⟩
    · by_cases e : i = c
      · subst e
        exact ⟨s', x, by omega, by show updP G i (s' : Int) i = _; unfold updP; rw [if_pos rfl], by show updP F i (2 ^ s') i = _; unfold updP; rw [if_pos rfl], hcx, hb'⟩
      · obtain ⟨s, y, u1, u2, u3, u4⟩ := ih.done i (by omega)
        exact ⟨s, y, u1, by show updP G c (s' : Int) i = _; unfold updP; rw [if_neg e]; exact u2, by show updP F c (2 ^ s') i = _; unfold updP; rw [if_neg e]; exact u3, u4⟩
    · have e : i ≠ c := by omega
      show updP F c (2 ^ s') i = _
      unfold updP
      rw [if_neg e]
      exact ih.rest i (by omega)
end Go.Ky
namespace Go.Ky
open Go.Nm
theorem leaves_one {LL : List (List Int)} (h : leavesF LL = true) : 1 ≤ LL.length := by
  unfold leavesF at h
  rw [Bool.and_eq_true, decide_eq_true_eq] at h
  omega
theorem follow_ok {m : Mx} {k : Kx} {l : List Int} (h : ckE m k = 0) (hl : setsF m.st l = true) : followE m k l = 0 ∧ followL m k l = folF k (rchF k l) k.lv.length := by
  have h1 : followE m k l = 0 := by unfold followE; rw [if_pos h, if_pos hl]
  exact ⟨h1, by unfold followL; rw [if_pos h1]⟩
theorem fol_iff {m : Mx} {k : Kx} {l : List Int} (h : ckE m k = 0) (hl : setsF m.st l = true) (z : Int) : z ∈ followL m k l ↔ ∃ (j : Nat) (L : List Int), Pth k l (-1 - (j : Int)) (begF k) ∧ k.lv[j]? = some L ∧ z ∈ L := by
  obtain ⟨hm, hlv, hok⟩ := ck_ok h
  have hr : ∀ (i : Nat) (x : Int), l[i]? = some x → 0 ≤ x ∧ x ≤ 65535 := fun i x hx => by have := sets_range hm hl hx; omega
  rw [(follow_ok h hl).2, follow_mem hok (sets_len hl) hr (leaves_one hlv)]
  constructor
  · rintro ⟨L, hL, hz⟩
    obtain ⟨j, hp, hj⟩ := (reached_leaf hok (sets_len hl) hr (leaves_one hlv) L).1 hL
    exact ⟨j, L, rch_pth.1 hp, hj, hz⟩
  · rintro ⟨j, L, hp, hj, hz⟩
    exact ⟨L, (reached_leaf hok (sets_len hl) hr (leaves_one hlv) L).2 ⟨j, rch_pth.2 hp, hj⟩, hz⟩
theorem sets_fl {st l : List Int} (h : setsF st l = true) {c : Nat} {x n : Int} (hx : l[c]? = some x) (hn : st[c]? = some n) : 1 ≤ x ∧ x ≤ full n := by
  unfold setsF at h
  rw [Bool.and_eq_true] at h
  have h2 := (List.all_eq_true.1 h.2) _ (List.mem_of_getElem? (zip_get hn hx))
  exact of_decide_eq_true h2
theorem sets_mk2 {st l : List Int} (hl : l.length = st.length) (h : ∀ (c : Nat) (x n : Int), l[c]? = some x → st[c]? = some n → 1 ≤ x ∧ x ≤ full n) : setsF st l = true := by
  unfold setsF
  rw [Bool.and_eq_true]
  refine ⟨by simpa using hl, List.all_eq_true.2 fun p hp => ?_⟩
  obtain ⟨i, hi⟩ := List.getElem?_of_mem hp
  rw [List.getElem?_zip_eq_some] at hi
  exact decide_eq_true (h i _ _ (by first | exact hi.1 | exact hi.2) (by first | exact hi.2 | exact hi.1))
theorem full_lt {n : Int} {s x : Nat} (h1 : 2 ≤ n) (h2 : n ≤ 16) (hx : (x : Int) ≤ full n) (hb : x / 2 ^ s % 2 = 1) : (s : Int) < n ∧ ((2 : Int) ^ s) ≤ full n := by
  obtain ⟨k, rfl⟩ : ∃ k : Nat, n = (k : Int) := ⟨n.toNat, by omega⟩
  rw [full_nat] at hx ⊢
  have hp := (pow16 (k := k) (by omega)).1
  have hlt : x < 2 ^ k := by
    have e : ((2 : Int) ^ k) = ((2 ^ k : Nat) : Int) := by simp
    omega
  have hs : s < k := by
    by_cases h : s < k
    · exact h
    · exact absurd ((bit_iff x s).2 hb) (by rw [Nat.testBit_lt_two_pow (Nat.lt_of_lt_of_le hlt (Nat.pow_le_pow_right (by omega) (by omega)))]; simp)
  refine ⟨by omega, ?_⟩
  have h3 : (2 : Nat) ^ s < 2 ^ k := Nat.pow_lt_pow_right (by omega) hs
  have e1 : ((2 : Int) ^ s) = ((2 ^ s : Nat) : Int) := by simp
  have e2 : ((2 : Int) ^ k) = ((2 ^ k : Nat) : Int) := by simp
  omega
/-- the specimen by which a key is wrong -/
theorem wrong_row {m : Mx} {k : Kx} {r : Rw} (h : ckE m k = 0) (hr : r ∈ m.rows) (hmis : misF k r.nm r.may = true) :
    setsF m.st (bitsF (firstF k r)) = true ∧ fitsF r.may (bitsF (firstF k r)) = true ∧ r.nm ∉ followL m k (bitsF (firstF k r)) := by
  obtain ⟨hm, hlv, hok⟩ := ck_ok h
  have hms := may_sets hm hr
  have hlen := sets_len hms
  have hF := fms_all hok (no_twice h) (leaves_one hlv) hlen (fun i x hx => sets_range hm hms hx) hmis r.may.length (Nat.le_refl _)
  unfold firstF
  obtain ⟨F, hFe⟩ : ∃ F, (fmS k r r.may.length).1 = F := ⟨_, rfl⟩
  obtain ⟨G, hGe⟩ : ∃ G, (fmS k r r.may.length).2 = G := ⟨_, rfl⟩
  rw [hFe, hGe] at hF
  rw [hGe]
  have hb : bitsF ((List.range r.may.length).map G) = (List.range r.may.length).map F := by
    unfold bitsF
    rw [if_pos, List.map_map]
    · apply List.map_congr_left
      intro i hi
      obtain ⟨s, x, h1, h2, h3, _⟩ := hF.done i (by simpa using hi)
      show (2 : Int) ^ (G i).toNat = F i
      rw [h2, h3, Int.toNat_natCast]
    · rw [List.all_eq_true]
      intro z hz
      obtain ⟨i, hi, rfl⟩ := List.mem_map.1 hz
      obtain ⟨s, x, h1, h2, h3, _⟩ := hF.done i (by simpa using hi)
      unfold stOk
      rw [h2]
      exact decide_eq_true (by omega)
  rw [hb]
  have get : ∀ (i : Nat) (z : Int), ((List.range r.may.length).map F)[i]? = some z → ∃ s x : Nat, s < 16 ∧ z = 2 ^ s ∧ r.may[i]? = some (x : Int) ∧ x / 2 ^ s % 2 = 1 := fun i z hz => by
    have hi : i < r.may.length := by have := (List.getElem?_eq_some_iff.1 hz).1; simpa using this
    rw [List.getElem?_map, List.getElem?_range hi] at hz
    simp only [Option.map_some, Option.some.injEq] at hz
    obtain ⟨s, x, h1, _, h3, h4, h5⟩ := hF.done i hi
    exact ⟨s, x, h1, by rw [← hz, h3], h4, h5⟩
  have hset : setsF m.st ((List.range r.may.length).map F) = true := sets_mk2 (by simpa using hlen) fun c z n hz hn => by
    obtain ⟨s, x, h1, rfl, h4, h5⟩ := get c z hz
    have h6 := sets_fl hms h4 hn
    have h7 := st_range hm (List.mem_of_getElem? hn)
    exact ⟨(pow_rng h1).1, (full_lt h7.1 h7.2 h6.2 h5).2⟩
  refine ⟨hset, fits_iff.2 fun i x y hx hy => ?_, fun hmem => ?_⟩
  · obtain ⟨s, x', h1, rfl, h4, h5⟩ := get i y hy
    rw [hx] at h4; injection h4 with h4; subst h4
    have := sets_range hm hms hx
    exact (meet_pow (by omega) h1).2 ((bit_iff _ _).2 h5)
  · obtain ⟨j, L, hp, hj, hz⟩ := (fol_iff h hset r.nm).1 hmem
    have hr2 : ∀ (i : Nat) (x : Int), ((List.range r.may.length).map F)[i]? = some x → 0 ≤ x ∧ x ≤ 65535 := fun i x hx => by have := sets_range hm hset hx; omega
    obtain ⟨j2, L2, hp2, hj2, hz2⟩ := (mis_iff hok (sets_len hset) hr2 (leaves_one hlv) r.nm).1 hF.mis
    have e := pth_det (fun i x hx => by
      obtain ⟨s, _, _, h2, _⟩ := get i _ hx
      have e1 : ((2 : Int) ^ s) = ((2 ^ s : Nat) : Int) := by simp
      exact ⟨s, by omega⟩) hp hp2 (by omega) (by omega)
    obtain rfl : j = j2 := by omega
    rw [hj] at hj2; injection hj2 with hj2; subst hj2
    exact hz2 hz
/-- by a right key each name that fits is among those to which it leads -/
theorem right_row {m : Mx} {k : Kx} {l : List Int} (h : ckE m k = 0) (hl : setsF m.st l = true) (hright : ∀ r ∈ m.rows, misF k r.nm r.may = false) {r : Rw} (hr : r ∈ m.rows) (hf : fitsF r.may l = true) : r.nm ∈ followL m k l := by
  obtain ⟨hm, hlv, hok⟩ := ck_ok h
  have hms := may_sets hm hr
  have h1 := leaves_one hlv
  have hrm : ∀ (i : Nat) (x : Int), r.may[i]? = some x → 0 ≤ x ∧ x ≤ 65535 := fun i x hx => by have := sets_range hm hms hx; omega
  obtain ⟨Q, hQ⟩ : ∃ Q, List.zipWith meetF r.may l = Q := ⟨_, rfl⟩
  have get : ∀ (i : Nat) (n : Int), m.st[i]? = some n → ∃ a b : Nat, r.may[i]? = some (a : Int) ∧ l[i]? = some (b : Int) ∧ Q[i]? = some ((a &&& b : Nat) : Int) ∧ (a : Int) ≤ full n ∧ a ≤ 65535 ∧ b ≤ 65535 ∧ a &&& b ≠ 0 := fun i n hn => by
    have hi := (List.getElem?_eq_some_iff.1 hn).1
    obtain ⟨xa, ha⟩ : ∃ x, r.may[i]? = some x := ⟨_, List.getElem?_eq_getElem (by rw [sets_len hms]; exact hi)⟩
    obtain ⟨xb, hb⟩ : ∃ x, l[i]? = some x := ⟨_, List.getElem?_eq_getElem (by rw [sets_len hl]; exact hi)⟩
    have ra := sets_range hm hms ha
    have rb := sets_range hm hl hb
    have rf := sets_fl hms ha hn
    obtain ⟨a, rfl⟩ : ∃ a : Nat, xa = (a : Int) := ⟨xa.toNat, by omega⟩
    obtain ⟨b, rfl⟩ : ∃ b : Nat, xb = (b : Int) := ⟨xb.toNat, by omega⟩
    have hmt := meet_nat (x := a) (y := b) (by omega) (by omega)
    refine ⟨a, b, ha, hb, by rw [← hQ, List.getElem?_zipWith, ha, hb]; simp [hmt], rf.2, by omega, by omega, fun e => ?_⟩
    exact fits_iff.1 hf i _ _ ha hb (by rw [hmt, e]; rfl)
  obtain ⟨j, hj, hp⟩ := pth_leaf (seen := Q) hok h1 (fun c n hn => by
    obtain ⟨a, b, ha, hb, hq, hfl, ha1, hb1, hne⟩ := get c n hn
    obtain ⟨t, ht⟩ := least_bit (a &&& b) (by omega)
    have hst := st_range hm (List.mem_of_getElem? hn)
    have hb2 : a / 2 ^ t % 2 = 1 := (bit_iff _ _).1 (by have := ht.on; rw [Nat.testBit_and, Bool.and_eq_true] at this; exact this.1)
    exact ⟨a &&& b, t, hq, (full_lt hst.1 hst.2 hfl hb2).1, (bit_iff _ _).1 ht.on⟩) (k.nd.length + 1) (begF k) (by unfold begF; split <;> omega) (by unfold begF; split <;> omega) (by unfold begF; split <;> omega)
  have hb : ∀ (i x s : Nat), Q[i]? = some (x : Int) → x / 2 ^ s % 2 = 1 → ∃ a b : Nat, r.may[i]? = some (a : Int) ∧ l[i]? = some (b : Int) ∧ a / 2 ^ s % 2 = 1 ∧ b / 2 ^ s % 2 = 1 := fun i x s hx hb => by
    have hi : i < m.st.length := by
      have := (List.getElem?_eq_some_iff.1 hx).1
      rw [← hQ, List.length_zipWith, sets_len hms] at this
      omega
    obtain ⟨a, b, ha, hb', hq, _⟩ := get i _ (List.getElem?_eq_getElem hi)
    rw [hx] at hq; injection hq with hq
    have e : x = a &&& b := by omega
    subst e
    rw [← bit_iff, Nat.testBit_and, Bool.and_eq_true] at hb
    exact ⟨a, b, ha, hb', (bit_iff _ _).1 hb.1, (bit_iff _ _).1 hb.2⟩
  have p1 : Pth k r.may (-1 - (j : Int)) (begF k) := pth_mono (fun i x s hx hs => by obtain ⟨a, b, ha, _, h3, _⟩ := hb i x s hx hs; exact ⟨a, ha, h3⟩) hp
  have p2 : Pth k l (-1 - (j : Int)) (begF k) := pth_mono (fun i x s hx hs => by obtain ⟨a, b, _, h2, _, h4⟩ := hb i x s hx hs; exact ⟨b, h2, h4⟩) hp
  have hL : k.lv[j]? = some k.lv[j] := List.getElem?_eq_getElem hj
  refine (fol_iff h hl r.nm).2 ⟨j, _, p2, hL, ?_⟩
  by_cases hin : r.nm ∈ k.lv[j]
  · exact hin
  · have := (mis_iff hok (sets_len hms) hrm h1 r.nm).2 ⟨j, _, p1, hL, hin⟩
    rw [hright r hr] at this
    cases this
end Go.Ky
namespace Go.Ky
open Go.Nm
theorem seen_set {m : Mx} {l : List Int} (hm : mxF m = true) (hl : setsF m.st l = true) : seenE m [l] = 0 := by
  rw [seenE_ok hm, if_pos (by simp [hl])]
theorem wrong_ck {m : Mx} {k : Kx} (h : wrongE m k = 0 ∨ wrongE m k = 3) : ckE m k = 0 := by
  unfold wrongE at h
  by_cases h0 : ckE m k = 0
  · exact h0
  · rw [if_neg h0] at h
    rcases ck_cases m k with h1 | h1 | h1 <;> omega
theorem wrong_cs (m : Mx) (k : Kx) : wrongE m k = 0 ∨ wrongE m k = 3 ∨ wrongE m k = 30 ∨ wrongE m k = 31 := by
  unfold wrongE
  rcases ck_cases m k with h | h | h
  · rw [if_pos h]
    split
    · exact .inl rfl
    · exact .inr (.inl rfl)
  · rw [if_neg (by omega), h]; omega
  · rw [if_neg (by omega), h]; omega
theorem wrong_none {m : Mx} {k : Kx} (h : wrongE m k ≠ 0) : wrongN m k = 0 ∧ wrongL m k = [] := by
  unfold wrongN wrongL
  rw [if_neg h, if_neg h]
  exact ⟨rfl, rfl⟩
theorem right_val (m : Mx) (k : Kx) : rightE m k = if wrongE m k = 3 then 0 else wrongE m k := rfl
theorem wrong_law {m : Mx} {k : Kx} (h : wrongE m k = 0) : seenE m [bitsF (wrongL m k)] = 0 ∧ fitE m (wrongN m k) (bitsF (wrongL m k)) = 0 ∧ fitB m (wrongN m k) (bitsF (wrongL m k)) = true ∧ followE m k (bitsF (wrongL m k)) = 0 ∧ hasF (followL m k (bitsF (wrongL m k))) (wrongN m k) = false := by
  have hck := wrong_ck (.inl h)
  have hm := (ck_ok hck).1
  cases hr : wrongR m k with
  | none => unfold wrongE at h; rw [if_pos hck, hr] at h; simp at h
  | some r =>
    have hmem : r ∈ m.rows := List.mem_of_find?_eq_some hr
    have hmis : misF k r.nm r.may = true := List.find?_some (p := fun r : Rw => misF k r.nm r.may) hr
    have en : wrongN m k = r.nm := by unfold wrongN; rw [if_pos h, hr]; rfl
    have el : wrongL m k = firstF k r := by unfold wrongL; rw [if_pos h, hr]; rfl
    obtain ⟨h1, h2, h3⟩ := wrong_row hck hmem hmis
    rw [en, el]
    have hs := seen_set hm h1
    have hrow := row_of hm hmem
    refine ⟨hs, by unfold fitE; rw [if_pos hs]; exact hrow.1, by unfold fitB; rw [if_pos ⟨hs, hrow.1⟩, hrow.2]; exact h2, (follow_ok hck h1).1, ?_⟩
    cases hh : hasF (followL m k (bitsF (firstF k r))) r.nm with
    | false => rfl
    | true => exact absurd (has_iff.1 hh) h3
theorem right_all {m : Mx} {k : Kx} (h : wrongE m k = 3) : ckE m k = 0 ∧ ∀ r ∈ m.rows, misF k r.nm r.may = false := by
  have hck := wrong_ck (.inr h)
  refine ⟨hck, fun r hr => ?_⟩
  unfold wrongE at h
  rw [if_pos hck] at h
  cases hw : wrongR m k with
  | some x => rw [hw] at h; simp at h
  | none =>
    have h2 := List.find?_eq_none.1 hw r hr
    simpa using h2
theorem right_law {m : Mx} {k : Kx} {l : List Int} (h : wrongE m k = 3) (hs : seenE m [l] = 0) : followE m k l = 0 ∧ partF (remO m l) (followL m k l) = true := by
  obtain ⟨hck, hall⟩ := right_all h
  obtain ⟨hm, hl⟩ := seen_ok hs
  refine ⟨(follow_ok hck hl).1, ?_⟩
  unfold partF
  rw [List.all_eq_true]
  intro x hx
  unfold remO at hx
  rw [if_pos hs] at hx
  obtain ⟨r, hr, rfl⟩ := List.mem_map.1 hx
  have hr2 := List.mem_filter.1 hr
  exact has_iff.2 (right_row hck hl hall hr2.1 hr2.2)
end Go.Ky
