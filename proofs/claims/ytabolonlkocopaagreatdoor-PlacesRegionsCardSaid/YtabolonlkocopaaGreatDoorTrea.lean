/- Trees of the reference as plain mathematics: what is covered of a square. -/
import Derived.Test.YtabolonlkocopaaGreatDoorReg3
import Derived.Test.YtabolonlkocopaaGreatDoorSquW
import Derived.Test.YtabolonlkocopaaGreatDoorTxa
import Derived.Maps.AppendAt
namespace Go.Proofs.YtabolonlkocopaaGreatDoor
open Go.RowKit Go.Plc

inductive Tr where
  | leaf (all : Bool)
  | node (a b c d : Tr)
deriving DecidableEq

def k0 (s : Sq) : Sq := ⟨s.l - 1, 2 * s.x, 2 * s.y⟩
def k1 (s : Sq) : Sq := ⟨s.l - 1, 2 * s.x + 1, 2 * s.y⟩
def k2 (s : Sq) : Sq := ⟨s.l - 1, 2 * s.x, 2 * s.y + 1⟩
def k3 (s : Sq) : Sq := ⟨s.l - 1, 2 * s.x + 1, 2 * s.y + 1⟩
theorem kids_eq (s : Sq) : kidsS s = [k0 s, k1 s, k2 s, k3 s] := rfl
/-- the squares of a tree, in the order in which they are gathered -/
def sqs : Tr → Sq → List Sq
  | .leaf b, s => if b then [s] else []
  | .node a b c d, s => sqs a (k0 s) ++ (sqs b (k1 s) ++ (sqs c (k2 s) ++ sqs d (k3 s)))
/-- a tree is no deeper than so -/
def Fit : Tr → Nat → Prop
  | .leaf _, _ => True
  | .node a b c d, n => 1 ≤ n ∧ Fit a (n - 1) ∧ Fit b (n - 1) ∧ Fit c (n - 1) ∧ Fit d (n - 1)
/-- what a tree says of a cell -/
def ev : Tr → Nat → Int → Int → Bool
  | .leaf b, _, _, _ => b
  | .node a b c d, n, x, y => if (y / 2 ^ (n - 1)) % 2 = 0 then (if (x / 2 ^ (n - 1)) % 2 = 0 then ev a (n - 1) x y else ev b (n - 1) x y) else (if (x / 2 ^ (n - 1)) % 2 = 0 then ev c (n - 1) x y else ev d (n - 1) x y)
/-- no node has four kids that all say the same, all or nothing -/
def Tdy : Tr → Prop
  | .leaf _ => True
  | .node a b c d => ¬ (a = .leaf true ∧ b = .leaf true ∧ c = .leaf true ∧ d = .leaf true) ∧ ¬ (a = .leaf false ∧ b = .leaf false ∧ c = .leaf false ∧ d = .leaf false) ∧ Tdy a ∧ Tdy b ∧ Tdy c ∧ Tdy d
def tidyT (a b c d : Tr) : Tr :=
  if a = .leaf true ∧ b = .leaf true ∧ c = .leaf true ∧ d = .leaf true then .leaf true
  else if a = .leaf false ∧ b = .leaf false ∧ c = .leaf false ∧ d = .leaf false then .leaf false else .node a b c d
theorem tidy_tdy {a b c d : Tr} (ha : Tdy a) (hb : Tdy b) (hc : Tdy c) (hd : Tdy d) : Tdy (tidyT a b c d) := by
  unfold tidyT
  split
  · trivial
  · split
    · trivial
    · exact ⟨‹_›, ‹_›, ha, hb, hc, hd⟩
theorem tidy_fit {a b c d : Tr} {n : Nat} (hn : 1 ≤ n) (ha : Fit a (n - 1)) (hb : Fit b (n - 1)) (hc : Fit c (n - 1)) (hd : Fit d (n - 1)) : Fit (tidyT a b c d) n := by
  unfold tidyT
  split
  · trivial
  · split
    · trivial
    · exact ⟨hn, ha, hb, hc, hd⟩
theorem tidy_ev {a b c d : Tr} {n : Nat} {x y : Int} : ev (tidyT a b c d) n x y = ev (.node a b c d) n x y := by
  unfold tidyT
  split
  · rename_i h; obtain ⟨rfl, rfl, rfl, rfl⟩ := h; simp [ev]
  · split
    · rename_i h; obtain ⟨rfl, rfl, rfl, rfl⟩ := h; simp [ev]
    · rfl
theorem toNat_pred {l : Int} (h : 1 ≤ l) : (l - 1).toNat = l.toNat - 1 := by omega
theorem in_k {s : Sq} {x y : Int} (h : 1 ≤ s.l) :
    (inS (k0 s) x y ↔ inS s x y ∧ (y / 2 ^ (s.l.toNat - 1)) % 2 = 0 ∧ (x / 2 ^ (s.l.toNat - 1)) % 2 = 0) ∧ (inS (k1 s) x y ↔ inS s x y ∧ (y / 2 ^ (s.l.toNat - 1)) % 2 = 0 ∧ ¬ (x / 2 ^ (s.l.toNat - 1)) % 2 = 0) ∧
    (inS (k2 s) x y ↔ inS s x y ∧ ¬ (y / 2 ^ (s.l.toNat - 1)) % 2 = 0 ∧ (x / 2 ^ (s.l.toNat - 1)) % 2 = 0) ∧ (inS (k3 s) x y ↔ inS s x y ∧ ¬ (y / 2 ^ (s.l.toNat - 1)) % 2 = 0 ∧ ¬ (x / 2 ^ (s.l.toNat - 1)) % 2 = 0) := by
  have hx := half_div (x := x) h
  have hy := half_div (x := y) h
  unfold inS k0 k1 k2 k3
  simp only [toNat_pred h] at *
  generalize x / 2 ^ (s.l.toNat - 1) = X at *
  generalize y / 2 ^ (s.l.toNat - 1) = Y at *
  rw [hx, hy]
  refine ⟨?_, ?_, ?_, ?_⟩ <;> omega
theorem sqs_ev : ∀ (t : Tr) (s : Sq), 0 ≤ s.l → Fit t s.l.toNat → ∀ x y, covC (sqs t s) x y ↔ inS s x y ∧ ev t s.l.toNat x y = true
  | .leaf b, s, _, _, x, y => by
    cases b
    · simp [sqs, covC, ev]
    · simp [sqs, covC, ev]
  | .node a b c d, s, h0, hf, x, y => by
    obtain ⟨h1, fa, fb, fc, fd⟩ := hf
    have hl : 1 ≤ s.l := by omega
    have hk : ∀ k : Sq, k.l = s.l - 1 → k.l.toNat = s.l.toNat - 1 := fun k hk => by rw [hk]; exact toNat_pred hl
    have e0 := sqs_ev a (k0 s) (by show 0 ≤ s.l - 1; omega) (by rw [hk _ rfl]; exact fa) x y
    have e1 := sqs_ev b (k1 s) (by show 0 ≤ s.l - 1; omega) (by rw [hk _ rfl]; exact fb) x y
    have e2 := sqs_ev c (k2 s) (by show 0 ≤ s.l - 1; omega) (by rw [hk _ rfl]; exact fc) x y
    have e3 := sqs_ev d (k3 s) (by show 0 ≤ s.l - 1; omega) (by rw [hk _ rfl]; exact fd) x y
    rw [hk _ rfl] at e0 e1 e2 e3
    obtain ⟨i0, i1, i2, i3⟩ := in_k (s := s) (x := x) (y := y) hl
    have hc : covC (sqs (.node a b c d) s) x y ↔ covC (sqs a (k0 s)) x y ∨ covC (sqs b (k1 s)) x y ∨ covC (sqs c (k2 s)) x y ∨ covC (sqs d (k3 s)) x y := by
      unfold covC
      simp only [sqs, List.mem_append]
      constructor
      · rintro ⟨q, (h | h | h | h), hi⟩
        · exact .inl ⟨q, h, hi⟩
        · exact .inr (.inl ⟨q, h, hi⟩)
        · exact .inr (.inr (.inl ⟨q, h, hi⟩))
        · exact .inr (.inr (.inr ⟨q, h, hi⟩))
      · rintro (⟨q, h, hi⟩ | ⟨q, h, hi⟩ | ⟨q, h, hi⟩ | ⟨q, h, hi⟩)
        · exact ⟨q, .inl h, hi⟩
        · exact ⟨q, .inr (.inl h), hi⟩
        · exact ⟨q, .inr (.inr (.inl h)), hi⟩
        · exact ⟨q, .inr (.inr (.inr h)), hi⟩
    rw [hc, e0, e1, e2, e3, i0, i1, i2, i3, ev]
    by_cases hy : (y / 2 ^ (s.l.toNat - 1)) % 2 = 0 <;> by_cases hx : (x / 2 ^ (s.l.toNat - 1)) % 2 = 0 <;> simp [hx, hy]
/-- each square of a tree lies in the tree's own -/
theorem sqs_in : ∀ (t : Tr) (s : Sq), 0 ≤ s.l → Fit t s.l.toNat → ∀ q ∈ sqs t s, 0 ≤ q.l ∧ withinS q s = true
  | .leaf b, s, h0, _, q, hq => by
    cases b
    · simp [sqs] at hq
    · simp [sqs] at hq; subst hq; exact ⟨h0, Go.Plc.within_refl q⟩
  | .node a b c d, s, h0, hf, q, hq => by
    obtain ⟨h1, fa, fb, fc, fd⟩ := hf
    have hl : 1 ≤ s.l := by omega
    have up : ∀ (t : Tr) (k : Sq), k ∈ kidsS s → (0 ≤ q.l ∧ withinS q k = true) → 0 ≤ q.l ∧ withinS q s = true := fun t k hk h => ⟨h.1, Go.Plc.within_trans h.1 h.2 (kid_within hk)⟩
    have hk : ∀ k : Sq, k.l = s.l - 1 → k.l.toNat = s.l.toNat - 1 := fun k hk => by rw [hk]; exact toNat_pred hl
    simp only [sqs, List.mem_append] at hq
    rcases hq with h | h | h | h
    · exact up a _ (by simp [kids_eq]) (sqs_in a (k0 s) (by show 0 ≤ s.l - 1; omega) (by rw [hk _ rfl]; exact fa) q h)
    · exact up b _ (by simp [kids_eq]) (sqs_in b (k1 s) (by show 0 ≤ s.l - 1; omega) (by rw [hk _ rfl]; exact fb) q h)
    · exact up c _ (by simp [kids_eq]) (sqs_in c (k2 s) (by show 0 ≤ s.l - 1; omega) (by rw [hk _ rfl]; exact fc) q h)
    · exact up d _ (by simp [kids_eq]) (sqs_in d (k3 s) (by show 0 ≤ s.l - 1; omega) (by rw [hk _ rfl]; exact fd) q h)

/-- the tree of one of the four kids -/
def subT (t : Tr) (s k : Sq) : Tr := match t with
  | .leaf b => .leaf b
  | .node a b c d => if k = k0 s then a else if k = k1 s then b else if k = k2 s then c else d
theorem k_ne (s : Sq) : k1 s ≠ k0 s ∧ k2 s ≠ k0 s ∧ k2 s ≠ k1 s ∧ k3 s ≠ k0 s ∧ k3 s ≠ k1 s ∧ k3 s ≠ k2 s := by
  refine ⟨?_, ?_, ?_, ?_, ?_, ?_⟩ <;> (intro h; injection h; omega)
theorem mem_node {a b c d : Tr} {s q : Sq} : q ∈ sqs (.node a b c d) s ↔ ∃ k ∈ kidsS s, q ∈ sqs (subT (.node a b c d) s k) k := by
  obtain ⟨n1, n2, n3, n4, n5, n6⟩ := k_ne s
  simp only [sqs, List.mem_append, kids_eq, List.mem_cons, List.not_mem_nil, or_false]
  constructor
  · rintro (h | h | h | h)
    · exact ⟨_, .inl rfl, by simpa [subT] using h⟩
    · exact ⟨_, .inr (.inl rfl), by simpa [subT, n1] using h⟩
    · exact ⟨_, .inr (.inr (.inl rfl)), by simpa [subT, n2, n3] using h⟩
    · exact ⟨_, .inr (.inr (.inr rfl)), by simpa [subT, n4, n5, n6] using h⟩
  · rintro ⟨k, (rfl | rfl | rfl | rfl), h⟩
    · exact .inl (by simpa [subT] using h)
    · exact .inr (.inl (by simpa [subT, n1] using h))
    · exact .inr (.inr (.inl (by simpa [subT, n2, n3] using h)))
    · exact .inr (.inr (.inr (by simpa [subT, n4, n5, n6] using h)))
theorem sub_all {P : Tr → Prop} {a b c d : Tr} (ha : P a) (hb : P b) (hc : P c) (hd : P d) (s k : Sq) : P (subT (.node a b c d) s k) := by
  unfold subT; dsimp only; split
  · exact ha
  · split
    · exact hb
    · split
      · exact hc
      · exact hd
/-- two kids with a square in common are one -/
theorem kid_one {s k k' q q' : Sq} (hk : k ∈ kidsS s) (hk' : k' ∈ kidsS s) (h0 : 0 ≤ q.l) (h1 : withinS q k = true) (h2 : withinS q q' = true) (h3 : withinS q' k' = true) : k = k' := by
  have hc := in_corner q
  exact in_inj ((mem_kids.1 hk).1.trans (mem_kids.1 hk').1.symm) (in_of_within h0 h1 hc) (in_of_within h0 (Go.Plc.within_trans h0 h2 h3) hc)
theorem sqs_canon : ∀ (t : Tr) (s : Sq), s.okB = true → Fit t s.l.toNat → Tdy t → Canon (sqs t s) ∧ (sqs t s).Nodup
  | .leaf b, s, hs, _, _ => by
    cases b
    · exact ⟨⟨fun _ h => by simp [sqs] at h, fun _ h => by simp [sqs] at h, fun _ _ _ h => by have := h _ List.mem_cons_self; simp [sqs] at this⟩, by simp [sqs]⟩
    · exact ⟨by simpa [sqs] using canon_one hs, by simp [sqs]⟩
  | .node a b c d, s, hs, hf, ht => by
    have hf0 := hf
    obtain ⟨h1, fa, fb, fc, fd⟩ := hf
    obtain ⟨t1, _, ta, tb, tc, td⟩ := ht
    have hls := ok_l hs
    have hl : 1 ≤ s.l := by omega
    have hk : ∀ k : Sq, k ∈ kidsS s → k.l.toNat = s.l.toNat - 1 ∧ k.okB = true := fun k hk => ⟨by rw [(mem_kids.1 hk).1]; exact toNat_pred hl, kid_ok hs hk hl⟩
    have m0 : k0 s ∈ kidsS s := by simp [kids_eq]
    have m1 : k1 s ∈ kidsS s := by simp [kids_eq]
    have m2 : k2 s ∈ kidsS s := by simp [kids_eq]
    have m3 : k3 s ∈ kidsS s := by simp [kids_eq]
    obtain ⟨ca, na⟩ := sqs_canon a (k0 s) (hk _ m0).2 (by rw [(hk _ m0).1]; exact fa) ta
    obtain ⟨cb, nb⟩ := sqs_canon b (k1 s) (hk _ m1).2 (by rw [(hk _ m1).1]; exact fb) tb
    obtain ⟨cc, nc⟩ := sqs_canon c (k2 s) (hk _ m2).2 (by rw [(hk _ m2).1]; exact fc) tc
    obtain ⟨cd, nd⟩ := sqs_canon d (k3 s) (hk _ m3).2 (by rw [(hk _ m3).1]; exact fd) td
    obtain ⟨n1, n2, n3, n4, n5, n6⟩ := k_ne s
    have hsub : ∀ k ∈ kidsS s, Canon (sqs (subT (.node a b c d) s k) k) ∧ Fit (subT (.node a b c d) s k) k.l.toNat := fun k hkm => by
      rw [(hk k hkm).1]
      simp only [kids_eq, List.mem_cons, List.not_mem_nil, or_false] at hkm
      rcases hkm with rfl | rfl | rfl | rfl
      · simp only [subT, if_pos]; exact ⟨ca, fa⟩
      · simp only [subT, if_neg n1, if_pos]; exact ⟨cb, fb⟩
      · simp only [subT, if_neg n2, if_neg n3, if_pos]; exact ⟨cc, fc⟩
      · simp only [subT, if_neg n4, if_neg n5, if_neg n6]; exact ⟨cd, fd⟩
    have hin : ∀ k ∈ kidsS s, ∀ q ∈ sqs (subT (.node a b c d) s k) k, 0 ≤ q.l ∧ withinS q k = true := fun k hkm q hq =>
      sqs_in _ k (ok_l (hk k hkm).2).1 (hsub k hkm).2 q hq
    refine ⟨⟨fun q hq => ?_, fun q hq q' hq' hw => ?_, fun p hp hp1 hq => ?_⟩, ?_⟩
    · obtain ⟨k, hkm, hq⟩ := mem_node.1 hq
      exact (hsub k hkm).1.ok q hq
    · obtain ⟨k, hkm, hq⟩ := mem_node.1 hq
      obtain ⟨k', hkm', hq'⟩ := mem_node.1 hq'
      have e := kid_one hkm hkm' (hin k hkm q hq).1 (hin k hkm q hq).2 hw (hin k' hkm' q' hq').2
      subst e
      exact (hsub k hkm).1.anti q hq q' hq' hw
    · -- the first kid of p lies in a kid of s
      have hq0 := hq (k0 p) (by simp [kids_eq])
      obtain ⟨k, hkm, hqk⟩ := mem_node.1 hq0
      have hw := (hin k hkm _ hqk)
      have hle := (Go.Plc.within_iff.1 hw.2).1
      by_cases hpk : p.l - 1 = k.l
      · -- p is s
        have e1 : k0 p = k := within_level hw.2 hpk
        have hps : p = s := by
          have a1 := par_of_kid (show k0 p ∈ kidsS p by simp [kids_eq])
          have a2 := par_of_kid (show k0 p ∈ kidsS s from e1 ▸ hkm)
          rw [← a1, a2]
        subst hps
        refine t1 ?_
        have key : ∀ k ∈ kidsS p, k ∈ sqs (subT (.node a b c d) p k) k := fun k hkm => by
          obtain ⟨k', hkm', h'⟩ := mem_node.1 (hq k hkm)
          have := within_level (hin k' hkm' k h').2 ((mem_kids.1 hkm).1.trans (mem_kids.1 hkm').1.symm)
          subst this
          exact h'
        have leafy : ∀ (t : Tr) (k : Sq), 0 ≤ k.l → Fit t k.l.toNat → k ∈ sqs t k → t = .leaf true := fun t k hk0 hft hm => by
          cases t with
          | leaf b => cases b
                      · simp [sqs] at hm
                      · rfl
          | node a b c d =>
            obtain ⟨k', hk', hm'⟩ := mem_node.1 hm
            obtain ⟨f1, fa, fb, fc, fd⟩ := hft
            have hlk : 1 ≤ k.l := by omega
            have hfs : Fit (subT (.node a b c d) k k') k'.l.toNat := by
              rw [(mem_kids.1 hk').1, toNat_pred hlk]
              exact sub_all (P := fun t => Fit t (k.l.toNat - 1)) fa fb fc fd k k'
            have := (Go.Plc.within_iff.1 (sqs_in _ k' (by rw [(mem_kids.1 hk').1]; omega) hfs k hm').2).1
            rw [(mem_kids.1 hk').1] at this
            omega
        have g0 := key _ m0
        have g1 := key _ m1
        have g2 := key _ m2
        have g3 := key _ m3
        simp only [subT, if_pos] at g0
        simp only [subT, if_neg n1, if_pos] at g1
        simp only [subT, if_neg n2, if_neg n3, if_pos] at g2
        simp only [subT, if_neg n4, if_neg n5, if_neg n6] at g3
        exact ⟨leafy _ _ (ok_l (hk _ m0).2).1 (by rw [(hk _ m0).1]; exact fa) g0, leafy _ _ (ok_l (hk _ m1).2).1 (by rw [(hk _ m1).1]; exact fb) g1, leafy _ _ (ok_l (hk _ m2).2).1 (by rw [(hk _ m2).1]; exact fc) g2, leafy _ _ (ok_l (hk _ m3).2).1 (by rw [(hk _ m3).1]; exact fd) g3⟩
      · -- p lies in k
        have hle' : p.l - 1 < k.l := by
          have : (k0 p).l = p.l - 1 := rfl
          omega
        have hpw : withinS p k = true := within_up hp1 (show k0 p ∈ kidsS p by simp [kids_eq]) hw.2 hle'
        refine (hsub k hkm).1.quad p hp hp1 fun r hr => ?_
        obtain ⟨k', hkm', h'⟩ := mem_node.1 (hq r hr)
        have hr0 := (hin k' hkm' r h').1
        have e := kid_one (q := r) (q' := r) hkm hkm' hr0 (Go.Plc.within_trans hr0 (kid_within hr) hpw) (Go.Plc.within_refl r) (hin k' hkm' r h').2
        subst e
        exact h'
    · have dis : ∀ (k k' : Sq), k ∈ kidsS s → k' ∈ kidsS s → k ≠ k' → ∀ q, q ∈ sqs (subT (.node a b c d) s k) k → q ∈ sqs (subT (.node a b c d) s k') k' → False := fun k k' hkm hkm' hne q h h' =>
        hne (kid_one hkm hkm' (hin k hkm q h).1 (hin k hkm q h).2 (Go.Plc.within_refl q) (hin k' hkm' q h').2)
      have d01 := dis _ _ m0 m1 (Ne.symm n1)
      have d02 := dis _ _ m0 m2 (Ne.symm n2)
      have d03 := dis _ _ m0 m3 (Ne.symm n4)
      have d12 := dis _ _ m1 m2 (Ne.symm n3)
      have d13 := dis _ _ m1 m3 (Ne.symm n5)
      have d23 := dis _ _ m2 m3 (Ne.symm n6)
      simp only [subT, if_pos, if_neg n1, if_neg n2, if_neg n3, if_neg n4, if_neg n5, if_neg n6] at d01 d02 d03 d12 d13 d23
      simp only [sqs, List.nodup_append, List.mem_append]
      refine ⟨na, ⟨nb, ⟨nc, nd, ?_⟩, ?_⟩, ?_⟩
      · rintro q hq r hr rfl; exact d23 q hq hr
      · rintro q hq r (hr | hr) rfl
        · exact d12 q hq hr
        · exact d13 q hq hr
      · rintro q hq r (hr | hr | hr) rfl
        · exact d01 q hq hr
        · exact d02 q hq hr
        · exact d03 q hq hr

/-! growing -/
def growT : Nat → Sq → List Sq → Tr
  | 0, s, L => .leaf (L.any fun q => withinS s q)
  | f + 1, s, L => if L.any (fun q => withinS s q) then .leaf true else if L.filter (fun q => withinS q s) = [] then .leaf false
    else tidyT (growT f (k0 s) (L.filter fun q => withinS q s)) (growT f (k1 s) (L.filter fun q => withinS q s)) (growT f (k2 s) (L.filter fun q => withinS q s)) (growT f (k3 s) (L.filter fun q => withinS q s))
theorem grow_tdy : ∀ (f : Nat) (s : Sq) (L : List Sq), Tdy (growT f s L) ∧ Fit (growT f s L) f
  | 0, _, _ => ⟨trivial, trivial⟩
  | f + 1, s, L => by
    unfold growT
    split
    · exact ⟨trivial, trivial⟩
    · split
      · exact ⟨trivial, trivial⟩
      · exact ⟨tidy_tdy (grow_tdy f _ _).1 (grow_tdy f _ _).1 (grow_tdy f _ _).1 (grow_tdy f _ _).1, tidy_fit (by omega) (grow_tdy f _ _).2 (grow_tdy f _ _).2 (grow_tdy f _ _).2 (grow_tdy f _ _).2⟩
theorem grow_ev : ∀ (f : Nat) (s : Sq) (L : List Sq), s.l = (f : Int) → (∀ q ∈ L, q.okB = true) → ∀ x y, inS s x y → (ev (growT f s L) f x y = true ↔ covC L x y)
  | f, s, L, hl, hL, x, y, hi => by
    have hany : L.any (fun q => withinS s q) = true → covC L x y := fun h => by
      obtain ⟨q, hq, hw⟩ := List.any_eq_true.1 h
      exact ⟨q, hq, in_of_within (by omega) hw hi⟩
    have hfil : ¬ L.any (fun q => withinS s q) = true → (covC L x y ↔ covC (L.filter fun q => withinS q s) x y) := fun hn => by
      constructor
      · rintro ⟨q, hq, hj⟩
        refine ⟨q, List.mem_filter.2 ⟨hq, ?_⟩, hj⟩
        by_cases hle : q.l ≤ s.l
        · exact within_of_common (ok_l (hL q hq)).1 hle hj hi
        · exact absurd (List.any_eq_true.2 ⟨q, hq, within_of_common (by omega) (by omega) hi hj⟩) hn
      · rintro ⟨q, hq, hj⟩
        exact ⟨q, (List.mem_filter.1 hq).1, hj⟩
    match f, hl with
    | 0, hl =>
      unfold growT
      by_cases h : L.any (fun q => withinS s q) = true
      · rw [h]; simp [ev]; exact hany h
      · rw [show (L.any fun q => withinS s q) = false by simpa using h]
        simp only [ev]
        refine ⟨fun h => (by cases h), fun hc => ?_⟩
        obtain ⟨q, hq, hj⟩ := (hfil h).1 hc
        obtain ⟨hq2, hw⟩ := List.mem_filter.1 hq
        have e := within_level hw (by have := (ok_l (hL q hq2)).1; have := (Go.Plc.within_iff.1 hw).1; omega)
        subst e
        exact absurd (List.any_eq_true.2 ⟨q, hq2, Go.Plc.within_refl q⟩) h
    | f + 1, hl =>
      unfold growT
      by_cases h : L.any (fun q => withinS s q) = true
      · rw [if_pos h]; simp [ev]; exact hany h
      · rw [if_neg h, hfil h]
        by_cases h2 : L.filter (fun q => withinS q s) = []
        · rw [if_pos h2, h2]; simp [ev, covC]
        · rw [if_neg h2, tidy_ev]
          have hls : 1 ≤ s.l := by omega
          have hn : s.l.toNat - 1 = f := by omega
          obtain ⟨i0, i1, i2, i3⟩ := in_k (s := s) (x := x) (y := y) hls
          rw [hn] at i0 i1 i2 i3
          have hF : ∀ q ∈ L.filter (fun q => withinS q s), q.okB = true := fun q hq => hL q (List.mem_filter.1 hq).1
          have hkl : s.l - 1 = (f : Int) := by omega
          simp only [ev, Nat.add_sub_cancel]
          by_cases hy : (y / 2 ^ f) % 2 = 0 <;> by_cases hx : (x / 2 ^ f) % 2 = 0 <;> simp only [hx, hy, if_true, if_false]
          · exact grow_ev f (k0 s) _ hkl hF x y (i0.2 ⟨hi, hy, hx⟩)
          · exact grow_ev f (k1 s) _ hkl hF x y (i1.2 ⟨hi, hy, hx⟩)
          · exact grow_ev f (k2 s) _ hkl hF x y (i2.2 ⟨hi, hy, hx⟩)
          · exact grow_ev f (k3 s) _ hkl hF x y (i3.2 ⟨hi, hy, hx⟩)

/-! mixing -/
def mixT (op : Bool → Bool → Bool) : Tr → Tr → Tr
  | .leaf a, .leaf b => .leaf (op a b)
  | .leaf a, .node b0 b1 b2 b3 => tidyT (mixT op (.leaf a) b0) (mixT op (.leaf a) b1) (mixT op (.leaf a) b2) (mixT op (.leaf a) b3)
  | .node a0 a1 a2 a3, .leaf b => tidyT (mixT op a0 (.leaf b)) (mixT op a1 (.leaf b)) (mixT op a2 (.leaf b)) (mixT op a3 (.leaf b))
  | .node a0 a1 a2 a3, .node b0 b1 b2 b3 => tidyT (mixT op a0 b0) (mixT op a1 b1) (mixT op a2 b2) (mixT op a3 b3)
termination_by t u => SizeOf.sizeOf t + SizeOf.sizeOf u
theorem mix_spec (op : Bool → Bool → Bool) : ∀ (a b : Tr) (n : Nat), Fit a n → Fit b n → Tdy a → Tdy b → Fit (mixT op a b) n ∧ Tdy (mixT op a b) ∧ ∀ x y, ev (mixT op a b) n x y = op (ev a n x y) (ev b n x y)
  | .leaf a, .leaf b, n, _, _, _, _ => by
    rw [mixT]
    exact ⟨trivial, trivial, fun _ _ => rfl⟩
  | .leaf a, .node b0 b1 b2 b3, n, _, hb, _, tb => by
    obtain ⟨hn, f0, f1, f2, f3⟩ := hb
    obtain ⟨_, _, t0, t1, t2, t3⟩ := tb
    have h0 := mix_spec op (.leaf a) b0 (n - 1) trivial f0 trivial t0
    have h1 := mix_spec op (.leaf a) b1 (n - 1) trivial f1 trivial t1
    have h2 := mix_spec op (.leaf a) b2 (n - 1) trivial f2 trivial t2
    have h3 := mix_spec op (.leaf a) b3 (n - 1) trivial f3 trivial t3
    rw [mixT]
    refine ⟨tidy_fit hn h0.1 h1.1 h2.1 h3.1, tidy_tdy h0.2.1 h1.2.1 h2.2.1 h3.2.1, fun x y => ?_⟩
    rw [tidy_ev]
    simp only [ev, h0.2.2, h1.2.2, h2.2.2, h3.2.2]
    split <;> split <;> rfl
  | .node a0 a1 a2 a3, .leaf b, n, ha, _, ta, _ => by
    obtain ⟨hn, f0, f1, f2, f3⟩ := ha
    obtain ⟨_, _, t0, t1, t2, t3⟩ := ta
    have h0 := mix_spec op a0 (.leaf b) (n - 1) f0 trivial t0 trivial
    have h1 := mix_spec op a1 (.leaf b) (n - 1) f1 trivial t1 trivial
    have h2 := mix_spec op a2 (.leaf b) (n - 1) f2 trivial t2 trivial
    have h3 := mix_spec op a3 (.leaf b) (n - 1) f3 trivial t3 trivial
    rw [mixT]
    refine ⟨tidy_fit hn h0.1 h1.1 h2.1 h3.1, tidy_tdy h0.2.1 h1.2.1 h2.2.1 h3.2.1, fun x y => ?_⟩
    rw [tidy_ev]
    simp only [ev, h0.2.2, h1.2.2, h2.2.2, h3.2.2]
    split <;> split <;> rfl
  | .node a0 a1 a2 a3, .node b0 b1 b2 b3, n, ha, hb, ta, tb => by
    obtain ⟨hn, f0, f1, f2, f3⟩ := ha
    obtain ⟨_, _, t0, t1, t2, t3⟩ := ta
    obtain ⟨_, g0, g1, g2, g3⟩ := hb
    obtain ⟨_, _, u0, u1, u2, u3⟩ := tb
    have h0 := mix_spec op a0 b0 (n - 1) f0 g0 t0 u0
    have h1 := mix_spec op a1 b1 (n - 1) f1 g1 t1 u1
    have h2 := mix_spec op a2 b2 (n - 1) f2 g2 t2 u2
    have h3 := mix_spec op a3 b3 (n - 1) f3 g3 t3 u3
    rw [mixT]
    refine ⟨tidy_fit hn h0.1 h1.1 h2.1 h3.1, tidy_tdy h0.2.1 h1.2.1 h2.2.1 h3.2.1, fun x y => ?_⟩
    rw [tidy_ev]
    simp only [ev, h0.2.2, h1.2.2, h2.2.2, h3.2.2]
    split <;> split <;> rfl
termination_by a b => SizeOf.sizeOf a + SizeOf.sizeOf b

/-! regions of trees -/
def wholeS : Sq := ⟨10, 0, 0⟩
def growS (L : List Sq) : Tr := growT 10 wholeS L
def listT (t : Tr) : List Sq := regionS (sqs t wholeS)
theorem whole_ok : wholeS.okB = true := by decide
theorem in_whole {s : Sq} (hs : s.okB = true) {x y : Int} (hi : inS s x y) : inS wholeS x y := by
  have hw : withinS s wholeS = true := Go.Plc.within_iff.2 ⟨(ok_l hs).2, by
    have h := blur_ok' hs (ok_l hs).2 (Int.le_refl 10)
    have := (Sq.okB_iff _).1 h
    have e : sideOf (blurS s 10).l = 1 := by rw [blur_l]; decide
    rw [e] at this
    exact Sq.ext3 rfl (by show (blurS s 10).x = 0; omega) (by show (blurS s 10).y = 0; omega)⟩
  exact in_of_within (ok_l hs).1 hw hi
theorem list_canon {t : Tr} (hf : Fit t 10) (ht : Tdy t) : Canon (listT t) ∧ sortedS (listT t) ∧ ∀ x y, covC (listT t) x y ↔ inS wholeS x y ∧ ev t 10 x y = true := by
  obtain ⟨h1, h2⟩ := sqs_canon t wholeS whole_ok hf ht
  exact ⟨canon_region h1, region_sorted h2, fun x y => (cov_region h1.ok x y).trans (sqs_ev t wholeS (by decide) hf x y)⟩
theorem grow_list {L : List Sq} (hL : ∀ s ∈ L, s.okB = true) : listT (growS L) = regionS (normalS L) := by
  obtain ⟨h1, h2⟩ := grow_tdy 10 wholeS L
  obtain ⟨c1, c2, c3⟩ := list_canon h2 h1
  refine (normal_unique hL c1 c2 fun x y => (c3 x y).trans ⟨fun h => (grow_ev 10 wholeS L rfl hL x y h.1).1 h.2, fun h => ?_⟩).symm
  obtain ⟨q, hq, hi⟩ := h
  have hw := in_whole (hL q hq) hi
  exact ⟨hw, (grow_ev 10 wholeS L rfl hL x y hw).2 ⟨q, hq, hi⟩⟩
theorem mix_list (op : Bool → Bool → Bool) (P : Prop → Prop → Prop) {a b R : List Sq} (ha : ∀ s ∈ a, s.okB = true) (hb : ∀ s ∈ b, s.okB = true) (hR : Canon R) (sR : sortedS R)
    (hop : ∀ (p q : Bool) (A B : Prop), (p = true ↔ A) → (q = true ↔ B) → (op p q = true ↔ P A B)) (hP : ∀ A B, P A B → A ∨ B) (hc : ∀ x y, covC R x y ↔ P (covC a x y) (covC b x y)) : listT (mixT op (growS a) (growS b)) = R := by
  obtain ⟨a1, a2⟩ := grow_tdy 10 wholeS a
  obtain ⟨b1, b2⟩ := grow_tdy 10 wholeS b
  obtain ⟨m1, m2, m3⟩ := mix_spec op _ _ 10 a2 b2 a1 b1
  obtain ⟨c1, c2, c3⟩ := list_canon m1 m2
  refine region_ext c1 hR c2 sR fun x y => (c3 x y).trans ?_
  rw [hc]
  have key : inS wholeS x y → (ev (mixT op (growS a) (growS b)) 10 x y = true ↔ P (covC a x y) (covC b x y)) := fun hw => by
    rw [show ev (mixT op (growS a) (growS b)) 10 x y = op (ev (growS a) 10 x y) (ev (growS b) 10 x y) from m3 x y]
    exact hop _ _ _ _ (grow_ev 10 wholeS a rfl ha x y hw) (grow_ev 10 wholeS b rfl hb x y hw)
  refine ⟨fun h => (key h.1).1 h.2, fun h => ?_⟩
  have hw : inS wholeS x y := by
    rcases hP _ _ h with ⟨q, hq, hi⟩ | ⟨q, hq, hi⟩
    · exact in_whole (ha q hq) hi
    · exact in_whole (hb q hq) hi
  exact ⟨hw, (key hw).2 h⟩
end Go.Proofs.YtabolonlkocopaaGreatDoor

/- Trees of the reference in memory: none, kid, tidy. -/
namespace Go.Proofs.YtabolonlkocopaaGreatDoor
open Go.RowKit Go.Plc

/-- the pointer leads to the tree; its blocks are such -/
def TreeAt (W : World) (P : Nat → Prop) : Tr → Value → Prop
  | .leaf b, v => ∃ g, v = .pointer (some ⟨g, 0, none⟩) ∧ P g ∧ W.heap[g]? = some (.cells #[.bool b, .slice none 0 0] 113)
  | .node a b c d, v => ∃ g k cap va vb vc vd, v = .pointer (some ⟨g, 0, none⟩) ∧ P g ∧ W.heap[g]? = some (.cells #[.bool false, .slice (some ⟨k, 0, none⟩) 4 cap] 113) ∧ (P k ∧ k < W.heap.size) ∧
      (W.cell? ⟨k, 0, none⟩ = some va ∧ W.cell? ⟨k, 1, none⟩ = some vb ∧ W.cell? ⟨k, 2, none⟩ = some vc ∧ W.cell? ⟨k, 3, none⟩ = some vd) ∧ TreeAt W P a va ∧ TreeAt W P b vb ∧ TreeAt W P c vc ∧ TreeAt W P d vd
theorem TreeAt.keep {W W' : World} {P : Nat → Prop} (hs : W.heap.size ≤ W'.heap.size) (hb : ∀ k, k < W.heap.size → P k → W'.heap[k]? = W.heap[k]?) : ∀ {t : Tr} {v : Value}, TreeAt W P t v → TreeAt W' P t v
  | .leaf _, _, ⟨g, e, hg, h⟩ => ⟨g, e, hg, (hb g (Array.getElem?_eq_some_iff.1 h).1 hg).trans h⟩
  | .node _ _ _ _, _, ⟨g, k, cap, va, vb, vc, vd, e, hg, h, hk, ⟨c0, c1, c2, c3⟩, h0, h1, h2, h3⟩ =>
    have key : ∀ i u, W.cell? ⟨k, i, none⟩ = some u → W'.cell? ⟨k, i, none⟩ = some u := fun i u hu => by
      have := hb k hk.2 hk.1
      exact (World.cell?_of_block (a := ⟨k, i, none⟩) this).trans hu
    ⟨g, k, cap, va, vb, vc, vd, e, hg, (hb g (Array.getElem?_eq_some_iff.1 h).1 hg).trans h, ⟨hk.1, Nat.lt_of_lt_of_le hk.2 hs⟩, ⟨key _ _ c0, key _ _ c1, key _ _ c2, key _ _ c3⟩, h0.keep hs hb, h1.keep hs hb, h2.keep hs hb, h3.keep hs hb⟩
theorem TreeAt.imp {W : World} {P P' : Nat → Prop} (hB : ∀ k, k < W.heap.size → P k → P' k) : ∀ {t : Tr} {v : Value}, TreeAt W P t v → TreeAt W P' t v
  | .leaf _, _, ⟨g, e, hg, h⟩ => ⟨g, e, hB g (Array.getElem?_eq_some_iff.1 h).1 hg, h⟩
  | .node _ _ _ _, _, ⟨g, k, cap, va, vb, vc, vd, e, hg, h, hk, hc, h0, h1, h2, h3⟩ =>
    ⟨g, k, cap, va, vb, vc, vd, e, hB g (Array.getElem?_eq_some_iff.1 h).1 hg, h, ⟨hB k hk.2 hk.1, hk.2⟩, hc, h0.imp hB, h1.imp hB, h2.imp hB, h3.imp hB⟩
theorem TreeAt.step {W W' : World} {P : Nat → Prop} {t : Tr} {v : Value} (h : TreeAt W P t v) (hb : Below W.heap.size W W') : TreeAt W' P t v := h.keep hb.size fun k hk _ => hb.block k hk
theorem cells_two {w : World} {g : Nat} {a b : Value} {t : TypeId} (h : w.heap[g]? = some (.cells #[a, b] t)) : w.cell? ⟨g, 0, none⟩ = some a ∧ w.cell? ⟨g, 1, none⟩ = some b := by simp [World.cell?, h]
theorem cells_frozen {w : World} {g : Nat} {cs : Array Value} {t : TypeId} (h : w.heap[g]? = some (.cells cs t)) : ∀ i, w.frozen? ⟨g, i, none⟩ = false := fun i => frozen_row h i

set_option maxHeartbeats 1000000 in
theorem none_any (t : Tr) (v : Value) (w : World) (P : Nat → Prop) (h : TreeAt w P t v) :
    Calls Tryz.prog 99 #[v] w fun e w' => e = .returned (.bool (decide (t = .leaf false))) ∧ w = w' := by
  cases t with
  | leaf b =>
    obtain ⟨g, rfl, hg, ho⟩ := h
    obtain ⟨c0, c1⟩ := cells_two ho
    cases b
    · go_enter Tryz.func99, Tryz.ntmps99
      go_wp2_with fail
      go_ret
      exact ⟨rfl, rfl⟩
    · go_enter Tryz.func99, Tryz.ntmps99
      go_wp2_with fail
      go_ret
      exact ⟨rfl, rfl⟩
  | node a b c d =>
    obtain ⟨g, k, cap, va, vb, vc, vd, rfl, hg, ho, hk, hc, h0, h1, h2, h3⟩ := h
    obtain ⟨c0, c1⟩ := cells_two ho
    go_enter Tryz.func99, Tryz.ntmps99
    go_wp2_with fail
    go_ret
    exact ⟨rfl, rfl⟩
def kidT : Tr → Nat → Tr
  | .leaf b, _ => .leaf b
  | .node a _ _ _, 0 => a
  | .node _ b _ _, 1 => b
  | .node _ _ c _, 2 => c
  | .node _ _ _ d, _ => d
set_option maxHeartbeats 1000000 in
theorem kid_any (t : Tr) (v : Value) (i : Nat) (hi : i < 4) (w : World) (P : Nat → Prop) (h : TreeAt w P t v) :
    Calls Tryz.prog 101 #[v, .int .i64 i] w fun e w' => (∃ u, e = .returned u ∧ TreeAt w P (kidT t i) u) ∧ w = w' := by
  have HF := Lib.hid h
  cases t with
  | leaf b =>
    obtain ⟨g, rfl, hg, ho⟩ := h
    obtain ⟨c0, c1⟩ := cells_two ho
    go_enter Tryz.func101, Tryz.ntmps101
    go_wp2_with fail
    go_ret
    exact ⟨⟨_, rfl, HF.out⟩, rfl⟩
  | node a b c d =>
    obtain ⟨g, k, cap, va, vb, vc, vd, rfl, hg, ho, hk, ⟨q0, q1, q2, q3⟩, h0, h1, h2, h3⟩ := h
    obtain ⟨c0, c1⟩ := cells_two ho
    have HT := Lib.hid (And.intro h0 (And.intro h1 (And.intro h2 h3)))
    clear h0 h1 h2 h3 HF
    have hc : i = 0 ∨ i = 1 ∨ i = 2 ∨ i = 3 := by omega
    rcases hc with rfl | rfl | rfl | rfl
    all_goals
      go_enter Tryz.func101, Tryz.ntmps101
      go_wp2_with fail
      go_ret
    · exact ⟨⟨_, rfl, HT.out.1⟩, rfl⟩
    · exact ⟨⟨_, rfl, HT.out.2.1⟩, rfl⟩
    · exact ⟨⟨_, rfl, HT.out.2.2.1⟩, rfl⟩
    · exact ⟨⟨_, rfl, HT.out.2.2.2⟩, rfl⟩
end Go.Proofs.YtabolonlkocopaaGreatDoor

/- Trees of the reference: tidy. -/
namespace Go.Proofs.YtabolonlkocopaaGreatDoor
open Go.RowKit Go.Plc

theorem TreeAt.flag {W : World} {P : Nat → Prop} {t : Tr} {v : Value} (h : TreeAt W P t v) : ∃ g, v = .pointer (some ⟨g, 0, none⟩) ∧ g < W.heap.size ∧ W.cell? ⟨g, 0, none⟩ = some (.bool (decide (t = .leaf true))) := by
  cases t with
  | leaf b =>
    obtain ⟨g, rfl, hg, ho⟩ := h
    exact ⟨g, rfl, (Array.getElem?_eq_some_iff.1 ho).1, by rw [(cells_two ho).1]; cases b <;> rfl⟩
  | node a b c d =>
    obtain ⟨g, k, cap, va, vb, vc, vd, rfl, hg, ho, _⟩ := h
    exact ⟨g, rfl, (Array.getElem?_eq_some_iff.1 ho).1, (cells_two ho).1⟩
def cntT (t : Tr) (L : List Tr) : Nat := L.countP fun u => decide (u = t)
theorem cnt_next {t u : Tr} {L : List Tr} {i : Nat} (h : L[i]? = some u) : cntT t (L.take (i + 1)) = cntT t (L.take i) + (if decide (u = t) = true then 1 else 0) := by
  obtain ⟨hi, e⟩ := List.getElem?_eq_some_iff.1 h
  unfold cntT
  rw [List.take_succ_eq_append_getElem hi, List.countP_append, e]
  simp [List.countP_cons]
theorem cnt_le {t : Tr} (L : List Tr) (i : Nat) : cntT t (L.take i) ≤ i := by
  unfold cntT
  have h1 := List.countP_le_length (p := fun u => decide (u = t)) (l := L.take i)
  rw [List.length_take] at h1
  omega
theorem cnt_four {t a b c d : Tr} : cntT t [a, b, c, d] = 4 ↔ a = t ∧ b = t ∧ c = t ∧ d = t := by
  unfold cntT
  have := List.countP_eq_length (p := fun u => decide (u = t)) (l := [a, b, c, d])
  rw [show ([a, b, c, d] : List Tr).length = 4 from rfl] at this
  rw [this]
  simp

set_option maxRecDepth 100000 in
set_option maxHeartbeats 4000000 in
theorem tidy_any (a b c d : Tr) (k cap : Nat) (va vb vc vd : Value) (w : World) (P : Nat → Prop) (hPk : P k) (hk : k < w.heap.size) (hc : w.cell? ⟨k, 0, none⟩ = some va ∧ w.cell? ⟨k, 1, none⟩ = some vb ∧ w.cell? ⟨k, 2, none⟩ = some vc ∧ w.cell? ⟨k, 3, none⟩ = some vd)
    (h0 : TreeAt w P a va) (h1 : TreeAt w P b vb) (h2 : TreeAt w P c vc) (h3 : TreeAt w P d vd) :
    Calls Tryz.prog 114 #[.slice (some ⟨k, 0, none⟩) 4 cap] w fun e w' => (∃ u, e = .returned u ∧ TreeAt w' (fun k => P k ∨ w.heap.size ≤ k) (tidyT a b c d) u) ∧ Below w.heap.size w w' := by
  have HT := Lib.hid (And.intro h0 (And.intro h1 (And.intro h2 h3)))
  have HC := Lib.hid hc
  have HK := Lib.hid hk
  have HPk := Lib.hid hPk
  clear hPk
  obtain ⟨g0, rfl, hg0, f0⟩ := h0.flag
  obtain ⟨g1, rfl, hg1, f1⟩ := h1.flag
  obtain ⟨g2, rfl, hg2, f2⟩ := h2.flag
  obtain ⟨g3, rfl, hg3, f3⟩ := h3.flag
  obtain ⟨q0, q1, q2, q3⟩ := hc
  have HN0 := Lib.hid (none_any a _ w P h0)
  have HN1 := Lib.hid (none_any b _ w P h1)
  have HN2 := Lib.hid (none_any c _ w P h2)
  have HN3 := Lib.hid (none_any d _ w P h3)
  clear h0 h1 h2 h3
  go_enter Tryz.func114, Tryz.ntmps114
  go_wp2_with fail
  go_loopw [3, 4, 5] (fun al nn i wr => ∃ j : Nat, i = .int .i64 (j : Int) ∧ al = .int .i64 (cntT (.leaf true) ([a, b, c, d].take j) : Int) ∧ nn = .int .i64 (cntT (.leaf false) ([a, b, c, d].take j) : Int) ∧ j ≤ 4 ∧ wr = w) (fun _ _ i _ => 4 - (intOf i).toNat)
  case atStart => exact ⟨0, rfl, rfl, rfl, by omega, rfl⟩
  case round =>
    obtain ⟨j, rfl, rfl, rfl, hj, rfl⟩ := hrel
    have ha4 := cnt_le (t := .leaf true) [a, b, c, d] j
    have hn4 := cnt_le (t := .leaf false) [a, b, c, d] j
    have hc : j = 0 ∨ j = 1 ∨ j = 2 ∨ j = 3 ∨ j = 4 := by omega
    rcases hc with rfl | rfl | rfl | rfl | rfl
    · have HA := Lib.hid (cnt_next (t := .leaf true) (show [a, b, c, d][0]? = some a from rfl))
      have HB := Lib.hid (cnt_next (t := .leaf false) (show [a, b, c, d][0]? = some a from rfl))
      generalize cntT (.leaf true) ([a, b, c, d].take 0) = nA at *
      generalize cntT (.leaf false) ([a, b, c, d].take 0) = nN at *
      have hlr : decide (a = .leaf true) = true → decide (a = .leaf false) = false := fun h => by rw [of_decide_eq_true h]; rfl
      generalize decide (a = .leaf true) = b1 at *
      generalize decide (a = .leaf false) = b2 at *
      cases b1 <;> cases b2
      · go_wp2_with fail
        refine HN0.out.mono ?_
        rintro e w1 ⟨rfl, rfl⟩
        go_wp2_with fail
        go_roundw
        case rel => exact ⟨1, by go_num, by rw [HA.out]; rfl, by rw [HB.out]; rfl, by omega, trivial⟩
        case measure => simp [intOf]
      · go_wp2_with fail
        refine HN0.out.mono ?_
        rintro e w1 ⟨rfl, rfl⟩
        go_wp2_with fail
        go_roundw
        case rel => exact ⟨1, by go_num, by rw [HA.out]; rfl, by rw [HB.out]; go_num, by omega, trivial⟩
        case measure => simp [intOf]
      · go_wp2_with fail
        refine HN0.out.mono ?_
        rintro e w1 ⟨rfl, rfl⟩
        go_wp2_with fail
        go_roundw
        case rel => exact ⟨1, by go_num, by rw [HA.out]; go_num, by rw [HB.out]; rfl, by omega, trivial⟩
        case measure => simp [intOf]
      · exact absurd (hlr rfl) (by decide)
    · have HA := Lib.hid (cnt_next (t := .leaf true) (show [a, b, c, d][1]? = some b from rfl))
      have HB := Lib.hid (cnt_next (t := .leaf false) (show [a, b, c, d][1]? = some b from rfl))
      generalize cntT (.leaf true) ([a, b, c, d].take 1) = nA at *
      generalize cntT (.leaf false) ([a, b, c, d].take 1) = nN at *
      have hlr : decide (b = .leaf true) = true → decide (b = .leaf false) = false := fun h => by rw [of_decide_eq_true h]; rfl
      generalize decide (b = .leaf true) = b1 at *
      generalize decide (b = .leaf false) = b2 at *
      cases b1 <;> cases b2
      · go_wp2_with fail
        refine HN1.out.mono ?_
        rintro e w1 ⟨rfl, rfl⟩
        go_wp2_with fail
        go_roundw
        case rel => exact ⟨2, by go_num, by rw [HA.out]; rfl, by rw [HB.out]; rfl, by omega, trivial⟩
        case measure => simp [intOf]
      · go_wp2_with fail
        refine HN1.out.mono ?_
        rintro e w1 ⟨rfl, rfl⟩
        go_wp2_with fail
        go_roundw
        case rel => exact ⟨2, by go_num, by rw [HA.out]; rfl, by rw [HB.out]; go_num, by omega, trivial⟩
        case measure => simp [intOf]
      · go_wp2_with fail
        refine HN1.out.mono ?_
        rintro e w1 ⟨rfl, rfl⟩
        go_wp2_with fail
        go_roundw
        case rel => exact ⟨2, by go_num, by rw [HA.out]; go_num, by rw [HB.out]; rfl, by omega, trivial⟩
        case measure => simp [intOf]
      · exact absurd (hlr rfl) (by decide)
    · have HA := Lib.hid (cnt_next (t := .leaf true) (show [a, b, c, d][2]? = some c from rfl))
      have HB := Lib.hid (cnt_next (t := .leaf false) (show [a, b, c, d][2]? = some c from rfl))
      generalize cntT (.leaf true) ([a, b, c, d].take 2) = nA at *
      generalize cntT (.leaf false) ([a, b, c, d].take 2) = nN at *
      have hlr : decide (c = .leaf true) = true → decide (c = .leaf false) = false := fun h => by rw [of_decide_eq_true h]; rfl
      generalize decide (c = .leaf true) = b1 at *
      generalize decide (c = .leaf false) = b2 at *
      cases b1 <;> cases b2
      · go_wp2_with fail
        refine HN2.out.mono ?_
        rintro e w1 ⟨rfl, rfl⟩
        go_wp2_with fail
        go_roundw
        case rel => exact ⟨3, by go_num, by rw [HA.out]; rfl, by rw [HB.out]; rfl, by omega, trivial⟩
        case measure => simp [intOf]
      · go_wp2_with fail
        refine HN2.out.mono ?_
        rintro e w1 ⟨rfl, rfl⟩
        go_wp2_with fail
        go_roundw
        case rel => exact ⟨3, by go_num, by rw [HA.out]; rfl, by rw [HB.out]; go_num, by omega, trivial⟩
        case measure => simp [intOf]
      · go_wp2_with fail
        refine HN2.out.mono ?_
        rintro e w1 ⟨rfl, rfl⟩
        go_wp2_with fail
        go_roundw
        case rel => exact ⟨3, by go_num, by rw [HA.out]; go_num, by rw [HB.out]; rfl, by omega, trivial⟩
        case measure => simp [intOf]
      · exact absurd (hlr rfl) (by decide)
    · have HA := Lib.hid (cnt_next (t := .leaf true) (show [a, b, c, d][3]? = some d from rfl))
      have HB := Lib.hid (cnt_next (t := .leaf false) (show [a, b, c, d][3]? = some d from rfl))
      generalize cntT (.leaf true) ([a, b, c, d].take 3) = nA at *
      generalize cntT (.leaf false) ([a, b, c, d].take 3) = nN at *
      have hlr : decide (d = .leaf true) = true → decide (d = .leaf false) = false := fun h => by rw [of_decide_eq_true h]; rfl
      generalize decide (d = .leaf true) = b1 at *
      generalize decide (d = .leaf false) = b2 at *
      cases b1 <;> cases b2
      · go_wp2_with fail
        refine HN3.out.mono ?_
        rintro e w1 ⟨rfl, rfl⟩
        go_wp2_with fail
        go_roundw
        case rel => exact ⟨4, by go_num, by rw [HA.out]; rfl, by rw [HB.out]; rfl, by omega, trivial⟩
        case measure => simp [intOf]
      · go_wp2_with fail
        refine HN3.out.mono ?_
        rintro e w1 ⟨rfl, rfl⟩
        go_wp2_with fail
        go_roundw
        case rel => exact ⟨4, by go_num, by rw [HA.out]; rfl, by rw [HB.out]; go_num, by omega, trivial⟩
        case measure => simp [intOf]
      · go_wp2_with fail
        refine HN3.out.mono ?_
        rintro e w1 ⟨rfl, rfl⟩
        go_wp2_with fail
        go_roundw
        case rel => exact ⟨4, by go_num, by rw [HA.out]; go_num, by rw [HB.out]; rfl, by omega, trivial⟩
        case measure => simp [intOf]
      · exact absurd (hlr rfl) (by decide)
    · rw [show ([a, b, c, d].take 4) = [a, b, c, d] from rfl] at *
      have hA := cnt_four (t := .leaf true) (a := a) (b := b) (c := c) (d := d)
      have hN := cnt_four (t := .leaf false) (a := a) (b := b) (c := c) (d := d)
      generalize cntT (.leaf true) [a, b, c, d] = nA at *
      generalize cntT (.leaf false) [a, b, c, d] = nN at *
      by_cases e1 : nA = 4
      · have HR := Lib.hid (show tidyT a b c d = .leaf true from by unfold tidyT; rw [if_pos (hA.1 e1)])
        subst e1
        clear hA hN
        go_wp2_with fail
        go_ret
        exact ⟨⟨_, rfl, by rw [HR.out]; exact ⟨_, rfl, .inr (Nat.le_refl _), World.alloc_heap_new _ _⟩⟩, below_new _⟩
      · have e1' : ¬ (nA : Int) = 4 := by omega
        by_cases e2 : nN = 4
        · have HR := Lib.hid (show tidyT a b c d = .leaf false from by unfold tidyT; rw [if_neg (fun h => e1 (hA.2 h)), if_pos (hN.1 e2)])
          subst e2
          clear hA hN
          go_wp2_with fail
          go_ret
          exact ⟨⟨_, rfl, by rw [HR.out]; exact ⟨_, rfl, .inr (Nat.le_refl _), World.alloc_heap_new _ _⟩⟩, below_new _⟩
        · have e2' : ¬ (nN : Int) = 4 := by omega
          have HR := Lib.hid (show tidyT a b c d = .node a b c d from by unfold tidyT; rw [if_neg (fun h => e1 (hA.2 h)), if_neg (fun h => e2 (hN.2 h))])
          clear hA hN
          go_wp2_with fail
          go_ret
          have hbn := below_new (w := wr) (.cells #[.bool false, .slice (some ⟨k, 0, none⟩) 4 cap] 113)
          refine ⟨⟨_, rfl, ?_⟩, hbn⟩
          rw [HR.out]
          have hz := HK.out
          refine ⟨_, k, cap, _, _, _, _, rfl, .inr (Nat.le_refl _), World.alloc_heap_new _ _, ⟨.inl HPk.out, by simp; omega⟩, ⟨(hbn.cell (p := ⟨k, 0, none⟩) hz).trans HC.out.1, (hbn.cell (p := ⟨k, 1, none⟩) hz).trans HC.out.2.1, (hbn.cell (p := ⟨k, 2, none⟩) hz).trans HC.out.2.2.1, (hbn.cell (p := ⟨k, 3, none⟩) hz).trans HC.out.2.2.2⟩, (HT.out.1.step hbn).imp fun _ _ h => .inl h, (HT.out.2.1.step hbn).imp fun _ _ h => .inl h, (HT.out.2.2.1.step hbn).imp fun _ _ h => .inl h, (HT.out.2.2.2.step hbn).imp fun _ _ h => .inl h⟩
end Go.Proofs.YtabolonlkocopaaGreatDoor

/- Trees of the reference: whole, growing, grow. -/
namespace Go.Proofs.YtabolonlkocopaaGreatDoor
open Go.RowKit Go.Plc

theorem newsq_sl {B : Nat} {w : World} {v : Value} {L : List Sq} (h : NewSqs B w v L) : SqSl w w.heap.size v L := by
  obtain ⟨g, c, e, h1, h2, h3⟩ := h.slice
  exact ⟨_, c, e, h3⟩
theorem whole_any (w : World) : Calls Tryz.prog 68 #[] w fun e w' => e = .returned (sqv wholeS) ∧ Below w.heap.size w w' := by
  unfold sqv wholeS
  go_enter Tryz.func68, Tryz.ntmps68
  go_wp2_with fail
  refine bodyPost_ret (v := .agg #[.int .i64 10, .int .i64 0, .int .i64 0]) (by simp [results, Tryz.results68, go_sem]) rfl ⟨rfl, below_new _⟩

theorem rkids_any (s : Sq) (w : World) (h : s.okB = true) :
    Calls Tryz.prog 100 #[.agg #[.int .i64 s.l, .int .i64 s.x, .int .i64 s.y]] w fun e w' => (∃ v, e = .returned v ∧ SqSl w' w'.heap.size v (kidsS s)) ∧ Below w.heap.size w w' := by
  obtain ⟨h1, h2, h3, h4, h5, h6⟩ := (Sq.okB_iff s).1 h
  have hs := side_le s.l h1
  clear h
  go_enter Tryz.func100, Tryz.ntmps100
  go_wp2_with fail
  go_ret
  refine ⟨⟨_, rfl, newsq_sl (B := w.heap.size) ⟨w.heap.size + 5, 4, rfl, by omega, by simp, ?_⟩⟩, by (repeat (first | exact Below.refl _ _ | refine Below.drew ?_ | refine below_drewN ?_ _ | refine Below.alloc ?_ (by simp; try omega) _ | refine Below.setCell ?_ (by simp; try omega) _))⟩
  unfold kidsS
  intro i t hi
  match i, hi with
  | 0, hi => simp at hi; subst hi; exact ⟨new_cells _ _ (by simp) _ _, new_cells _ _ (by simp) _ _, new_cells _ _ (by simp) _ _⟩
  | 1, hi => simp at hi; subst hi; exact ⟨new_cells _ _ (by simp) _ _, new_cells _ _ (by simp) _ _, new_cells _ _ (by simp) _ _⟩
  | 2, hi => simp at hi; subst hi; exact ⟨new_cells _ _ (by simp) _ _, new_cells _ _ (by simp) _ _, new_cells _ _ (by simp) _ _⟩
  | 3, hi => simp at hi; subst hi; exact ⟨new_cells _ _ (by simp) _ _, new_cells _ _ (by simp) _ _, new_cells _ _ (by simp) _ _⟩
theorem infoPt : (Tryz.prog.info? 58).map (fun i => (i.zero, i.size, i.bytes)) = some (some (.pointer none), 1, 8) := by kernel_rfl

theorem sl_formJ {w : World} {B : Nat} {v : Value} {L : List Sq} (h : SqSl w B v L) : ∃ A c, v = .slice A L.length c := by
  obtain ⟨A, c, h, _⟩ := h; exact ⟨A, c, h⟩
theorem sl_atJ {w : World} {A : Option Addr} {n c i : Nat} {L : List Sq} (h : SqSl w w.heap.size (.slice A n c) L) (hi : i < n) : ∃ s ad, L[i]? = some s ∧ s ∈ L ∧ A = some ad ∧ ad.block < w.heap.size ∧
    w.cell? (ad.add (i * 3)) = some (.int .i64 s.l) ∧ w.cell? ⟨(ad.add (i * 3)).block, (ad.add (i * 3)).off + 1, none⟩ = some (.int .i64 s.x) ∧ w.cell? ⟨(ad.add (i * 3)).block, (ad.add (i * 3)).off + 2, none⟩ = some (.int .i64 s.y) := by
  obtain ⟨A', c', e, hS⟩ := h
  injection e with e1 e2 e3
  subst e1
  exact hS.at_ rfl (by omega)
theorem tree_pass {B : Nat} {X Y Z : World} {t : Tr} {u v v4 : Value} (h : TreeAt X (fun k => B ≤ k ∧ some k ≠ v.ownBlock) t u) (hb : Below X.heap.size X Y) (hg : Y.grownBy Z v.ownBlock) (hob : v4.ownBlock = v.ownBlock ∨ v4.ownBlock = some Y.heap.size) : TreeAt Z (fun k => B ≤ k ∧ some k ≠ v4.ownBlock) t u := by
  have h2 : TreeAt Y (fun k => (B ≤ k ∧ some k ≠ v.ownBlock) ∧ some k ≠ v4.ownBlock) t u := (h.step hb).imp fun k hk hp => ⟨hp, by
    rcases hob with e | e
    · rw [e]; exact hp.2
    · rw [e]; intro h; injection h; omega⟩
  exact (h2.keep hg.size fun k hk hp => hg.block k hk hp.1.2).imp fun k _ hp => ⟨hp.1.1, hp.2⟩
theorem own_cellsV {W : World} {base n : Nat} {t : TypeId} {v : Value} {xs : List Value} (h : W.ownsRow base t 1 v n xs) (h0 : 0 < n) :
    ∃ g cap, v = .slice (some ⟨g, 0, none⟩) n cap ∧ base ≤ g ∧ g < W.heap.size ∧ ∀ i u, xs[i]? = some u → W.cell? ⟨g, i, none⟩ = some u := by
  have h' := h
  obtain ⟨hl, ⟨_, h0'⟩ | ⟨g, cap, cur, rfl, hb, hg, _⟩⟩ := h
  · omega
  · refine ⟨g, cap, rfl, hb, (Array.getElem?_eq_some_iff.1 hg).1, fun i x hx => ?_⟩
    obtain ⟨hi, e⟩ := List.getElem?_eq_some_iff.1 hx
    rw [h'.cellAt i (by omega)]
    exact hx
/-- some trees, one behind the other, in a row of the call's own -/
structure TreesI (B : Nat) (W : World) (v : Value) (ts : List Tr) (j : Nat) (X : World) : Prop where
  row : ∃ vals : List Value, OwJ W 58 1 v j vals X ∧ vals.length = j ∧ ∀ i t, i < j → ts[i]? = some t → ∃ u, vals[i]? = some u ∧ TreeAt X (fun k => B ≤ k ∧ some k ≠ v.ownBlock) t u
theorem TreesI.next {B : Nat} {W X X2 Y Z : World} {v v4 u : Value} {ts : List Tr} {j : Nat} {t : Tr} {vals : List Value} (hO : OwJ W 58 1 v j vals X) (hl : vals.length = j) (ht : ∀ i t, i < j → ts[i]? = some t → ∃ u, vals[i]? = some u ∧ TreeAt X (fun k => B ≤ k ∧ some k ≠ v.ownBlock) t u)
    (hj : ts[j]? = some t) (hB : B ≤ X.heap.size) (hu : TreeAt X2 (fun k => X.heap.size ≤ k) t u) (h1 : Below X.heap.size X X2) (h2 : Below X2.heap.size X2 Y) (hg : Y.grownBy Z v.ownBlock) (ho : Z.ownsRow W.heap.size 58 1 v4 (j + 1) (vals ++ [u])) (hob : v4.ownBlock = v.ownBlock ∨ v4.ownBlock = some Y.heap.size) : TreesI B W v4 ts (j + 1) Z := by
  have hb := h1.trans (h2.mono h1.size)
  refine ⟨vals ++ [u], hO.grown hb hg ho, by simp [hl], fun i t' hi ht' => ?_⟩
  by_cases hij : i < j
  · obtain ⟨u', e, h⟩ := ht i t' hij ht'
    exact ⟨u', by rw [List.getElem?_append_left (by omega)]; exact e, tree_pass h hb hg hob⟩
  · obtain rfl : i = j := by omega
    rw [hj] at ht'
    injection ht' with ht'
    subst ht'
    refine ⟨u, by rw [← hl]; simp, tree_pass (v := v) (X := X2) (hu.imp fun k _ hk => ⟨by omega, fun e => ?_⟩) h2 hg hob⟩
    have := (hO.own.lt k e.symm).2
    omega

theorem filter_next {P : Sq → Bool} {L : List Sq} {i : Nat} {q : Sq} (h : L[i]? = some q) : (L.take (i + 1)).filter P = (L.take i).filter P ++ (if P q then [q] else []) := by
  obtain ⟨hi, e⟩ := List.getElem?_eq_some_iff.1 h
  rw [List.take_succ_eq_append_getElem hi, List.filter_append, e]
  cases hp : P q <;> simp [hp]
theorem any_nextJ {P : Sq → Bool} {L : List Sq} {i : Nat} {s : Sq} (h : L[i]? = some s) : (L.take (i + 1)).any P = ((L.take i).any P || P s) := by
  obtain ⟨hi, e⟩ := List.getElem?_eq_some_iff.1 h
  rw [List.take_succ_eq_append_getElem hi, List.any_append, e]; simp
theorem grow_all {f : Nat} {s : Sq} {L : List Sq} (h : L.any (fun q => withinS s q) = true) : growT f s L = .leaf true := by
  cases f with
  | zero => unfold growT; rw [h]
  | succ f => unfold growT; rw [if_pos h]
theorem grow_nil {f : Nat} {s : Sq} {L : List Sq} (h : L.any (fun q => withinS s q) = false) (h2 : L.filter (fun q => withinS q s) = []) : growT f s L = .leaf false := by
  cases f with
  | zero => unfold growT; rw [h]
  | succ f => unfold growT; rw [if_neg (by rw [h]; decide), if_pos h2]
theorem grow_node {f : Nat} {s : Sq} {L : List Sq} (hl : s.l = (f : Int)) (hL : ∀ q ∈ L, q.okB = true) (h : L.any (fun q => withinS s q) = false) (h2 : L.filter (fun q => withinS q s) ≠ []) :
    ∃ f', f = f' + 1 ∧ growT f s L = tidyT (growT f' (k0 s) (L.filter fun q => withinS q s)) (growT f' (k1 s) (L.filter fun q => withinS q s)) (growT f' (k2 s) (L.filter fun q => withinS q s)) (growT f' (k3 s) (L.filter fun q => withinS q s)) := by
  cases f with
  | zero =>
    obtain ⟨q, t, e⟩ := List.exists_cons_of_ne_nil h2
    have hq : q ∈ L.filter fun q => withinS q s := by rw [e]; exact List.mem_cons_self
    obtain ⟨hq2, hw⟩ := List.mem_filter.1 hq
    have e2 := within_level hw (by have := (ok_l (hL q hq2)).1; have := (Go.Plc.within_iff.1 hw).1; omega)
    subst e2
    have := List.any_eq_true.2 ⟨q, hq2, Go.Plc.within_refl q⟩
    rw [h] at this; cases this
  | succ f' => exact ⟨f', rfl, by conv => lhs; unfold growT
                                  rw [if_neg (by rw [h]; decide), if_neg h2]⟩

set_option maxRecDepth 100000 in
set_option maxHeartbeats 8000000 in
theorem growing_any : ∀ (f : Nat) (s : Sq) (L : List Sq) (v : Value) (w : World), s.l = (f : Int) → s.okB = true → (∀ q ∈ L, q.okB = true) → L.length ≤ 100000 → SqSl w w.heap.size v L →
    Calls Tryz.prog 90 #[.agg #[.int .i64 s.l, .int .i64 s.x, .int .i64 s.y], v] w fun e w' => (∃ u, e = .returned u ∧ TreeAt w' (fun k => w.heap.size ≤ k) (growT f s L) u) ∧ Below w.heap.size w w' := fun f => by
  induction f using Nat.strongRecOn with
  | _ f ih =>
    intro s L v w hl hs hL hn hv
    obtain ⟨A, c, rfl⟩ := sl_formJ hv
    have K0 := Lib.hid (show KB w [(w.heap.size, sqO s)] [(.slice A L.length c, L)] (w.alloc (sqO s)) from
      (KB.slice (KB.mk (Below.refl _ _) (fun p hp => (by cases hp)) (fun q hq => (by cases hq)) : KB w [] [] w) hv).new (sqO s))
    have HG := Lib.hid (show growT f s L = growT f s L from rfl)
    have HS := Lib.hid hs
    have HL := Lib.hid hL
    have HI := Lib.hid ih
    have Hf := Lib.hid hl
    obtain ⟨i0, hi0, hz0, hz1, hz2⟩ := info_parts infoSq
    have HZ := Lib.hid (show i0.size = 3 ∧ i0.bytes = 24 ∧ Tryz.prog.info? 31 = some i0 ∧ i0.zero = some (.agg #[.int .i64 0, .int .i64 0, .int .i64 0]) from ⟨hz1, hz2, hi0, hz0⟩)
    clear hz0 hz1 hz2 hi0 hv hl hs hL ih
    unfold sqO at *
    generalize hnn : L.length = n at *
    have HN := Lib.hid hnn
    clear hnn
    go_enter Tryz.func90, Tryz.ntmps90
    go_wp2_with fail
    obtain ⟨W0, hW0⟩ : ∃ W0, w.alloc (.cells #[.int .i64 s.l, .int .i64 s.x, .int .i64 s.y] 31) = W0 := ⟨_, rfl⟩
    rw [hW0] at K0 ⊢
    clear hW0
    generalize hg0 : w.heap.size = g0 at *
    have HG0 := Lib.hid hg0
    clear hg0
    go_loopw [5, 6] (fun v k wr => ∃ i : Nat, k = .int .i64 (i : Int) ∧ i ≤ n ∧ (L.take i).any (fun q => withinS s q) = false ∧ OwJ W0 31 3 v ((L.take i).filter fun q => withinS q s).length (cellsOf ((L.take i).filter fun q => withinS q s)) wr) (fun _ k _ => n - (intOf k).toNat)
    case atStart => exact ⟨0, rfl, by omega, rfl, OwJ.start _ _ _⟩
    case round =>
      obtain ⟨i, rfl, hin, hno, hI⟩ := hrel
      have HO := Lib.hid hI
      have HNo := Lib.hid hno
      have HO_len := Lib.hid (show ((L.take i).filter fun q => withinS q s).length ≤ i from by have h1 := List.length_filter_le (fun q => withinS q s) (L.take i); rw [List.length_take] at h1; omega)
      clear hI hno
      by_cases hlt : i < n
      · have KI := Lib.hid (K0.out.step HO.out.bel)
        obtain ⟨q, ad, hq, hqm, rfl, hbd, d1, d2, d3⟩ := sl_atJ (KI.out.sl (.slice A n c, L) List.mem_cons_self) hlt
        obtain ⟨a0, a1, a2⟩ := sq_cells (s := s) (KI.out.mem (g0, _) List.mem_cons_self)
        have ss := fun z => (⟨⟨Wb.cell d1 z, Wb.cell d2 z, Wb.cell d3 z⟩, ⟨Wb.cell a0 z, Wb.cell a1 z, Wb.cell a2 z⟩⟩ : (_ ∧ _ ∧ _) ∧ (_ ∧ _ ∧ _))
        have HI1 := Lib.hid (fun w => rInside_any s q w HS.out (HL.out q hqm))
        have HI2 := Lib.hid (fun w => rInside_any q s w (HL.out q hqm) HS.out)
        unfold sqv at HI1 HI2
        obtain ⟨b1, hb1e⟩ : ∃ b, withinS s q = b := ⟨_, rfl⟩
        obtain ⟨b2, hb2e⟩ : ∃ b, withinS q s = b := ⟨_, rfl⟩
        rw [hb1e] at HI1
        rw [hb2e] at HI2
        have HQ := Lib.hid (show L[i]? = some q ∧ (L.take (i + 1)).any (fun q => withinS s q) = b1 ∧ (L.take (i + 1)).filter (fun q => withinS q s) = (L.take i).filter (fun q => withinS q s) ++ (if b2 then [q] else []) from
          ⟨hq, by rw [any_nextJ hq, HNo.out, hb1e]; rfl, by rw [filter_next hq, hb2e]⟩)
        have HAll := Lib.hid (show b1 = true → growT f s L = .leaf true from fun h => grow_all (List.any_eq_true.2 ⟨q, hqm, hb1e.trans h⟩))
        clear hq hqm hb1e hb2e
        generalize (L.take i).filter (fun q => withinS q s) = I at *
        have hIn : I.length ≤ i := HO_len.out
        cases b1
        · go_wp2_with fail
          refine wp_region_wb (by kernel_rfl) (by kernel_rfl) ?_; (repeat ((with_reducible refine wpQuiet_step ?_); intro K hK; go_simp; (try (refine ite_neg_of (by simp [undef]) ?_)); first | (with_reducible refine hK _ ?_; clear hK K) | (apply Exists.intro; (with_reducible refine ⟨fun _ => ?_, hK _ ?_⟩); ((go_at_call 63; exact Calls.wb (HI1.out _))); clear hK K))); (with_reducible refine wpQuiet_nil ?_); rintro w1 ⟨⟨_, hb1⟩, rfl⟩; (try dsimp only)
          have KJ := Lib.hid (KI.out.step hb1)
          have HOJ := Lib.hid (HO.out.step hb1)
          clear hb1 ss a0 a1 a2 d1 d2 d3 hbd KI HO
          obtain ⟨q', ad', hq', hqm', had, hbd, d1, d2, d3⟩ := sl_atJ (KJ.out.sl (.slice (some ad) n c, L) List.mem_cons_self) hlt
          obtain rfl : q = q' := by have := HQ.out.1; rw [hq'] at this; injection this with this; exact this.symm
          injection had with had
          subst had
          obtain ⟨a0, a1, a2⟩ := sq_cells (s := s) (KJ.out.mem (g0, _) List.mem_cons_self)
          clear hq' hqm'
          have ss := fun z => (⟨⟨Wb.cell d1 z, Wb.cell d2 z, Wb.cell d3 z⟩, ⟨Wb.cell a0 z, Wb.cell a1 z, Wb.cell a2 z⟩⟩ : (_ ∧ _ ∧ _) ∧ (_ ∧ _ ∧ _))
          cases b2
          · go_wp2_with fail
            refine wp_region_wb (by kernel_rfl) (by kernel_rfl) ?_; (repeat ((with_reducible refine wpQuiet_step ?_); intro K hK; go_simp; (try (refine ite_neg_of (by simp [undef]) ?_)); first | (with_reducible refine hK _ ?_; clear hK K) | (apply Exists.intro; (with_reducible refine ⟨fun _ => ?_, hK _ ?_⟩); ((go_at_call 63; exact Calls.wb (HI2.out _))); clear hK K))); (with_reducible refine wpQuiet_nil ?_); rintro w1 ⟨⟨_, hb1⟩, rfl⟩; (try dsimp only)
            go_wp2_with fail
            have HOK := Lib.hid (show OwJ W0 31 3 u5 ((L.take (i + 1)).filter fun q => withinS q s).length (cellsOf ((L.take (i + 1)).filter fun q => withinS q s)) w1 from by
              rw [HQ.out.2.2]; simpa using HOJ.out.step hb1)
            go_roundw
            case rel => exact ⟨i + 1, by go_num, by omega, HQ.out.2.1, HOK.out⟩
            case measure => simp [intOf]; omega
          · go_wp2_with fail
            refine wp_region_wb (by kernel_rfl) (by kernel_rfl) ?_; (repeat ((with_reducible refine wpQuiet_step ?_); intro K hK; go_simp; (try (refine ite_neg_of (by simp [undef]) ?_)); first | (with_reducible refine hK _ ?_; clear hK K) | (apply Exists.intro; (with_reducible refine ⟨fun _ => ?_, hK _ ?_⟩); ((go_at_call 63; exact Calls.wb (HI2.out _))); clear hK K))); (with_reducible refine wpQuiet_nil ?_); rintro w1 ⟨⟨_, hb1⟩, rfl⟩; (try dsimp only)
            have KJ2 := Lib.hid (KJ.out.step hb1)
            have HOK := Lib.hid (HOJ.out.step hb1)
            clear hb1 ss a0 a1 a2 d1 d2 d3 hbd KJ HOJ
            have KJ := KJ2
            clear KJ2
            obtain ⟨q', ad', hq', hqm', had, hbd, d1, d2, d3⟩ := sl_atJ (KJ.out.sl (.slice (some ad) n c, L) List.mem_cons_self) hlt
            obtain rfl : q = q' := by have := HQ.out.1; rw [hq'] at this; injection this with this; exact this.symm
            injection had with had
            subst had
            obtain ⟨a0, a1, a2⟩ := sq_cells (s := s) (KJ.out.mem (g0, _) List.mem_cons_self)
            clear hq' hqm'
            have HO3 := Lib.hid ((HOK.out.own).alloc (.cells #[.int .i64 q.l, .int .i64 q.x, .int .i64 q.y] 31))
            have HNw := Lib.hid (news1 w1 q)
            have HBs := Lib.hid (show W0.heap.size ≤ (w1.alloc (.cells #[.int .i64 q.l, .int .i64 q.x, .int .i64 q.y] 31)).heap.size from by have := HOK.out.bound; simp; omega)
            go_wp2_with (at_builtin; refine wpList_append_own _ rfl _ _ 22 rfl W0.heap.size 31 i0 (.agg #[.int .i64 0, .int .i64 0, .int .i64 0]) 3 24 Tryz.underlying22 HZ.out.2.2.1 HZ.out.2.2.2 HZ.out.1 HZ.out.2.1 rfl (by decide) u5 I.length (cellsOf I) rfl HO3.out ⟨w1.heap.size, 0, none⟩ 1 1 [.int .i64 q.l, .int .i64 q.x, .int .i64 q.y] rfl rfl HNw.out.1 HNw.out.2 (by unfold maxLen; omega) (by omega) HBs.out ?_; intro v4 w4 hown4 hg4 hnn4)
            have HOL := Lib.hid (show OwJ W0 31 3 v4 ((L.take (i + 1)).filter fun q => withinS q s).length (cellsOf ((L.take (i + 1)).filter fun q => withinS q s)) w4 from by
              have h := HOK.out.grown (below_new _) hg4 hown4
              rw [HQ.out.2.2]
              simp only [if_true, List.length_append, List.length_singleton]
              rw [cells_snoc]; exact h)
            clear hown4 hg4 hnn4
            go_roundw
            case rel => exact ⟨i + 1, by go_num, by omega, HQ.out.2.1, HOL.out⟩
            case measure => simp [intOf]; omega
        · go_wp2_with fail
          refine wp_region_wb (by kernel_rfl) (by kernel_rfl) ?_; (repeat ((with_reducible refine wpQuiet_step ?_); intro K hK; go_simp; (try (refine ite_neg_of (by simp [undef]) ?_)); first | (with_reducible refine hK _ ?_; clear hK K) | (apply Exists.intro; (with_reducible refine ⟨fun _ => ?_, hK _ ?_⟩); ((go_at_call 63; exact Calls.wb (HI1.out _))); clear hK K))); (with_reducible refine wpQuiet_nil ?_); rintro w1 ⟨⟨_, hb1⟩, rfl⟩; (try dsimp only)
          have KJ := Lib.hid (KI.out.step hb1)
          clear hb1 ss a0 a1 a2 d1 d2 d3 hbd KI HO
          go_wp2_with fail
          go_ret
          refine ⟨⟨_, rfl, ?_⟩, KJ.out.bel.trans ((below_new _).mono KJ.out.bel.size)⟩
          rw [HAll.out (by simp)]
          exact ⟨_, rfl, KJ.out.bel.size, World.alloc_heap_new _ _⟩
      · have hfull : L.take i = L := List.take_of_length_le (by have := HN.out; omega)
        rw [hfull] at HO HNo
        clear hfull
        have KI := Lib.hid (K0.out.step HO.out.bel)
        obtain ⟨I, hIe⟩ : ∃ I, L.filter (fun q => withinS q s) = I := ⟨_, rfl⟩
        rw [hIe] at HO
        by_cases hI0 : I = []
        · have HR := Lib.hid (grow_nil (f := f) HNo.out (hIe.trans hI0))
          subst hI0
          obtain ⟨Ai, ci, rfl⟩ := own_form HO.out.own
          clear hIe
          go_wp2_with fail
          go_ret
          refine ⟨⟨_, rfl, ?_⟩, KI.out.bel.trans ((below_new _).mono KI.out.bel.size)⟩
          rw [HR.out]
          exact ⟨_, rfl, KI.out.bel.size, World.alloc_heap_new _ _⟩
        · obtain ⟨f', hf', hgr⟩ := grow_node Hf.out HL.out HNo.out (by rw [hIe]; exact hI0)
          rw [hIe] at hgr
          have HR := Lib.hid hgr
          have HIok := Lib.hid (show ∀ q ∈ I, q.okB = true from fun q hq => HL.out q (List.mem_filter.1 (hIe ▸ hq)).1)
          have HIlen := Lib.hid (show I.length ≤ 100000 from by have h1 := List.length_filter_le (fun q => withinS q s) L; rw [hIe] at h1; have := HN.out; omega)
          have hs1 : 1 ≤ s.l := by have := Hf.out; omega
          have HKl := Lib.hid (fun q (hq : q ∈ kidsS s) => (⟨(mem_kids.1 hq).1.trans (by have := Hf.out; omega), kid_ok HS.out hq hs1⟩ : q.l = (f' : Int) ∧ q.okB = true))
          have HIs := Lib.hid (show SqSl wr wr.heap.size u5 I from SqA.of_own HO.out.own)
          have hni0 : 0 < I.length := List.length_pos_iff.2 hI0
          obtain ⟨Ai, ci, rfl⟩ := own_form HO.out.own
          have K1 := Lib.hid (KI.out.slice HIs.out)
          obtain ⟨a0, a1, a2⟩ := sq_cells (s := s) (KI.out.mem (g0, _) List.mem_cons_self)
          have hgk : g0 ≤ wr.heap.size := by have := KI.out.bel.size; have := HG0.out; omega
          clear hIe hgr hI0 KI HIs HO HNo HO_len
          generalize hni : I.length = ni at *
          go_wp2_with fail
          refine (rkids_any s _ HS.out).mono ?_
          rintro e W1 ⟨⟨cv, rfl, hs⟩, hb⟩
          obtain ⟨Ac, cc, rfl⟩ := sl_formJ hs
          rw [show (kidsS s).length = 4 from rfl] at hs ⊢
          have K2 := Lib.hid ((K1.out.step hb).slice hs)
          have hgk1 : g0 ≤ W1.heap.size := Nat.le_trans hgk hb.size
          clear hs hb K1 a0 a1 a2 hgk
          go_wp2_with fail
          obtain ⟨j0, hj0, hz0, hz1, hz2⟩ := info_parts infoPt
          have HZp := Lib.hid (show j0.size = 1 ∧ j0.bytes = 8 ∧ Tryz.prog.info? 58 = some j0 ∧ j0.zero = some (.pointer none) from ⟨hz1, hz2, hj0, hz0⟩)
          clear hz0 hz1 hz2 hj0
          go_loopw [7, 9] (fun v k wr => ∃ j : Nat, k = .int .i64 (j : Int) ∧ j ≤ 4 ∧ TreesI g0 W1 v [growT f' (k0 s) I, growT f' (k1 s) I, growT f' (k2 s) I, growT f' (k3 s) I] j wr) (fun _ k _ => 4 - (intOf k).toNat)
          case atStart => exact ⟨0, rfl, by omega, ⟨[], OwJ.start _ _ _, rfl, fun i t h => absurd h (by omega)⟩⟩
          case round =>
            obtain ⟨j, rfl, hj, ⟨vals, hO, hvl, hts⟩⟩ := hrel
            have HO := Lib.hid hO
            have HTs := Lib.hid hts
            have HVl := Lib.hid hvl
            have K3 := Lib.hid (K2.out.step hO.bel)
            have hgk2 : g0 ≤ wr.heap.size := Nat.le_trans hgk1 hO.bel.size
            clear hO hts hvl
            by_cases hlt2 : j < 4
            · obtain ⟨q, ad, hq, hqm, rfl, hbd, d1, d2, d3⟩ := sl_atJ (K3.out.sl (.slice Ac 4 cc, kidsS s) List.mem_cons_self) hlt2
              have HQ := Lib.hid (HKl.out q hqm)
              have HTj := Lib.hid (show [growT f' (k0 s) I, growT f' (k1 s) I, growT f' (k2 s) I, growT f' (k3 s) I][j]? = some (growT f' q I) from by
                have hc : j = 0 ∨ j = 1 ∨ j = 2 ∨ j = 3 := by omega
                rw [kids_eq] at hq
                rcases hc with rfl | rfl | rfl | rfl <;> (simp at hq; subst hq; rfl))
              clear hq hqm
              go_wp2_with fail
              refine (HI.out f' (by omega) q I _ _ HQ.out.1 HQ.out.2 HIok.out (by rw [hni]; exact HIlen.out) (K3.out.sl (_, I) (List.mem_cons_of_mem _ List.mem_cons_self))).mono ?_
              rintro e w2 ⟨⟨u, rfl, hu⟩, hb2⟩
              obtain ⟨gu, rfl, _, _⟩ := hu.flag
              have HU := Lib.hid (And.intro hu hb2)
              have HO3 := Lib.hid (((HO.out.step hb2).own).alloc (.cells #[.pointer (some ⟨gu, 0, none⟩)] 58))
              have HNw := Lib.hid (cell_one_new w2 (.pointer (some ⟨gu, 0, none⟩)) 58)
              have HBs := Lib.hid (show W1.heap.size ≤ (w2.alloc (.cells #[.pointer (some ⟨gu, 0, none⟩)] 58)).heap.size from by have := (HO.out.step hb2).bound; simp; omega)
              clear hu hb2 d1 d2 d3 hbd
              go_wp2_with (at_builtin; refine wpList_append_own_at _ rfl _ _ 111 rfl W1.heap.size 58 j0 (.pointer none) 1 8 Tryz.underlying111 HZp.out.2.2.1 HZp.out.2.2.2 HZp.out.1 HZp.out.2.1 rfl (by decide) u7 j vals rfl HO3.out ⟨w2.heap.size, 0, none⟩ 1 1 [.pointer (some ⟨gu, 0, none⟩)] rfl rfl HNw.out (by intro u hu; simp at hu; subst hu; rfl) (by unfold maxLen; omega) (by omega) HBs.out ?_; intro v4 w4 hown4 hg4 hnn4 hob4)
              have HNx := Lib.hid (TreesI.next HO.out HVl.out HTs.out HTj.out hgk2 HU.out.1 HU.out.2 (below_new _) hg4 hown4 hob4)
              clear hown4 hg4 hnn4 hob4
              go_roundw
              case rel => exact ⟨j + 1, by go_num, by omega, HNx.out⟩
              case measure => simp [intOf]; omega
            · obtain rfl : j = 4 := by omega
              obtain ⟨r, cap, rfl, hr1, hr2, hcells⟩ := own_cellsV HO.out.own (by omega)
              obtain ⟨ua, ea, ta⟩ := HTs.out 0 _ (by omega) rfl
              obtain ⟨ub, eb, tb⟩ := HTs.out 1 _ (by omega) rfl
              obtain ⟨uc, ec, tc⟩ := HTs.out 2 _ (by omega) rfl
              obtain ⟨ud, ed, td⟩ := HTs.out 3 _ (by omega) rfl
              have HTd := Lib.hid (tidy_any _ _ _ _ r cap ua ub uc ud wr (fun k => g0 ≤ k) (by omega) hr2 ⟨hcells 0 _ ea, hcells 1 _ eb, hcells 2 _ ec, hcells 3 _ ed⟩ (ta.imp fun _ _ h => h.1) (tb.imp fun _ _ h => h.1) (tc.imp fun _ _ h => h.1) (td.imp fun _ _ h => h.1))
              have HBw := Lib.hid K3.out.bel
              rw [← HR.out] at HTd
              clear ta tb tc td ea eb ec ed hcells K3 HTs HO HVl
              go_wp2_with fail
              refine HTd.out.mono ?_
              rintro e w5 ⟨⟨u, rfl, hu⟩, hb5⟩
              have HFn := Lib.hid (And.intro (hu.imp (P' := fun k => w.heap.size ≤ k) fun k _ h => (by have := HG0.out; rcases h with h | h <;> omega)) (HBw.out.trans (hb5.mono HBw.out.size)))
              obtain ⟨gu, rfl, _, _⟩ := hu.flag
              clear hu hb5
              go_wp2_with fail
              go_ret
              exact ⟨⟨_, rfl, HFn.out.1⟩, HFn.out.2⟩
end Go.Proofs.YtabolonlkocopaaGreatDoor

/- Trees of the reference: grow, mix. -/
namespace Go.Proofs.YtabolonlkocopaaGreatDoor
open Go.RowKit Go.Plc

theorem grow_any (v : Value) (L : List Sq) (w : World) (hL : ∀ q ∈ L, q.okB = true) (hn : L.length ≤ 100000) (hv : SqSl w w.heap.size v L) :
    Calls Tryz.prog 43 #[v] w fun e w' => (∃ u, e = .returned u ∧ TreeAt w' (fun k => w.heap.size ≤ k) (growS L) u) ∧ Below w.heap.size w w' := by
  have HV := Lib.hid hv
  obtain ⟨A, c, rfl⟩ := sl_formJ hv
  have HG := Lib.hid (fun w h => growing_any 10 wholeS L (.slice A L.length c) w rfl whole_ok hL hn h)
  clear hv hL
  generalize L.length = n at *
  go_enter Tryz.func43, Tryz.ntmps43
  go_wp2_with fail
  refine (whole_any _).mono ?_
  rintro e w1 ⟨rfl, hb1⟩
  have HB := Lib.hid hb1
  clear hb1
  unfold sqv
  go_wp2_with fail
  refine (HG.out _ ((HV.out.below HB.out).mono HB.out.size)).mono ?_
  rintro e w2 ⟨⟨u, rfl, hu⟩, hb2⟩
  have HU := Lib.hid (And.intro (hu.imp (P' := fun k => w.heap.size ≤ k) fun k _ h => Nat.le_trans HB.out.size h) (HB.out.trans (hb2.mono HB.out.size)))
  obtain ⟨gu, rfl, _, _⟩ := hu.flag
  clear hu hb2
  go_wp2_with fail
  go_ret
  exact ⟨⟨_, rfl, HU.out.1⟩, HU.out.2⟩

def opK (k : Int) (a b : Bool) : Bool := if k = 0 then a || b else if k = 1 then a && b else a && !b
theorem mix_node (op : Bool → Bool → Bool) {a b : Tr} (h : ¬ ((∃ x, a = .leaf x) ∧ ∃ y, b = .leaf y)) : mixT op a b = tidyT (mixT op (kidT a 0) (kidT b 0)) (mixT op (kidT a 1) (kidT b 1)) (mixT op (kidT a 2) (kidT b 2)) (mixT op (kidT a 3) (kidT b 3)) := by
  cases a with
  | leaf x =>
    cases b with
    | leaf y => exact absurd ⟨⟨x, rfl⟩, y, rfl⟩ h
    | node b0 b1 b2 b3 => rw [mixT]; rfl
  | node a0 a1 a2 a3 =>
    cases b with
    | leaf y => rw [mixT]; rfl
    | node b0 b1 b2 b3 => rw [mixT]; rfl
theorem kid_size (a : Tr) (i : Nat) : SizeOf.sizeOf (kidT a i) ≤ SizeOf.sizeOf a ∧ ((∀ x, a ≠ .leaf x) → SizeOf.sizeOf (kidT a i) < SizeOf.sizeOf a) := by
  cases a with
  | leaf x => exact ⟨by simp [kidT], fun h => absurd rfl (h x)⟩
  | node a0 a1 a2 a3 =>
    have : SizeOf.sizeOf (kidT (.node a0 a1 a2 a3) i) < SizeOf.sizeOf (Tr.node a0 a1 a2 a3) := by
      match i with
      | 0 => simp [kidT]; omega
      | 1 => simp [kidT]; omega
      | 2 => simp [kidT]; omega
      | _ + 3 => simp [kidT]; omega
    exact ⟨by omega, fun _ => this⟩
theorem kids_size {a b : Tr} (h : ¬ ((∃ x, a = .leaf x) ∧ ∃ y, b = .leaf y)) (i : Nat) : SizeOf.sizeOf (kidT a i) + SizeOf.sizeOf (kidT b i) < SizeOf.sizeOf a + SizeOf.sizeOf b := by
  have h1 := kid_size a i
  have h2 := kid_size b i
  by_cases ha : ∃ x, a = .leaf x
  · have hb : ∀ x, b ≠ .leaf x := fun x e => h ⟨ha, x, e⟩
    have := h2.2 hb
    omega
  · have := h1.2 (fun x e => ha ⟨x, e⟩)
    omega
/-- the two cells of a tree's block -/
theorem TreeAt.two {W : World} {P : Nat → Prop} {t : Tr} {v : Value} (h : TreeAt W P t v) : ∃ (g : Nat) (m : Option Addr) (c : Nat × Nat), v = .pointer (some ⟨g, 0, none⟩) ∧ W.cell? ⟨g, 0, none⟩ = some (.bool (decide (t = .leaf true))) ∧ W.cell? ⟨g, 1, none⟩ = some (.slice m c.1 c.2) ∧ g < W.heap.size ∧ ((c.1 = 0 ∧ ∃ x, t = .leaf x) ∨ (c.1 = 4 ∧ ∀ x, t ≠ .leaf x)) := by
  cases t with
  | leaf b =>
    obtain ⟨g, rfl, hg, ho⟩ := h
    exact ⟨g, none, (0, 0), rfl, by rw [(cells_two ho).1]; cases b <;> rfl, (cells_two ho).2, (Array.getElem?_eq_some_iff.1 ho).1, .inl ⟨rfl, b, rfl⟩⟩
  | node a b c d =>
    obtain ⟨g, k, cap, va, vb, vc, vd, rfl, hg, ho, _⟩ := h
    exact ⟨g, some ⟨k, 0, none⟩, (4, cap), rfl, (cells_two ho).1, (cells_two ho).2, (Array.getElem?_eq_some_iff.1 ho).1, .inr ⟨rfl, fun x h => by cases h⟩⟩

set_option maxRecDepth 100000 in
set_option maxHeartbeats 8000000 in
theorem mix_any (kd : Int) (hkd : kd = 0 ∨ kd = 1 ∨ kd = 2) : ∀ (N : Nat) (a b : Tr) (va vb : Value) (w : World) (P : Nat → Prop), SizeOf.sizeOf a + SizeOf.sizeOf b ≤ N → TreeAt w P a va → TreeAt w P b vb →
    Calls Tryz.prog 92 #[va, vb, .int .i64 kd] w fun e w' => (∃ u, e = .returned u ∧ TreeAt w' (fun k => w.heap.size ≤ k) (mixT (opK kd) a b) u) ∧ Below w.heap.size w w' := fun N => by
  induction N using Nat.strongRecOn with
  | _ N ih =>
    intro a b va vb w P hN ha hb
    have HA := Lib.hid ha
    have HB := Lib.hid hb
    have HI := Lib.hid ih
    obtain ⟨ga, ma, ca, rfl, a0, a1, hga, hca⟩ := ha.two
    obtain ⟨gb, mb, cb, rfl, b0, b1, hgb, hcb⟩ := hb.two
    obtain ⟨na, pa⟩ := ca
    obtain ⟨nb, pb⟩ := cb
    try dsimp only at *
    clear ha hb ih
    by_cases hboth : (∃ x, a = .leaf x) ∧ ∃ y, b = .leaf y
    · obtain ⟨⟨x, rfl⟩, y, rfl⟩ := hboth
      obtain rfl : na = 0 := by rcases hca with h | h; exact h.1; exact absurd rfl (h.2 x)
      obtain rfl : nb = 0 := by rcases hcb with h | h; exact h.1; exact absurd rfl (h.2 y)
      have HR := Lib.hid (show mixT (opK kd) (.leaf x) (.leaf y) = .leaf (opK kd x y) from by rw [mixT])
      clear hca hcb HI HA HB
      rcases hkd with rfl | rfl | rfl <;> cases x <;> cases y
      all_goals
        simp only [Tr.leaf.injEq, decide_true, Bool.false_eq_true, decide_false] at a0 b0
        go_enter Tryz.func92, Tryz.ntmps92
        go_wp2_with fail
        go_ret
        refine ⟨⟨_, rfl, ?_⟩, below_new _⟩
        rw [HR.out]
        exact ⟨_, rfl, Nat.le_refl _, World.alloc_heap_new _ _⟩
    · have HR := Lib.hid (mix_node (opK kd) hboth)
      have HSz := Lib.hid (kids_size hboth)
      have hlen : ¬ ((na : Int) = 0 ∧ (nb : Int) = 0) := fun h => hboth ⟨by
          rcases hca with g | g
          · exact g.2
          · have := g.1; omega, by
          rcases hcb with g | g
          · exact g.2
          · have := g.1; omega⟩
      obtain ⟨j0, hj0, hz0, hz1, hz2⟩ := info_parts infoPt
      have HZp := Lib.hid (show j0.size = 1 ∧ j0.bytes = 8 ∧ Tryz.prog.info? 58 = some j0 ∧ j0.zero = some (.pointer none) from ⟨hz1, hz2, hj0, hz0⟩)
      have HN := Lib.hid hN
      clear hz0 hz1 hz2 hj0 hca hcb hboth hN
      go_enter Tryz.func92, Tryz.ntmps92
      by_cases hna : (na : Int) = 0
      · have hnb : ¬ (nb : Int) = 0 := fun h => hlen ⟨hna, h⟩
        obtain rfl : na = 0 := by omega
        clear hlen hna
        go_wp2_with fail
        have hd : ((nb : Int) == 0) = false := by simp; omega
        simp only [hd]
        clear hnb hd
        clear a0 a1 b0 b1
        go_loopw [7, 8] (fun v k wr => ∃ j : Nat, k = .int .i64 (j : Int) ∧ j ≤ 4 ∧ TreesI w.heap.size w v [mixT (opK kd) (kidT a 0) (kidT b 0), mixT (opK kd) (kidT a 1) (kidT b 1), mixT (opK kd) (kidT a 2) (kidT b 2), mixT (opK kd) (kidT a 3) (kidT b 3)] j wr) (fun _ k _ => 4 - (intOf k).toNat)
        case atStart => exact ⟨0, rfl, by omega, ⟨[], OwJ.start _ _ _, rfl, fun i t h => absurd h (by omega)⟩⟩
        case round =>
          obtain ⟨j, rfl, hj, ⟨vals, hO, hvl, hts⟩⟩ := hrel
          have HO := Lib.hid hO
          have HTs := Lib.hid hts
          have HVl := Lib.hid hvl
          have HAw := Lib.hid (HA.out.step hO.bel)
          have HBw := Lib.hid (HB.out.step hO.bel)
          have hgk2 := Lib.hid (show w.heap.size ≤ wr.heap.size from hO.bel.size)
          clear hO hts hvl
          by_cases hlt2 : j < 4
          · have HTj := Lib.hid (show [mixT (opK kd) (kidT a 0) (kidT b 0), mixT (opK kd) (kidT a 1) (kidT b 1), mixT (opK kd) (kidT a 2) (kidT b 2), mixT (opK kd) (kidT a 3) (kidT b 3)][j]? = some (mixT (opK kd) (kidT a j) (kidT b j)) from by
              have hc : j = 0 ∨ j = 1 ∨ j = 2 ∨ j = 3 := by omega
              rcases hc with rfl | rfl | rfl | rfl <;> rfl)
            go_wp2_with fail
            refine (kid_any a _ j hlt2 wr P HAw.out).mono ?_
            rintro e w1 ⟨⟨ua, rfl, hua⟩, rfl⟩
            obtain ⟨gua, rfl, _, _⟩ := hua.flag
            have HUa := Lib.hid hua
            clear hua
            go_wp2_with fail
            refine (kid_any b _ j hlt2 _ P HBw.out).mono ?_
            rintro e w2 ⟨⟨ub, rfl, hub⟩, rfl⟩
            obtain ⟨gub, rfl, _, _⟩ := hub.flag
            have HUb := Lib.hid hub
            clear hub
            go_wp2_with fail
            refine (HI.out (SizeOf.sizeOf (kidT a j) + SizeOf.sizeOf (kidT b j)) (Nat.lt_of_lt_of_le (HSz.out j) HN.out) _ _ _ _ _ P (Nat.le_refl _) HUa.out HUb.out).mono ?_
            rintro e w3 ⟨⟨u, rfl, hu⟩, hb2⟩
            obtain ⟨gu, rfl, _, _⟩ := hu.flag
            have HU := Lib.hid (And.intro hu hb2)
            have HO3 := Lib.hid (((HO.out.step hb2).own).alloc (.cells #[.pointer (some ⟨gu, 0, none⟩)] 58))
            have HNw := Lib.hid (cell_one_new w3 (.pointer (some ⟨gu, 0, none⟩)) 58)
            have HBs := Lib.hid (show w.heap.size ≤ (w3.alloc (.cells #[.pointer (some ⟨gu, 0, none⟩)] 58)).heap.size from by have := (HO.out.step hb2).bound; simp; omega)
            clear hu hb2
            go_wp2_with (at_builtin; refine wpList_append_own_at _ rfl _ _ 111 rfl w.heap.size 58 j0 (.pointer none) 1 8 Tryz.underlying111 HZp.out.2.2.1 HZp.out.2.2.2 HZp.out.1 HZp.out.2.1 rfl (by decide) u7 j vals rfl HO3.out ⟨w3.heap.size, 0, none⟩ 1 1 [.pointer (some ⟨gu, 0, none⟩)] rfl rfl HNw.out (by intro u hu; simp at hu; subst hu; rfl) (by unfold maxLen; omega) (by omega) HBs.out ?_; intro v4 w4 hown4 hg4 hnn4 hob4)
            have HNx := Lib.hid (TreesI.next HO.out HVl.out HTs.out HTj.out hgk2.out HU.out.1 HU.out.2 (below_new _) hg4 hown4 hob4)
            clear hown4 hg4 hnn4 hob4
            go_roundw
            case rel => exact ⟨j + 1, by go_num, by omega, HNx.out⟩
            case measure => simp [intOf]; omega
          · obtain rfl : j = 4 := by omega
            obtain ⟨r, cap, rfl, hr1, hr2, hcells⟩ := own_cellsV HO.out.own (by omega)
            obtain ⟨ua, ea, ta⟩ := HTs.out 0 _ (by omega) rfl
            obtain ⟨ub, eb, tb⟩ := HTs.out 1 _ (by omega) rfl
            obtain ⟨uc, ec, tc⟩ := HTs.out 2 _ (by omega) rfl
            obtain ⟨ud, ed, td⟩ := HTs.out 3 _ (by omega) rfl
            have HTd := Lib.hid (tidy_any _ _ _ _ r cap ua ub uc ud wr (fun k => w.heap.size ≤ k) hr1 hr2 ⟨hcells 0 _ ea, hcells 1 _ eb, hcells 2 _ ec, hcells 3 _ ed⟩ (ta.imp fun _ _ h => h.1) (tb.imp fun _ _ h => h.1) (tc.imp fun _ _ h => h.1) (td.imp fun _ _ h => h.1))
            have HBb := Lib.hid HO.out.bel
            rw [← HR.out] at HTd
            clear ta tb tc td ea eb ec ed hcells HTs HO HVl
            go_wp2_with fail
            refine HTd.out.mono ?_
            rintro e w5 ⟨⟨u, rfl, hu⟩, hb5⟩
            have HFn := Lib.hid (And.intro (hu.imp (P' := fun k => w.heap.size ≤ k) fun k _ h => (by have := hgk2.out; rcases h with h | h <;> omega)) (HBb.out.trans (hb5.mono HBb.out.size)))
            obtain ⟨gu, rfl, _, _⟩ := hu.flag
            clear hu hb5
            go_wp2_with fail
            go_ret
            exact ⟨⟨_, rfl, HFn.out.1⟩, HFn.out.2⟩
      · clear hlen
        go_wp2_with fail
        clear a0 a1 b0 b1
        go_loopw [7, 8] (fun v k wr => ∃ j : Nat, k = .int .i64 (j : Int) ∧ j ≤ 4 ∧ TreesI w.heap.size w v [mixT (opK kd) (kidT a 0) (kidT b 0), mixT (opK kd) (kidT a 1) (kidT b 1), mixT (opK kd) (kidT a 2) (kidT b 2), mixT (opK kd) (kidT a 3) (kidT b 3)] j wr) (fun _ k _ => 4 - (intOf k).toNat)
        case atStart => exact ⟨0, rfl, by omega, ⟨[], OwJ.start _ _ _, rfl, fun i t h => absurd h (by omega)⟩⟩
        case round =>
          obtain ⟨j, rfl, hj, ⟨vals, hO, hvl, hts⟩⟩ := hrel
          have HO := Lib.hid hO
          have HTs := Lib.hid hts
          have HVl := Lib.hid hvl
          have HAw := Lib.hid (HA.out.step hO.bel)
          have HBw := Lib.hid (HB.out.step hO.bel)
          have hgk2 := Lib.hid (show w.heap.size ≤ wr.heap.size from hO.bel.size)
          clear hO hts hvl
          by_cases hlt2 : j < 4
          · have HTj := Lib.hid (show [mixT (opK kd) (kidT a 0) (kidT b 0), mixT (opK kd) (kidT a 1) (kidT b 1), mixT (opK kd) (kidT a 2) (kidT b 2), mixT (opK kd) (kidT a 3) (kidT b 3)][j]? = some (mixT (opK kd) (kidT a j) (kidT b j)) from by
              have hc : j = 0 ∨ j = 1 ∨ j = 2 ∨ j = 3 := by omega
              rcases hc with rfl | rfl | rfl | rfl <;> rfl)
            go_wp2_with fail
            refine (kid_any a _ j hlt2 wr P HAw.out).mono ?_
            rintro e w1 ⟨⟨ua, rfl, hua⟩, rfl⟩
            obtain ⟨gua, rfl, _, _⟩ := hua.flag
            have HUa := Lib.hid hua
            clear hua
            go_wp2_with fail
            refine (kid_any b _ j hlt2 _ P HBw.out).mono ?_
            rintro e w2 ⟨⟨ub, rfl, hub⟩, rfl⟩
            obtain ⟨gub, rfl, _, _⟩ := hub.flag
            have HUb := Lib.hid hub
            clear hub
            go_wp2_with fail
            refine (HI.out (SizeOf.sizeOf (kidT a j) + SizeOf.sizeOf (kidT b j)) (Nat.lt_of_lt_of_le (HSz.out j) HN.out) _ _ _ _ _ P (Nat.le_refl _) HUa.out HUb.out).mono ?_
            rintro e w3 ⟨⟨u, rfl, hu⟩, hb2⟩
            obtain ⟨gu, rfl, _, _⟩ := hu.flag
            have HU := Lib.hid (And.intro hu hb2)
            have HO3 := Lib.hid (((HO.out.step hb2).own).alloc (.cells #[.pointer (some ⟨gu, 0, none⟩)] 58))
            have HNw := Lib.hid (cell_one_new w3 (.pointer (some ⟨gu, 0, none⟩)) 58)
            have HBs := Lib.hid (show w.heap.size ≤ (w3.alloc (.cells #[.pointer (some ⟨gu, 0, none⟩)] 58)).heap.size from by have := (HO.out.step hb2).bound; simp; omega)
            clear hu hb2
            go_wp2_with (at_builtin; refine wpList_append_own_at _ rfl _ _ 111 rfl w.heap.size 58 j0 (.pointer none) 1 8 Tryz.underlying111 HZp.out.2.2.1 HZp.out.2.2.2 HZp.out.1 HZp.out.2.1 rfl (by decide) u7 j vals rfl HO3.out ⟨w3.heap.size, 0, none⟩ 1 1 [.pointer (some ⟨gu, 0, none⟩)] rfl rfl HNw.out (by intro u hu; simp at hu; subst hu; rfl) (by unfold maxLen; omega) (by omega) HBs.out ?_; intro v4 w4 hown4 hg4 hnn4 hob4)
            have HNx := Lib.hid (TreesI.next HO.out HVl.out HTs.out HTj.out hgk2.out HU.out.1 HU.out.2 (below_new _) hg4 hown4 hob4)
            clear hown4 hg4 hnn4 hob4
            go_roundw
            case rel => exact ⟨j + 1, by go_num, by omega, HNx.out⟩
            case measure => simp [intOf]; omega
          · obtain rfl : j = 4 := by omega
            obtain ⟨r, cap, rfl, hr1, hr2, hcells⟩ := own_cellsV HO.out.own (by omega)
            obtain ⟨ua, ea, ta⟩ := HTs.out 0 _ (by omega) rfl
            obtain ⟨ub, eb, tb⟩ := HTs.out 1 _ (by omega) rfl
            obtain ⟨uc, ec, tc⟩ := HTs.out 2 _ (by omega) rfl
            obtain ⟨ud, ed, td⟩ := HTs.out 3 _ (by omega) rfl
            have HTd := Lib.hid (tidy_any _ _ _ _ r cap ua ub uc ud wr (fun k => w.heap.size ≤ k) hr1 hr2 ⟨hcells 0 _ ea, hcells 1 _ eb, hcells 2 _ ec, hcells 3 _ ed⟩ (ta.imp fun _ _ h => h.1) (tb.imp fun _ _ h => h.1) (tc.imp fun _ _ h => h.1) (td.imp fun _ _ h => h.1))
            have HBb := Lib.hid HO.out.bel
            rw [← HR.out] at HTd
            clear ta tb tc td ea eb ec ed hcells HTs HO HVl
            go_wp2_with fail
            refine HTd.out.mono ?_
            rintro e w5 ⟨⟨u, rfl, hu⟩, hb5⟩
            have HFn := Lib.hid (And.intro (hu.imp (P' := fun k => w.heap.size ≤ k) fun k _ h => (by have := hgk2.out; rcases h with h | h <;> omega)) (HBb.out.trans (hb5.mono HBb.out.size)))
            obtain ⟨gu, rfl, _, _⟩ := hu.flag
            clear hu hb5
            go_wp2_with fail
            go_ret
            exact ⟨⟨_, rfl, HFn.out.1⟩, HFn.out.2⟩
end Go.Proofs.YtabolonlkocopaaGreatDoor
