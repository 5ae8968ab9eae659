
/- Exact names as mathematics. -/
import Derived.Test.YtplpogonkfnafaaGreatNmRm
import Derived.Test.YtplpogonkfnafaaGreatNmBd
namespace Go.Proofs.YtplpogonkfnafaaGreat
open Go.RowKit Go.Nm

theorem relE_one {chs : List Ch} {n m : Nat} {x y : Int} : relE chs n x m y = 1 ↔ mns chs n [x] m = [y] ∧ mns chs m [y] n = [x] := by
  unfold relE
  by_cases h1 : mns chs n [x] m = [y] <;> by_cases h2 : mns chs m [y] n = [x] <;> by_cases h3 : y ∈ mns chs n [x] m <;> simp [h1, h2, h3]
theorem inc_one {L : List Int} {a : Int} (hi : Inc L) (hm : a ∈ L) (h : ∀ z ∈ L, z = a) : L = [a] :=
  inc_ext hi (by simp [Inc]) fun z => ⟨fun hz => by rw [h z hz]; simp, fun hz => by simp at hz; rw [hz]; exact hm⟩
theorem exF_zero {chs : List Ch} {n m : Nat} {x : Int} : ∀ {l : List Int} {y : Int}, exF chs n x m l = (y, 0) → relE chs n x m y = 1 ∧ y ∈ l
  | [], y, h => by simp [exF] at h
  | a :: l, y, h => by
    unfold exF at h
    split at h
    · rename_i h1
      injection h with h _
      subst h
      exact ⟨h1, List.mem_cons_self⟩
    · obtain ⟨h1, h2⟩ := exF_zero h
      exact ⟨h1, List.mem_cons_of_mem _ h2⟩
theorem exF_err {chs : List Ch} {n m : Nat} {x : Int} : ∀ (l : List Int), (exF chs n x m l).2 = 0 ∨ exF chs n x m l = (0, 3)
  | [] => .inr rfl
  | a :: l => by
    unfold exF
    split
    · exact .inl rfl
    · exact exF_err l
theorem exF_one {chs : List Ch} {n m : Nat} {x y : Int} (h : relE chs n x m y = 1) : exF chs n x m [y] = (y, 0) := by
  unfold exF; rw [if_pos h]
theorem exF_same {chs : List Ch} {n m k : Nat} {x y : Int} : ∀ (l : List Int), (∀ u ∈ l, relE chs n x k u = 1 ↔ relE chs m y k u = 1) → exF chs n x k l = exF chs m y k l
  | [], _ => rfl
  | a :: l, h => by
    unfold exF
    have ih := exF_same l fun u hu => h u (List.mem_cons_of_mem _ hu)
    by_cases h1 : relE chs n x k a = 1
    · rw [if_pos h1, if_pos ((h a List.mem_cons_self).1 h1)]
    · rw [if_neg h1, if_neg (fun h2 => h1 ((h a List.mem_cons_self).2 h2)), ih]
/-- a name of a version -/
structure NmD (b : Bk) (n : Nat) (x : Int) (A : List Int) : Prop where
  val : Val b
  hn : n ≤ b.chs.length
  at_ : (vers b)[n]? = some A
  mem : x ∈ A
section
variable {b : Bk} {n m : Nat} {x y : Int} {A B : List Int}
theorem NmD.openAt (d : NmD b n x A) {k : Nat} (hk : k ≤ b.chs.length) : openAtE b [(k : Int)] n x = 0 := by
  have hl := val_len d.val
  have hn := d.hn
  have e : openE b ([(k : Int)] ++ [(n : Int)]) = 0 := by
    unfold openE
    rw [if_pos d.val, if_pos]
    intro v hv
    simp at hv
    rcases hv with rfl | rfl <;> omega
  unfold openAtE
  rw [if_pos e, if_pos]
  rw [Int.toNat_natCast, List.getD_eq_getElem?_getD, d.at_]; exact d.mem
theorem NmD.openAt0 (d : NmD b n x A) : openAtE b [] n x = 0 := by
  have hl := val_len d.val
  have hn := d.hn
  have e : openE b ([] ++ [(n : Int)]) = 0 := by
    unfold openE
    rw [if_pos d.val, if_pos]
    intro v hv
    simp at hv
    subst hv
    omega
  unfold openAtE
  rw [if_pos e, if_pos]
  rw [Int.toNat_natCast, List.getD_eq_getElem?_getD, d.at_]; exact d.mem
theorem NmD.inc (d : NmD b n x A) {k : Nat} (hk : k ≤ b.chs.length) : Inc (mns b.chs n [x] k) := by
  obtain ⟨_, _, h, _⟩ := mns_ok d.val d.at_ (l := [x]) (by simp [Inc]) (by simp; exact d.mem) d.hn hk
  exact h
theorem NmD.in_ (d : NmD b n x A) {k : Nat} (hk : k ≤ b.chs.length) {C : List Int} (hC : (vers b)[k]? = some C) {z : Int} (hz : z ∈ mns b.chs n [x] k) : z ∈ C := by
  obtain ⟨C', hC', _, h⟩ := mns_ok d.val d.at_ (l := [x]) (by simp [Inc]) (by simp; exact d.mem) d.hn hk
  rw [hC] at hC'; cases hC'
  exact h z hz
theorem NmD.to (d : NmD b n x A) {k : Nat} (hk : k ≤ b.chs.length) {z : Int} (hz : z ∈ mns b.chs n [x] k) : ∃ C, NmD b k z C := by
  obtain ⟨C, hC, _, h⟩ := mns_ok d.val d.at_ (l := [x]) (by simp [Inc]) (by simp; exact d.mem) d.hn hk
  exact ⟨C, d.val, hk, hC, h z hz⟩
theorem NmD.some_ (d : NmD b n x A) {k : Nat} (hk : k ≤ b.chs.length) : ∃ z, z ∈ mns b.chs n [x] k := mns_some d.val d.at_ d.mem d.hn hk
/-- up: paths -/
theorem NmD.up (d : NmD b n x A) (hle : n ≤ m) (hm : m ≤ b.chs.length) (z : Int) : z ∈ mns b.chs n [x] m ↔ Pth b.chs n (m - n) x z := by
  unfold mns
  rw [if_pos hle, mem_fwd d.val d.at_ (by simp [Inc]) (by simp; exact d.mem) (m - n) (by omega) z]
  simp
theorem NmD.down (d : NmD b n x A) (hle : m ≤ n) (e : NmD b m y B) : y ∈ mns b.chs n [x] m ↔ Pth b.chs m (n - m) y x := by
  rw [← mns_symm d.val e.at_ d.at_ e.mem d.mem e.hn d.hn]
  exact e.up hle d.hn x
/-- two names that are the same are the same name of the first version -/
theorem same_first (d : NmD b n x A) (e : NmD b m y B) (hle : n ≤ m) (h1 : mns b.chs n [x] m = [y]) (h2 : mns b.chs m [y] n = [x]) : exS b.chs n x 0 = exS b.chs m y 0 := by
  have hb := d.val
  obtain ⟨V0, hV0, _, _⟩ := vers_at hb (k := 0) (Nat.zero_le _)
  have pxy : Pth b.chs n (m - n) x y := (d.up hle e.hn y).1 (by rw [h1]; simp)
  have em : n + (m - n) = m := by omega
  have split : ∀ u w, Pth b.chs 0 m u w ↔ ∃ z, Pth b.chs 0 n u z ∧ Pth b.chs n (m - n) z w := fun u w => by
    have := pth_add (chs := b.chs) (j := n) (i := 0) (k := m - n) (x := u) (y := w)
    rw [em, Nat.zero_add] at this
    exact this
  have via : ∀ {z C}, NmD b n z C → Pth b.chs n (m - n) z y → z = x := fun dz hp => by
    have h := (e.down hle dz).2 hp
    rw [h2] at h
    simpa using h
  have list : mns b.chs n [x] 0 = mns b.chs m [y] 0 := by
    refine inc_ext (d.inc (Nat.zero_le _)) (e.inc (Nat.zero_le _)) fun z => ?_
    constructor
    · intro hz
      obtain ⟨C, dz⟩ := d.to (Nat.zero_le _) hz
      have hp := (d.down (Nat.zero_le _) dz).1 hz
      exact (e.down (Nat.zero_le _) dz).2 ((split z y).2 ⟨x, hp, pxy⟩)
    · intro hz
      obtain ⟨C, dz⟩ := e.to (Nat.zero_le _) hz
      have hp := (e.down (Nat.zero_le _) dz).1 hz
      obtain ⟨u, hu, hp2⟩ := (split z y).1 hp
      have hum := (dz.up (Nat.zero_le n) d.hn u).2 hu
      obtain ⟨D, du⟩ := dz.to d.hn hum
      obtain rfl := via du hp2
      exact (d.down (Nat.zero_le _) dz).2 hu
  unfold exS
  rw [list]
  refine exF_same _ fun u hu => ?_
  rw [relE_one, relE_one, list]
  obtain ⟨C, du⟩ := e.to (Nat.zero_le _) hu
  refine and_congr_right fun _ => ?_
  constructor
  · intro h
    obtain ⟨w, hw⟩ := du.some_ e.hn
    have key : ∀ w ∈ mns b.chs 0 [u] m, w = y := fun w hw => by
      obtain ⟨z, hz, hp⟩ := (split u w).1 ((du.up (Nat.zero_le _) e.hn w).1 hw)
      have h3 := (du.up (Nat.zero_le n) d.hn z).2 hz
      rw [h] at h3
      simp at h3
      subst h3
      have h4 := (d.up hle e.hn w).2 hp
      rw [h1] at h4
      simpa using h4
    exact inc_one (du.inc e.hn) (key w hw ▸ hw) key
  · intro h
    obtain ⟨w, hw⟩ := du.some_ d.hn
    have key : ∀ z ∈ mns b.chs 0 [u] n, z = x := fun z hz => by
      obtain ⟨D, dz⟩ := du.to d.hn hz
      obtain ⟨t, ht⟩ := dz.some_ e.hn
      have hp := (dz.up hle e.hn t).1 ht
      have h3 := (du.up (Nat.zero_le _) e.hn t).2 ((split u t).2 ⟨z, (du.up (Nat.zero_le n) d.hn z).1 hz, hp⟩)
      rw [h] at h3
      simp at h3
      subst h3
      exact via dz hp
    exact inc_one (du.inc d.hn) (key w hw ▸ hw) key
/-- no change between two versions touches a name -/
def StillP (b : Bk) (n : Nat) (x : Int) (m : Nat) : Prop := ∀ k c, min n m ≤ k → k < max n m → b.chs[k]? = some c → ∀ z ∈ mns b.chs n [x] k, z ∉ c.fr
theorem still_same (d : NmD b n x A) (hm : m ≤ b.chs.length) (h : StillP b n x m) : mns b.chs n [x] m = [x] ∧ mns b.chs m [x] n = [x] := by
  have hb := d.val
  have hn := d.hn
  rcases Nat.le_total n m with hle | hle
  · have hmin : min n m = n := Nat.min_eq_left hle
    have hmax : max n m = m := Nat.max_eq_right hle
    unfold StillP at h
    rw [hmin, hmax] at h
    have up : ∀ j, n + j ≤ m → fwdN b.chs n j [x] = [x] := by
      intro j
      induction j with
      | zero => intro _; rfl
      | succ j ih =>
        intro hj
        obtain ⟨c, hc⟩ := ch_at (b := b) (k := n + j) (by omega)
        obtain ⟨_, _, _, _, g⟩ := step_data hb hc
        have e := ih (by omega)
        have hx : x ∉ c.fr := h (n + j) c (by omega) (by omega) hc x (by
          unfold mns; rw [if_pos (by omega), show n + j - n = j by omega, e]; simp)
        rw [fwd_step hc, e]
        exact rep_none (by simp [Inc]) g.ifr (by simpa using hx)
    have at_ : ∀ j, n + j ≤ m → mns b.chs n [x] (n + j) = [x] := fun j hj => by
      unfold mns; rw [if_pos (by omega), show n + j - n = j by omega]; exact up j hj
    refine ⟨by have := at_ (m - n) (by omega); rwa [show n + (m - n) = m by omega] at this, ?_⟩
    have down : ∀ j, j ≤ m - n → bwdN b.chs m j [x] = [x] := by
      intro j
      induction j with
      | zero => intro _; rfl
      | succ j ih =>
        intro hj
        obtain ⟨c, hc⟩ := ch_at (b := b) (k := m - (j + 1)) (by omega)
        obtain ⟨A', _, hA', _, g⟩ := step_data hb hc
        have hmm := at_ (m - (j + 1) - n) (by omega)
        rw [show n + (m - (j + 1) - n) = m - (j + 1) by omega] at hmm
        have hx : x ∉ c.fr := h _ c (by omega) (by omega) hc x (by rw [hmm]; simp)
        have hxA : x ∈ A' := d.in_ (by omega) hA' (by rw [hmm]; simp)
        rw [bwd_step hc, ih (by omega)]
        exact rep_none (by simp [Inc]) g.ito (by simpa using fun h' => hx (g.toA x h' hxA))
    unfold mns
    split
    · have : m = n := by omega
      subst this
      rw [Nat.sub_self]; rfl
    · exact down (m - n) (Nat.le_refl _)
  · have hmin : min n m = m := Nat.min_eq_right hle
    have hmax : max n m = n := Nat.max_eq_left hle
    unfold StillP at h
    rw [hmin, hmax] at h
    have mnb : ∀ j, j ≤ n - m → mns b.chs n [x] (n - j) = bwdN b.chs n j [x] := fun j hj => by
      unfold mns
      split
      · have : j = 0 := by omega
        subst this
        rw [Nat.sub_zero, Nat.sub_self]; rfl
      · rw [show n - (n - j) = j by omega]
    have down : ∀ j, j ≤ n - m → bwdN b.chs n j [x] = [x] := by
      intro j
      induction j with
      | zero => intro _; rfl
      | succ j ih =>
        intro hj
        obtain ⟨c, hc⟩ := ch_at (b := b) (k := n - (j + 1)) (by omega)
        obtain ⟨_, _, _, _, g⟩ := step_data hb hc
        have hmm := mnb (j + 1) hj
        rw [bwd_step hc, ih (by omega)] at hmm
        rw [bwd_step hc, ih (by omega)]
        refine rep_none (by simp [Inc]) g.ito ?_
        simp only [List.mem_singleton, forall_eq]
        intro hx
        obtain ⟨u, hu⟩ : ∃ u, u ∈ c.fr := by
          cases ht : c.fr with
          | nil => exact absurd ht g.frN
          | cons u _ => exact ⟨u, List.mem_cons_self⟩
        exact h _ c (by omega) (by omega) hc u (by rw [hmm]; exact (mem_rep (by simp [Inc]) g.ito).2 (.inr ⟨hu, x, by simp, hx⟩)) hu
    have at_ : ∀ j, j ≤ n - m → mns b.chs n [x] (n - j) = [x] := fun j hj => by rw [mnb j hj]; exact down j hj
    refine ⟨by have := at_ (n - m) (by omega); rwa [show n - (n - m) = m by omega] at this, ?_⟩
    have up : ∀ j, m + j ≤ n → fwdN b.chs m j [x] = [x] := by
      intro j
      induction j with
      | zero => intro _; rfl
      | succ j ih =>
        intro hj
        obtain ⟨c, hc⟩ := ch_at (b := b) (k := m + j) (by omega)
        obtain ⟨_, _, _, _, g⟩ := step_data hb hc
        have hmm := at_ (n - (m + j)) (by omega)
        rw [show n - (n - (m + j)) = m + j by omega] at hmm
        rw [fwd_step hc, ih (by omega)]
        exact rep_none (by simp [Inc]) g.ifr (by simpa using h _ c (by omega) (by omega) hc x (by rw [hmm]; simp))
    unfold mns
    rw [if_pos hle]
    exact up (n - m) (by omega)
end
end Go.Proofs.YtplpogonkfnafaaGreat
