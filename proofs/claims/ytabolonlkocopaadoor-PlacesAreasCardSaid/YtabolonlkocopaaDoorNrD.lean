/- Normal forms and what covers what: data of PlacesNormal and PlacesCovering. -/
import Derived.Test.YtabolonlkocopaaDoorArD
namespace Go.Proofs.YtabolonlkocopaaDoor
open Go.RowKit Go.Plc

theorem nrm_same {L M : List Sq} (hL : ∀ s ∈ L, s.okB = true) (hM : ∀ s ∈ M, s.okB = true) (lL : L.length ≤ 4096) (lM : M.length ≤ 4096) (h : ∀ x y, covC L x y ↔ covC M x y) : nrm L = nrm M :=
  reg_ext (nrm_reg hL lL).1 (nrm_reg hM lM).1 fun x y => ((nrm_reg hL lL).2.2 x y).trans ((h x y).trans ((nrm_reg hM lM).2.2 x y).symm)
theorem nrm_rev {L : List Sq} (hL : ∀ s ∈ L, s.okB = true) (lL : L.length ≤ 4096) : nrm L.reverse = nrm L :=
  nrm_same (fun s hs => hL s (List.mem_reverse.1 hs)) hL (by simpa using lL) lL fun x y => cov_mem (fun s => List.mem_reverse) x y
theorem nrm_of_reg {L : List Sq} (h : regB L = true) : nrm L = L := by
  obtain ⟨h1, h2, h3⟩ := regB_iff.1 h
  exact reg_ext (nrm_reg h2.ok h1).1 h (nrm_reg h2.ok h1).2.2
theorem regB_eq {L : List Sq} (hL : ∀ s ∈ L, s.okB = true) (lL : L.length ≤ 4096) : regB L = decide (nrm L = L) := by
  by_cases h : regB L = true
  · rw [h, nrm_of_reg h]; simp
  · have hne : nrm L ≠ L := fun e => h (e ▸ (nrm_reg hL lL).1)
    rw [decide_eq_false hne]; simpa using h
theorem has_of_mem {L : List Sq} (hL : ∀ s ∈ L, s.okB = true) (lL : L.length ≤ 4096) {s : Sq} (hs : s ∈ L) : hasS (nrm L) s = true := by
  obtain ⟨h1, h2, h3⟩ := nrm_reg hL lL
  obtain ⟨t, ht, hw⟩ := (regB_iff.1 h1).2.1.above (hL s hs) (fun x y hi => (h3 x y).2 ⟨s, hs, hi⟩)
  exact List.any_eq_true.2 ⟨t, ht, hw⟩
theorem ask_of {L : List Sq} {s : Sq} {b : Bool} (h : regB L = true) (hs : s.okB = true) : askOut L s b = (b, 0) := by unfold askOut; rw [if_pos h, if_pos hs]
theorem nil_reg : regB [] = true := regB_iff.2 ⟨by simp, canon_nil, List.Pairwise.nil⟩
theorem reg_empty {a : List Sq} (ha : regB a = true) (h : ∀ x y, ¬ covC a x y) : a = [] :=
  reg_ext ha nil_reg fun x y => ⟨fun g => absurd g (h x y), fun ⟨_, ht, _⟩ => absurd ht List.not_mem_nil⟩
theorem cov_nil {x y : Int} : ¬ covC [] x y := fun ⟨_, ht, _⟩ => absurd ht List.not_mem_nil
theorem min_empty {a d : List Sq} (ha : regB a = true) (hd : regB d = true) (h1 : a.length + 40 * d.length ≤ 4096) (h2 : d.length + 40 * a.length ≤ 4096) : (minR a d = [] ∧ minR d a = []) ↔ a = d := by
  obtain ⟨_, r1, _, c1⟩ := min_reg ha hd h1
  obtain ⟨_, r2, _, c2⟩ := min_reg hd ha h2
  constructor
  · rintro ⟨e1, e2⟩
    refine reg_ext ha hd fun x y => ⟨fun h => ?_, fun h => ?_⟩
    · by_cases g : covC d x y
      · exact g
      · exact absurd ((c1 x y).2 ⟨h, g⟩) (e1 ▸ cov_nil)
    · by_cases g : covC a x y
      · exact g
      · exact absurd ((c2 x y).2 ⟨h, g⟩) (e2 ▸ cov_nil)
  · rintro rfl
    exact ⟨reg_empty r1 fun x y h => ((c1 x y).1 h).2 ((c1 x y).1 h).1, reg_empty r2 fun x y h => ((c2 x y).1 h).2 ((c2 x y).1 h).1⟩

/-- what the calls of PlacesNormal return, for two lists of valid squares -/
structure NormD (l m a d x y : List Sq) : Prop where
  len : l.length ≤ 4096 ∧ m.length ≤ 4096 ∧ a.length ≤ 4096 ∧ d.length ≤ 4096 ∧ x.length ≤ 4096 ∧ y.length ≤ 4096
  al : a.length ≤ l.length
  c3 : normalOut a = (a, 0)
  c4 : regB a = true
  c5 : regB l = decide (a = l)
  has : ∀ s ∈ l, askOut a s (hasS a s) = (true, 0)
  c7 : minusOut a d = (x, 0)
  c8 : minusOut d a = (y, 0)
  c9 : (x.length = 0 ∧ y.length = 0) ↔ a = d
theorem normalOut_ok {L : List Sq} (hL : ∀ s ∈ L, s.okB = true) (lL : L.length ≤ 4096) : normalOut L = (nrm L, 0) := by
  unfold normalOut nrm
  rw [if_pos lL, if_pos (List.all_eq_true.2 hL)]
theorem norm_data {l m : List Sq} (hl : ∀ s ∈ l, s.okB = true) (hm : ∀ s ∈ m, s.okB = true) (ll : l.length ≤ 60) (lm : m.length ≤ 60) : ∃ x y, NormD l m (nrm l) (nrm m) x y := by
  obtain ⟨a1, a2, a3⟩ := nrm_reg hl (by omega)
  obtain ⟨d1, d2, d3⟩ := nrm_reg hm (by omega)
  obtain ⟨x1, x2, x3, _⟩ := min_reg a1 d1 (by omega)
  obtain ⟨y1, y2, y3, _⟩ := min_reg d1 a1 (by omega)
  have ho := (regB_iff.1 a1).2.1.ok
  refine ⟨minR (nrm l) (nrm m), minR (nrm m) (nrm l), ⟨by omega, by omega, by omega, by omega, by omega, by omega⟩, a2, ?_, a1, regB_eq hl (by omega), fun s hs => ?_, x1, y1, ?_⟩
  · rw [normalOut_ok ho (by omega), nrm_of_reg a1]
  · rw [has_of_mem hl (by omega) hs, ask_of a1 (hl s hs)]
  · rw [List.length_eq_zero_iff, List.length_eq_zero_iff]
    exact min_empty a1 d1 (by omega) (by omega)

/-! what a region has and meets -/
theorem has_meets {L : List Sq} {s : Sq} (h : hasS L s = true) : meetsS L s = true := by
  obtain ⟨t, ht, hw⟩ := List.any_eq_true.1 h
  exact List.any_eq_true.2 ⟨t, ht, by rw [hw]; rfl⟩
theorem has_iff {L : List Sq} (hL : Canon L) {s : Sq} (hs : s.okB = true) : hasS L s = true ↔ fullC L s := by
  constructor
  · intro h
    obtain ⟨t, ht, hw⟩ := List.any_eq_true.1 h
    exact full_of_within (ok_l hs).1 ht hw
  · intro h
    obtain ⟨t, ht, hw⟩ := hL.above hs h
    exact List.any_eq_true.2 ⟨t, ht, hw⟩
theorem meets_iff {L : List Sq} (hL : ∀ s ∈ L, s.okB = true) {s : Sq} (hs : s.okB = true) : meetsS L s = true ↔ ∃ x y, inS s x y ∧ covC L x y := by
  constructor
  · intro h
    obtain ⟨t, ht, hw⟩ := List.any_eq_true.1 h
    rcases Bool.or_eq_true_iff.1 hw with hw | hw
    · exact ⟨_, _, in_corner s, t, ht, in_of_within (ok_l hs).1 hw (in_corner s)⟩
    · exact ⟨_, _, in_of_within (ok_l (hL t ht)).1 hw (in_corner t), t, ht, in_corner t⟩
  · rintro ⟨x, y, hi, t, ht, hj⟩
    refine List.any_eq_true.2 ⟨t, ht, Bool.or_eq_true_iff.2 ?_⟩
    rcases Int.le_total s.l t.l with h | h
    · exact .inl (within_of_common (ok_l hs).1 h hi hj)
    · exact .inr (within_of_common (ok_l (hL t ht)).1 h hj hi)
theorem has_zero {L : List Sq} (hL : ∀ s ∈ L, s.okB = true) {s : Sq} (h0 : s.l = 0) : hasS L s = meetsS L s := by
  unfold hasS meetsS
  rw [Bool.eq_iff_iff, List.any_eq_true, List.any_eq_true]
  refine ⟨fun ⟨t, ht, hw⟩ => ⟨t, ht, by rw [hw]; rfl⟩, fun ⟨t, ht, hw⟩ => ⟨t, ht, ?_⟩⟩
  rcases Bool.or_eq_true_iff.1 hw with hw | hw
  · exact hw
  · have h1 := (Go.Plc.within_iff.1 hw).1
    have h2 := (ok_l (hL t ht)).1
    have e := within_level hw (by omega)
    subst e; exact Go.Plc.within_refl t
theorem has_kids {L : List Sq} (hL : Canon L) {s : Sq} (hs : s.okB = true) (h1 : 1 ≤ s.l) : hasS L s = (kidsS s).all (hasS L) := by
  rw [Bool.eq_iff_iff, has_iff hL hs, List.all_eq_true]
  constructor
  · intro h k hk
    exact (has_iff hL (kid_ok hs hk h1)).2 fun x y hi => h x y ((in_kids h1).2 ⟨k, hk, hi⟩)
  · intro h x y hi
    obtain ⟨k, hk, hj⟩ := (in_kids h1).1 hi
    exact (has_iff hL (kid_ok hs hk h1)).1 (h k hk) x y hj
theorem meets_kids {L : List Sq} (hL : ∀ s ∈ L, s.okB = true) {s : Sq} (hs : s.okB = true) (h1 : 1 ≤ s.l) : meetsS L s = (kidsS s).any (meetsS L) := by
  rw [Bool.eq_iff_iff, meets_iff hL hs, List.any_eq_true]
  constructor
  · rintro ⟨x, y, hi, hc⟩
    obtain ⟨k, hk, hj⟩ := (in_kids h1).1 hi
    exact ⟨k, hk, (meets_iff hL (kid_ok hs hk h1)).2 ⟨x, y, hj, hc⟩⟩
  · rintro ⟨k, hk, hm⟩
    obtain ⟨x, y, hj, hc⟩ := (meets_iff hL (kid_ok hs hk h1)).1 hm
    exact ⟨x, y, (in_kids h1).2 ⟨k, hk, hj⟩, hc⟩
theorem minus_run_none {T P : List Sq} : ∀ (k : Nat) (S : List Sq), (∀ s ∈ S, coversS T s = true) → minusRun T P k S [] = []
  | 0, S, _ => by unfold minusRun; rfl
  | k + 1, [], _ => minus_end (.inl rfl)
  | k + 1, s :: S, h => by
    rw [minus_cov (by simp) (h s List.mem_cons_self)]
    exact minus_run_none k S fun t ht => h t (List.mem_cons_of_mem _ ht)
theorem minus_none {a b : List Sq} (hb : ∀ s ∈ b, s.okB = true) (h : ∀ s ∈ a, ∃ t ∈ b, withinS s t = true) : minusS a b = [] := by
  refine minus_run_none _ _ fun s hs => ?_
  obtain ⟨t, ht, hw⟩ := h s (List.mem_reverse.1 hs)
  exact (covers_iff fun t ht => hb t (mem_ofList.1 ht)).2 ⟨t, mem_ofList.2 ht, hw⟩
end Go.Proofs.YtabolonlkocopaaDoor
