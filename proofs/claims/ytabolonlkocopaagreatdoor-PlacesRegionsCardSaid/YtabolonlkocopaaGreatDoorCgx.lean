
/- Normal forms and what covers what: data of PlacesNormal and PlacesCovering. -/
import Derived.Test.YtabolonlkocopaaGreatDoorArs
import Derived.Test.YtabolonlkocopaaGreatDoorCoa
import Derived.Test.YtabolonlkocopaaGreatDoorNum
import Derived.Test.YtabolonlkocopaaGreatDoorAlgW
namespace Go.Proofs.YtabolonlkocopaaGreatDoor
open Go.RowKit Go.Plc

theorem nrm_same {L M : List Sq} (hL : ∀ s ∈ L, s.okB = true) (hM : ∀ s ∈ M, s.okB = true) (lL : L.length ≤ 4096) (lM : M.length ≤ 4096) (h : ∀ x y, covC L x y ↔ covC M x y) : nrm L = nrm M :=
  reg_ext (nrm_reg hL lL).1 (nrm_reg hM lM).1 fun x y => ((nrm_reg hL lL).2.2 x y).trans ((h x y).trans ((nrm_reg hM lM).2.2 x y).symm)
theorem nrm_rev {L : List Sq} (hL : ∀ s ∈ L, s.okB = true) (lL : L.length ≤ 4096) : nrm L.reverse = nrm L :=
  nrm_same (fun s hs => hL s (List.mem_reverse.1 hs)) hL (by simpa using lL) lL fun x y => cov_mem (fun s => List.mem_reverse) x y
theorem nrm_of_reg {L : List Sq} (h : regB L = true) : nrm L = L := by
  obtain ⟨h1, h2, h3⟩ := regB_iff.1 h
  exact reg_ext (nrm_reg h2.ok h1).1 h (nrm_reg h2.ok h1).2.2
theorem regB_eq {L : List Sq} (hL : ∀ s ∈ L, s.okB = true) (lL : L.length ≤ 4096) : regB L = decide (nrm L = L) := by
  by_cases h : regB L = true
  · rw [h, nrm_of_reg h]; simp
  · have hne : nrm L ≠ L := fun e => h (e ▸ (nrm_reg hL lL).1)
    rw [decide_eq_false hne]; simpa using h
theorem has_of_mem {L : List Sq} (hL : ∀ s ∈ L, s.okB = true) (lL : L.length ≤ 4096) {s : Sq} (hs : s ∈ L) : hasS (nrm L) s = true := by
  obtain ⟨h1, h2, h3⟩ := nrm_reg hL lL
  obtain ⟨t, ht, hw⟩ := (regB_iff.1 h1).2.1.above (hL s hs) (fun x y hi => (h3 x y).2 ⟨s, hs, hi⟩)
  exact List.any_eq_true.2 ⟨t, ht, hw⟩
theorem ask_of {L : List Sq} {s : Sq} {b : Bool} (h : regB L = true) (hs : s.okB = true) : askOut L s b = (b, 0) := by unfold askOut; rw [if_pos h, if_pos hs]
theorem nil_reg : regB [] = true := regB_iff.2 ⟨by simp, canon_nil, List.Pairwise.nil⟩
theorem reg_empty {a : List Sq} (ha : regB a = true) (h : ∀ x y, ¬ covC a x y) : a = [] :=
  reg_ext ha nil_reg fun x y => ⟨fun g => absurd g (h x y), fun ⟨_, ht, _⟩ => absurd ht List.not_mem_nil⟩
theorem cov_nil {x y : Int} : ¬ covC [] x y := fun ⟨_, ht, _⟩ => absurd ht List.not_mem_nil
theorem min_empty {a d : List Sq} (ha : regB a = true) (hd : regB d = true) (h1 : a.length + 40 * d.length ≤ 4096) (h2 : d.length + 40 * a.length ≤ 4096) : (minR a d = [] ∧ minR d a = []) ↔ a = d := by
  obtain ⟨_, r1, _, c1⟩ := min_reg ha hd h1
  obtain ⟨_, r2, _, c2⟩ := min_reg hd ha h2
  constructor
  · rintro ⟨e1, e2⟩
    refine reg_ext ha hd fun x y => ⟨fun h => ?_, fun h => ?_⟩
    · by_cases g : covC d x y
      · exact g
      · exact absurd ((c1 x y).2 ⟨h, g⟩) (e1 ▸ cov_nil)
    · by_cases g : covC a x y
      · exact g
      · exact absurd ((c2 x y).2 ⟨h, g⟩) (e2 ▸ cov_nil)
  · rintro rfl
    exact ⟨reg_empty r1 fun x y h => ((c1 x y).1 h).2 ((c1 x y).1 h).1, reg_empty r2 fun x y h => ((c2 x y).1 h).2 ((c2 x y).1 h).1⟩

/-- what the calls of PlacesNormal return, for two lists of valid squares -/
structure NormD (l m a d x y : List Sq) : Prop where
  len : l.length ≤ 4096 ∧ m.length ≤ 4096 ∧ a.length ≤ 4096 ∧ d.length ≤ 4096 ∧ x.length ≤ 4096 ∧ y.length ≤ 4096
  al : a.length ≤ l.length
  c3 : normalOut a = (a, 0)
  c4 : regB a = true
  c5 : regB l = decide (a = l)
  has : ∀ s ∈ l, askOut a s (hasS a s) = (true, 0)
  c7 : minusOut a d = (x, 0)
  c8 : minusOut d a = (y, 0)
  c9 : (x.length = 0 ∧ y.length = 0) ↔ a = d
theorem normalOut_ok {L : List Sq} (hL : ∀ s ∈ L, s.okB = true) (lL : L.length ≤ 4096) : normalOut L = (nrm L, 0) := by
  unfold normalOut nrm
  rw [if_pos lL, if_pos (List.all_eq_true.2 hL)]
theorem norm_data {l m : List Sq} (hl : ∀ s ∈ l, s.okB = true) (hm : ∀ s ∈ m, s.okB = true) (ll : l.length ≤ 60) (lm : m.length ≤ 60) : ∃ x y, NormD l m (nrm l) (nrm m) x y := by
  obtain ⟨a1, a2, a3⟩ := nrm_reg hl (by omega)
  obtain ⟨d1, d2, d3⟩ := nrm_reg hm (by omega)
  obtain ⟨x1, x2, x3, _⟩ := min_reg a1 d1 (by omega)
  obtain ⟨y1, y2, y3, _⟩ := min_reg d1 a1 (by omega)
  have ho := (regB_iff.1 a1).2.1.ok
  refine ⟨minR (nrm l) (nrm m), minR (nrm m) (nrm l), ⟨by omega, by omega, by omega, by omega, by omega, by omega⟩, a2, ?_, a1, regB_eq hl (by omega), fun s hs => ?_, x1, y1, ?_⟩
  · rw [normalOut_ok ho (by omega), nrm_of_reg a1]
  · rw [has_of_mem hl (by omega) hs, ask_of a1 (hl s hs)]
  · rw [List.length_eq_zero_iff, List.length_eq_zero_iff]
    exact min_empty a1 d1 (by omega) (by omega)

/-! what a region has and meets -/
theorem has_meets {L : List Sq} {s : Sq} (h : hasS L s = true) : meetsS L s = true := by
  obtain ⟨t, ht, hw⟩ := List.any_eq_true.1 h
  exact List.any_eq_true.2 ⟨t, ht, by rw [hw]; rfl⟩
theorem has_iff {L : List Sq} (hL : Canon L) {s : Sq} (hs : s.okB = true) : hasS L s = true ↔ fullC L s := by
  constructor
  · intro h
    obtain ⟨t, ht, hw⟩ := List.any_eq_true.1 h
    exact full_of_within (ok_l hs).1 ht hw
  · intro h
    obtain ⟨t, ht, hw⟩ := hL.above hs h
    exact List.any_eq_true.2 ⟨t, ht, hw⟩
theorem meets_iff {L : List Sq} (hL : ∀ s ∈ L, s.okB = true) {s : Sq} (hs : s.okB = true) : meetsS L s = true ↔ ∃ x y, inS s x y ∧ covC L x y := by
  constructor
  · intro h
    obtain ⟨t, ht, hw⟩ := List.any_eq_true.1 h
    rcases Bool.or_eq_true_iff.1 hw with hw | hw
    · exact ⟨_, _, in_corner s, t, ht, in_of_within (ok_l hs).1 hw (in_corner s)⟩
    · exact ⟨_, _, in_of_within (ok_l (hL t ht)).1 hw (in_corner t), t, ht, in_corner t⟩
  · rintro ⟨x, y, hi, t, ht, hj⟩
    refine List.any_eq_true.2 ⟨t, ht, Bool.or_eq_true_iff.2 ?_⟩
    rcases Int.le_total s.l t.l with h | h
    · exact .inl (within_of_common (ok_l hs).1 h hi hj)
    · exact .inr (within_of_common (ok_l (hL t ht)).1 h hj hi)
theorem has_zero {L : List Sq} (hL : ∀ s ∈ L, s.okB = true) {s : Sq} (h0 : s.l = 0) : hasS L s = meetsS L s := by
  unfold hasS meetsS
  rw [Bool.eq_iff_iff, List.any_eq_true, List.any_eq_true]
  refine ⟨fun ⟨t, ht, hw⟩ => ⟨t, ht, by rw [hw]; rfl⟩, fun ⟨t, ht, hw⟩ => ⟨t, ht, ?_⟩⟩
  rcases Bool.or_eq_true_iff.1 hw with hw | hw
  · exact hw
  · have h1 := (Go.Plc.within_iff.1 hw).1
    have h2 := (ok_l (hL t ht)).1
    have e := within_level hw (by omega)
    subst e; exact Go.Plc.within_refl t
theorem has_kids {L : List Sq} (hL : Canon L) {s : Sq} (hs : s.okB = true) (h1 : 1 ≤ s.l) : hasS L s = (kidsS s).all (hasS L) := by
  rw [Bool.eq_iff_iff, has_iff hL hs, List.all_eq_true]
  constructor
  · intro h k hk
    exact (has_iff hL (kid_ok hs hk h1)).2 fun x y hi => h x y ((in_kids h1).2 ⟨k, hk, hi⟩)
  · intro h x y hi
    obtain ⟨k, hk, hj⟩ := (in_kids h1).1 hi
    exact (has_iff hL (kid_ok hs hk h1)).1 (h k hk) x y hj
theorem meets_kids {L : List Sq} (hL : ∀ s ∈ L, s.okB = true) {s : Sq} (hs : s.okB = true) (h1 : 1 ≤ s.l) : meetsS L s = (kidsS s).any (meetsS L) := by
  rw [Bool.eq_iff_iff, meets_iff hL hs, List.any_eq_true]
  constructor
  · rintro ⟨x, y, hi, hc⟩
    obtain ⟨k, hk, hj⟩ := (in_kids h1).1 hi
    exact ⟨k, hk, (meets_iff hL (kid_ok hs hk h1)).2 ⟨x, y, hj, hc⟩⟩
  · rintro ⟨k, hk, hm⟩
    obtain ⟨x, y, hj, hc⟩ := (meets_iff hL (kid_ok hs hk h1)).1 hm
    exact ⟨x, y, (in_kids h1).2 ⟨k, hk, hj⟩, hc⟩
theorem minus_run_none {T P : List Sq} : ∀ (k : Nat) (S : List Sq), (∀ s ∈ S, coversS T s = true) → minusRun T P k S [] = []
  | 0, S, _ => by unfold minusRun; rfl
  | k + 1, [], _ => minus_end (.inl rfl)
  | k + 1, s :: S, h => by
    rw [minus_cov (by simp) (h s List.mem_cons_self)]
    exact minus_run_none k S fun t ht => h t (List.mem_cons_of_mem _ ht)
theorem minus_none {a b : List Sq} (hb : ∀ s ∈ b, s.okB = true) (h : ∀ s ∈ a, ∃ t ∈ b, withinS s t = true) : minusS a b = [] := by
  refine minus_run_none _ _ fun s hs => ?_
  obtain ⟨t, ht, hw⟩ := h s (List.mem_reverse.1 hs)
  exact (covers_iff fun t ht => hb t (mem_ofList.1 ht)).2 ⟨t, mem_ofList.2 ht, hw⟩
end Go.Proofs.YtabolonlkocopaaGreatDoor

/- Coarse squares as a set; data of PlacesCovering. -/
namespace Go.Proofs.YtabolonlkocopaaGreatDoor
open Go.RowKit Go.Plc

theorem mem_pieces {s q : Sq} {L : Int} (h1 : L ≤ s.l) : q ∈ piecesS s L ↔ q.l = L ∧ withinS q s = true := by
  have hN : (0 : Int) < (sideN s L : Int) := by unfold sideN; exact Int.natCast_pos.2 (Nat.pow_pos (by decide))
  have hNe : ((2 : Int) ^ (s.l - L).toNat) = (sideN s L : Int) := by unfold sideN; simp
  constructor
  · intro h
    obtain ⟨y, hy, hr⟩ := List.mem_flatMap.1 h
    obtain ⟨x, hx, e⟩ := List.mem_map.1 hr
    subst e
    have hy := List.mem_range.1 hy
    have hx := List.mem_range.1 hx
    have key : ∀ (a : Int) (k : Nat), k < sideN s L → (a * (sideN s L : Int) + (k : Int)) / (sideN s L : Int) = a := fun a k hk => by
      rw [Int.add_comm, Int.add_mul_ediv_right _ _ (by omega), Int.ediv_eq_zero_of_lt (by omega) (by omega)]; omega
    refine ⟨rfl, Go.Plc.within_iff.2 ⟨h1, ?_⟩⟩
    apply Sq.ext3
    · rfl
    · show (s.x * (sideN s L : Int) + (x : Int)) / 2 ^ (s.l - L).toNat = s.x
      rw [hNe]; exact key _ _ hx
    · show (s.y * (sideN s L : Int) + (y : Int)) / 2 ^ (s.l - L).toNat = s.y
      rw [hNe]; exact key _ _ hy
  · rintro ⟨rfl, hw⟩
    have e := (Go.Plc.within_iff.1 hw).2
    have ex : q.x / (sideN s q.l : Int) = s.x := by rw [← hNe]; exact congrArg Sq.x e
    have ey : q.y / (sideN s q.l : Int) = s.y := by rw [← hNe]; exact congrArg Sq.y e
    have mx := Int.emod_nonneg q.x (by omega : (sideN s q.l : Int) ≠ 0)
    have my := Int.emod_nonneg q.y (by omega : (sideN s q.l : Int) ≠ 0)
    have lx := Int.emod_lt_of_pos q.x hN
    have ly := Int.emod_lt_of_pos q.y hN
    have dx := Int.mul_ediv_add_emod q.x (sideN s q.l : Int)
    have dy := Int.mul_ediv_add_emod q.y (sideN s q.l : Int)
    rw [ex, Int.mul_comm] at dx
    rw [ey, Int.mul_comm] at dy
    refine List.mem_flatMap.2 ⟨(q.y % (sideN s q.l : Int)).toNat, List.mem_range.2 (by omega), List.mem_map.2 ⟨(q.x % (sideN s q.l : Int)).toNat, List.mem_range.2 (by omega), ?_⟩⟩
    apply Sq.ext3
    · rfl
    · show s.x * (sideN s q.l : Int) + (((q.x % (sideN s q.l : Int)).toNat : Nat) : Int) = q.x
      omega
    · show s.y * (sideN s q.l : Int) + (((q.y % (sideN s q.l : Int)).toNat : Nat) : Int) = q.y
      omega
theorem piece_ok {s q : Sq} {L : Int} (h : s.okB = true) (h0 : 0 ≤ L) (h1 : L ≤ s.l) (hq : q ∈ piecesS s L) : q.okB = true := by
  obtain ⟨y, hy, hr⟩ := List.mem_flatMap.1 hq
  obtain ⟨x, hx, e⟩ := List.mem_map.1 hr
  subst e
  exact pc_ok h h0 h1 (List.mem_range.1 hy) (List.mem_range.1 hx)
theorem mem_lvlStep {s q : Sq} {L : Int} : q ∈ lvlStep L s ↔ q.l = L ∧ (withinS s q || withinS q s) = true := by
  unfold lvlStep
  by_cases h : s.l ≤ L
  · rw [if_pos h, List.mem_singleton, Bool.or_eq_true_iff]
    constructor
    · rintro rfl
      exact ⟨rfl, .inl (within_blur h)⟩
    · rintro ⟨rfl, hw | hw⟩
      · exact (Go.Plc.within_iff.1 hw).2.symm
      · have h2 := (Go.Plc.within_iff.1 hw).1
        have e := within_level hw (by omega)
        subst e
        exact (Go.Plc.within_iff.1 (Go.Plc.within_refl q)).2.symm
  · rw [if_neg h, mem_pieces (by omega), Bool.or_eq_true_iff]
    constructor
    · rintro ⟨h1, h2⟩; exact ⟨h1, .inr h2⟩
    · rintro ⟨h1, h2 | h2⟩
      · have := (Go.Plc.within_iff.1 h2).1; omega
      · exact ⟨h1, h2⟩
theorem mem_coarse {l : List Sq} {L : Int} {q : Sq} : q ∈ coarseC l L ↔ q.l = L ∧ meetsS l q = true := by
  have h : q ∈ coarseC l L ↔ q ∈ atLevelS l L := by unfold coarseC; rw [mem_foldAdd]; simp
  rw [h]
  unfold atLevelS meetsS
  rw [List.mem_flatMap, List.any_eq_true]
  constructor
  · rintro ⟨s, hs, hq⟩
    obtain ⟨h1, h2⟩ := mem_lvlStep.1 hq
    exact ⟨h1, s, hs, by rw [Bool.or_comm]; exact h2⟩
  · rintro ⟨h1, s, hs, h2⟩
    exact ⟨s, hs, mem_lvlStep.2 ⟨h1, by rw [Bool.or_comm]; exact h2⟩⟩
theorem coarse_ok {l : List Sq} (hl : ∀ s ∈ l, s.okB = true) {L : Int} (h0 : 0 ≤ L) (h1 : L ≤ 10) {q : Sq} (hq : q ∈ coarseC l L) : q.okB = true := by
  have h : q ∈ atLevelS l L := by
    unfold coarseC at hq
    rw [mem_foldAdd] at hq
    simpa using hq
  obtain ⟨s, hs, hm⟩ := List.mem_flatMap.1 h
  unfold lvlStep at hm
  by_cases hle : s.l ≤ L
  · rw [if_pos hle, List.mem_singleton] at hm
    subst hm
    exact blur_ok' (hl s hs) hle h1
  · rw [if_neg hle] at hm
    exact piece_ok (hl s hs) h0 (by omega) hm
/-- what is left of a region beside its coarse squares: nothing -/
theorem coarse_covers {l : List Sq} (hl : ∀ s ∈ l, s.okB = true) {L : Int} (h0 : 0 ≤ L) {W : List Sq} (hW : Canon W) (hc : ∀ x y, covC W x y ↔ covC (coarseC l L) x y) {s : Sq} (hs : s ∈ l) : ∃ t ∈ W, withinS s t = true := by
  refine hW.above (hl s hs) fun x y hi => (hc x y).2 ?_
  have hb : inS ⟨L, x / 2 ^ L.toNat, y / 2 ^ L.toNat⟩ x y := ⟨rfl, rfl⟩
  have hls := (ok_l (hl s hs)).1
  refine ⟨⟨L, x / 2 ^ L.toNat, y / 2 ^ L.toNat⟩, mem_coarse.2 ⟨rfl, List.any_eq_true.2 ⟨s, hs, Bool.or_eq_true_iff.2 ?_⟩⟩, hb⟩
  rcases Int.le_total s.l L with h | h
  · exact .inr (within_of_common hls h hi hb)
  · exact .inl (within_of_common h0 h hb hi)

/-- what the calls behind Coarse return -/
structure CoarD (l c wide : List Sq) (L : Int) : Prop where
  len : c.length ≤ 4096 ∧ wide.length ≤ 4096
  ok : ∀ q ∈ c, q.okB = true
  lvl : ∀ q ∈ c, q.l = L
  mem : ∀ q : Sq, q.l = L → (q ∈ c ↔ meetsS l q = true)
  sorted : sortedS c
  c1 : normalOut c = (wide, 0)
  c2 : minusOut l wide = ([], 0)
theorem coarse_data {l : List Sq} (hl : regB l = true) {L : Int} (h0 : 0 ≤ L) (h1 : L ≤ 10) (hn : (coarseC l L).length ≤ 4096) : ∃ wide, CoarD l (regionS (coarseC l L)) wide L := by
  have hok := (regB_iff.1 hl).2.1.ok
  have hc : ∀ q ∈ coarseC l L, q.okB = true := fun q hq => coarse_ok hok h0 h1 hq
  have hnd : (coarseC l L).Nodup := foldAdd_nd _ List.nodup_nil
  have hlen : (regionS (coarseC l L)).length = (coarseC l L).length := region_len hc
  have hrok : ∀ q ∈ regionS (coarseC l L), q.okB = true := fun q hq => hc q ((mem_region hc).1 hq)
  obtain ⟨n1, n2, n3⟩ := nrm_reg hrok (by omega)
  have hm : minusS l (nrm (regionS (coarseC l L))) = [] := minus_none (regB_iff.1 n1).2.1.ok fun s hs =>
    coarse_covers hok h0 (regB_iff.1 n1).2.1 (fun x y => (n3 x y).trans (cov_region hc x y)) hs
  refine ⟨nrm (regionS (coarseC l L)), ⟨by omega, by omega⟩, hrok, fun q hq => (mem_coarse.1 ((mem_region hc).1 hq)).1, fun q hq => ?_, region_sorted hnd, normalOut_ok hrok (by omega), ?_⟩
  · rw [mem_region hc, mem_coarse]
    exact ⟨fun h => h.2, fun h => ⟨hq, h⟩⟩
  · unfold minusOut
    rw [hl, n1, hm, if_pos (by decide), if_neg (by simp)]; rfl
end Go.Proofs.YtabolonlkocopaaGreatDoor


/- Rows of the call's own beside what lay before; calls by what they return. -/
namespace Go.Proofs.YtabolonlkocopaaGreatDoor
open Go.RowKit Go.Plc

theorem OutSq.is {o : List Sq × Int} {r : List Sq} {er : Int} {w w' : World} {en : Ending} (h : o = (r, er)) (hO : OutSq o w en w') : (∃ x, en = .returned (.tuple #[x, .int .i64 er]) ∧ SqSl w' w'.heap.size x r) ∧ Below w.heap.size w w' := by
  subst h
  obtain ⟨⟨A, c, rfl, hA⟩, hb⟩ := hO
  exact ⟨⟨_, rfl, A, c, rfl, hA⟩, hb⟩
theorem Minus_is (u v : Value) (a b r : List Sq) (w : World) (hu : SqSl w w.heap.size u a) (hv : SqSl w w.heap.size v b) (hna : a.length ≤ 4096) (hnb : b.length ≤ 4096) (h : minusOut a b = (r, 0)) :
    Calls Tryz.prog 17 #[u, v] w fun e w' => (∃ x, e = .returned (.tuple #[x, .int .i64 0]) ∧ SqSl w' w'.heap.size x r) ∧ Below w.heap.size w w' :=
  (Minus_any u v a b w hu hv (by omega) (by omega)).mono fun _ _ hO => hO.is h
theorem NormalOut_is (u : Value) (a r : List Sq) (er : Int) (w : World) (hu : SqSl w w.heap.size u a) (hna : a.length ≤ 4096) (h : normalOut a = (r, er)) :
    Calls Tryz.prog 8 #[u] w fun e w' => (∃ x, e = .returned (.tuple #[x, .int .i64 er]) ∧ SqSl w' w'.heap.size x r) ∧ Below w.heap.size w w' :=
  (Normal_any u a w hu (by omega)).mono fun _ _ hO => hO.is h
theorem Area_is (v : Value) (a : List Sq) (n : Int) (w : World) (hv : SqSl w w.heap.size v a) (hn : a.length ≤ 4096) (h : areaOut a = (n, 0)) :
    Calls Tryz.prog 19 #[v] w fun e w' => e = .returned (.tuple #[.int .i64 n, .int .i64 0]) ∧ Below w.heap.size w w' := by
  have hU := Area_any v a w hv (by omega)
  rw [h] at hU
  exact hU
theorem Has_is (v : Value) (a : List Sq) (s : Sq) (b : Bool) (er : Int) (w : World) (hv : SqSl w w.heap.size v a) (hn : a.length ≤ 4096) (h : askOut a s (hasS a s) = (b, er)) :
    Calls Tryz.prog 21 #[v, .agg #[.int .i64 s.l, .int .i64 s.x, .int .i64 s.y]] w fun e w' => e = .returned (.tuple #[.bool b, .int .i64 er]) ∧ Below w.heap.size w w' := by
  have hU := Has_any v a s w hv (by omega)
  rw [h] at hU
  exact hU
theorem ValidRegion_is (v : Value) (a : List Sq) (b : Bool) (w : World) (hv : SqSl w w.heap.size v a) (hn : a.length ≤ 4096) (h : regB a = b) :
    Calls Tryz.prog 12 #[v] w fun e w' => e = .returned (.bool b) ∧ Below w.heap.size w w' := by
  have hU := ValidRegion_any v a w hv (by omega)
  rw [h] at hU
  exact hU
theorem SameSq_is (u v : Value) (a b : List Sq) (r : Bool) (w : World) (hu : SqSl w w.heap.size u a) (hv : SqSl w w.heap.size v b) (hna : a.length ≤ 4096) (h : decide (a = b) = r) :
    Calls Tryz.prog 14 #[u, v] w fun e w' => e = .returned (.bool r) ∧ Below w.heap.size w w' := by
  have hU := SameSquares_any u v a b w hu hv (by omega)
  rw [h] at hU
  exact hU
theorem nil_sq (w : World) (B : Nat) : SqSl w B (.slice none 0 0) [] := ⟨none, 0, rfl, fun i s h => by simp at h⟩
theorem own_step {w w' : World} {base n z : Nat} {t : TypeId} {v : Value} {xs : List Value} (h : w.ownsRow base t z v n xs) (hb : Below w.heap.size w w') : w'.ownsRow base t z v n xs :=
  h.kept (grown_of_below hb none) (by rcases Classical.em (v.ownBlock = none) with h | h; exact .inl h; exact .inr h)
/-- a row of the call's own, beside a world in which nothing is written -/
structure OwI (W : World) (t : TypeId) (z : Nat) (v : Value) (n : Nat) (xs : List Value) (X : World) : Prop where
  bel : Below W.heap.size W X
  own : X.ownsRow W.heap.size t z v n xs
theorem OwI.start (W : World) (t : TypeId) (z : Nat) : OwI W t z (.slice none 0 0) 0 [] W := ⟨Below.refl _ _, World.ownsRow_nil _ _ _ _⟩
theorem OwI.step {W X Y : World} {t : TypeId} {z n : Nat} {v : Value} {xs : List Value} (h : OwI W t z v n xs X) (hb : Below X.heap.size X Y) : OwI W t z v n xs Y := ⟨h.bel.trans (hb.mono h.bel.size), own_step h.own hb⟩
theorem OwI.grown {W X Y Z : World} {t : TypeId} {z n n' : Nat} {v v' : Value} {xs xs' : List Value} (h : OwI W t z v n xs X) (hb : Below X.heap.size X Y) (hg : Y.grownBy Z v.ownBlock) (ho : Z.ownsRow W.heap.size t z v' n' xs') : OwI W t z v' n' xs' Z :=
  ⟨(h.step hb).bel.grown hg (h.step hb).bel.size (fun r e => ((h.step hb).own.lt r e).1), ho⟩
theorem OwI.bound {W X : World} {t : TypeId} {z n : Nat} {v : Value} {xs : List Value} (h : OwI W t z v n xs X) : W.heap.size ≤ X.heap.size := h.bel.size
theorem sl_at {w : World} {A : Option Addr} {n c i : Nat} {L : List Sq} (h : SqSl w w.heap.size (.slice A n c) L) (hi : i < n) : ∃ s ad, L[i]? = some s ∧ s ∈ L ∧ A = some ad ∧ ad.block < w.heap.size ∧
    w.cell? (ad.add (i * 3)) = some (.int .i64 s.l) ∧ w.cell? ⟨(ad.add (i * 3)).block, (ad.add (i * 3)).off + 1, none⟩ = some (.int .i64 s.x) ∧ w.cell? ⟨(ad.add (i * 3)).block, (ad.add (i * 3)).off + 2, none⟩ = some (.int .i64 s.y) := by
  obtain ⟨A', c', e, hS⟩ := h
  injection e with e1 e2 e3
  subst e1
  exact hS.at_ rfl (by omega)
theorem sl_len {w : World} {B : Nat} {A : Option Addr} {n c : Nat} {L : List Sq} (h : SqSl w B (.slice A n c) L) : L.length = n := by
  obtain ⟨A', c', e, _⟩ := h
  injection e with _ e2 _
  exact e2.symm
end Go.Proofs.YtabolonlkocopaaGreatDoor


/- PlacesCovering: what the calls return. -/
namespace Go.Proofs.YtabolonlkocopaaGreatDoor
open Go.RowKit Go.Plc

set_option maxHeartbeats 1000000 in
theorem rAhead_any (a b : Sq) (w : World) : Calls Tryz.prog 102 #[.agg #[.int .i64 a.l, .int .i64 a.x, .int .i64 a.y], .agg #[.int .i64 b.l, .int .i64 b.x, .int .i64 b.y]] w fun e w' => e = .returned (.bool (aheadB a b)) ∧ Below w.heap.size w w' := by
  have HO := Lib.hid (show aheadB a b = (if a.l ≠ b.l then decide (a.l < b.l) else if a.y ≠ b.y then decide (a.y < b.y) else decide (a.x < b.x)) from rfl)
  by_cases h1 : a.l = b.l
  · by_cases h2 : a.y = b.y
    · go_enter Tryz.func102, Tryz.ntmps102
      go_wp2_with fail
      go_ret
      exact ⟨ret_b (by rw [HO.out, if_neg (by simp [h1]), if_neg (by simp [h2])]), (below_new _).alloc (by simp) _⟩
    · go_enter Tryz.func102, Tryz.ntmps102
      go_wp2_with fail
      go_ret
      exact ⟨ret_b (by rw [HO.out, if_neg (by simp [h1]), if_pos h2]), (below_new _).alloc (by simp) _⟩
  · go_enter Tryz.func102, Tryz.ntmps102
    go_wp2_with fail
    go_ret
    exact ⟨ret_b (by rw [HO.out, if_pos h1]), (below_new _).alloc (by simp) _⟩
theorem Meets_is (v : Value) (a : List Sq) (s : Sq) (b : Bool) (er : Int) (w : World) (hv : SqSl w w.heap.size v a) (hn : a.length ≤ 4096) (h : askOut a s (meetsS a s) = (b, er)) :
    Calls Tryz.prog 23 #[v, .agg #[.int .i64 s.l, .int .i64 s.x, .int .i64 s.y]] w fun e w' => e = .returned (.tuple #[.bool b, .int .i64 er]) ∧ Below w.heap.size w w' := by
  have hU := Meets_any v a s w hv (by omega)
  rw [h] at hU
  exact hU
theorem Coarse_is (v : Value) (l : List Sq) (L : Int) (r : List Sq) (er : Int) (w : World) (hv : SqSl w w.heap.size v l) (hn : l.length ≤ 4096) (h : coarseOut l L = (r, er)) :
    Calls Tryz.prog 25 #[v, .int .i64 L] w fun e w' => (∃ x, e = .returned (.tuple #[x, .int .i64 er]) ∧ SqSl w' w'.heap.size x r) ∧ Below w.heap.size w w' :=
  (Coarse_any v l L w hv (by omega)).mono fun _ _ hO => hO.is h
/-- what the calls of PlacesCovering return -/
structure CgD (l : List Sq) (s : Sq) (L : Int) (hb mb : Bool) (kids : List Sq) (ke : Int) : Prop where
  len : l.length ≤ 4096
  c1 : askOut l s (hasS l s) = (hb, 0)
  c2 : askOut l s (meetsS l s) = (mb, 0)
  c3 : childOut s = (kids, ke)
  kn : kids.length ≤ 4
  kh : ∀ k ∈ kids, askOut l k (hasS l k) = (hasS l k, 0)
  km : ∀ k ∈ kids, askOut l k (meetsS l k) = (meetsS l k, 0)
  ke : ke = 0 → kids.all (hasS l) = hb ∧ kids.any (meetsS l) = mb
  mb : meetsS l s = mb
  co : (coarseOut l L = ([], 1) ∨ coarseOut l L = ([], 2)) ∨ ∃ c wide, coarseOut l L = (c, 0) ∧ CoarD l c wide L ∧ ∀ q ∈ c, askOut l q (meetsS l q) = (true, 0)
theorem cg_data {a : List Sq} (ha : ∀ s ∈ a, s.okB = true) (la : a.length ≤ 40) {s : Sq} (hs : s.okB = true) (L : Int) :
    ∃ hb mb kids ke, CgD (nrm a) s L hb mb kids ke ∧ ((s.l = 0 ∧ hb = true ∧ mb = true ∧ ke = 1) ∨ (s.l = 0 ∧ hb = false ∧ mb = false ∧ ke = 1) ∨ (s.l ≠ 0 ∧ hb = true ∧ mb = true ∧ ke = 0) ∨ (s.l ≠ 0 ∧ hb = false ∧ mb = true ∧ ke = 0) ∨ (s.l ≠ 0 ∧ hb = false ∧ mb = false ∧ ke = 0)) := by
  obtain ⟨n1, n2, n3⟩ := nrm_reg ha (by omega)
  obtain ⟨r1, r2, r3⟩ := regB_iff.1 n1
  have hls := ok_l hs
  have hco : (coarseOut (nrm a) L = ([], 1) ∨ coarseOut (nrm a) L = ([], 2)) ∨ ∃ c wide, coarseOut (nrm a) L = (c, 0) ∧ CoarD (nrm a) c wide L ∧ ∀ q ∈ c, askOut (nrm a) q (meetsS (nrm a) q) = (true, 0) := by
    unfold coarseOut
    rw [n1, if_pos rfl]
    by_cases hL : 0 ≤ L ∧ L ≤ 10
    · rw [if_pos hL]
      by_cases hbig : 4096 < (coarseC (nrm a) L).length
      · rw [if_pos hbig]; exact .inl (.inr rfl)
      · rw [if_neg hbig]
        obtain ⟨wide, hD⟩ := coarse_data n1 hL.1 hL.2 (by omega)
        exact .inr ⟨_, wide, rfl, hD, fun q hq => by rw [ask_of n1 (hD.ok q hq), (hD.mem q (hD.lvl q hq)).1 hq]⟩
    · rw [if_neg hL]; exact .inl (.inl rfl)
  have hc : childOut s = if s.okB then (if s.l = 0 then ([], 1) else (kidsS s, 0)) else ([], 10) := rfl
  rw [hs, if_pos rfl] at hc
  by_cases h0 : s.l = 0
  · rw [if_pos h0] at hc
    have hz := has_zero r2.ok h0
    refine ⟨hasS (nrm a) s, meetsS (nrm a) s, [], 1, ⟨by omega, ask_of n1 hs, ask_of n1 hs, hc, by simp, fun k hk => absurd hk List.not_mem_nil, fun k hk => absurd hk List.not_mem_nil, fun h => absurd h (by decide), rfl, hco⟩, ?_⟩
    rw [← hz]
    cases hasS (nrm a) s <;> simp [h0]
  · rw [if_neg h0] at hc
    have h1 : 1 ≤ s.l := by omega
    refine ⟨hasS (nrm a) s, meetsS (nrm a) s, kidsS s, 0, ⟨by omega, ask_of n1 hs, ask_of n1 hs, hc, by simp [kidsS], fun k hk => ask_of n1 (kid_ok hs hk h1), fun k hk => ask_of n1 (kid_ok hs hk h1), fun _ => ⟨(has_kids r2 hs h1).symm, (meets_kids r2.ok hs h1).symm⟩, rfl, hco⟩, ?_⟩
    have hm := has_meets (L := nrm a) (s := s)
    cases hh : hasS (nrm a) s
    · cases meetsS (nrm a) s <;> simp [h0]
    · simp [h0, hm hh]
theorem ask_bad {l : List Sq} {s : Sq} (hl : regB l = true) (hs : ¬ s.okB = true) (b : Bool) : askOut l s b = (false, 10) := by unfold askOut; rw [if_pos hl, if_neg hs]
theorem cg_all {a : List Sq} (ha : ∀ s ∈ a, s.okB = true) (la : a.length ≤ 40) (s : Sq) (L : Int) :
    ∃ l, nrm a = l ∧ l.length ≤ 4096 ∧ (∀ b, ¬ s.okB = true → askOut l s b = (false, 10)) ∧ (s.okB = true → ∃ hb mb kids ke, CgD l s L hb mb kids ke ∧ ((s.l = 0 ∧ hb = true ∧ mb = true ∧ ke = 1) ∨ (s.l = 0 ∧ hb = false ∧ mb = false ∧ ke = 1) ∨ (s.l ≠ 0 ∧ hb = true ∧ mb = true ∧ ke = 0) ∨ (s.l ≠ 0 ∧ hb = false ∧ mb = true ∧ ke = 0) ∨ (s.l ≠ 0 ∧ hb = false ∧ mb = false ∧ ke = 0))) := by
  obtain ⟨n1, n2, n3⟩ := nrm_reg ha (by omega)
  exact ⟨nrm a, rfl, by omega, fun b hs => ask_bad n1 hs b, fun hs => cg_data ha la hs L⟩
theorem all_next {P : Sq → Bool} {L : List Sq} {i : Nat} {s : Sq} (h : L[i]? = some s) : (L.take (i + 1)).all P = ((L.take i).all P && P s) := by
  obtain ⟨hi, e⟩ := List.getElem?_eq_some_iff.1 h
  rw [List.take_succ_eq_append_getElem hi, List.all_append, e]; simp
theorem any_next {P : Sq → Bool} {L : List Sq} {i : Nat} {s : Sq} (h : L[i]? = some s) : (L.take (i + 1)).any P = ((L.take i).any P || P s) := by
  obtain ⟨hi, e⟩ := List.getElem?_eq_some_iff.1 h
  rw [List.take_succ_eq_append_getElem hi, List.any_append, e]; simp
theorem mem_next {L : List Sq} {i : Nat} {s t : Sq} (h : L[i]? = some t) : decide (s ∈ L.take (i + 1)) = (decide (s ∈ L.take i) || decide (t = s)) := by
  obtain ⟨hi, e⟩ := List.getElem?_eq_some_iff.1 h
  rw [List.take_succ_eq_append_getElem hi, Bool.eq_iff_iff, Bool.or_eq_true, decide_eq_true_iff, decide_eq_true_iff, decide_eq_true_iff, List.mem_append, List.mem_singleton, e]
  exact or_congr Iff.rfl ⟨Eq.symm, Eq.symm⟩

end Go.Proofs.YtabolonlkocopaaGreatDoor
