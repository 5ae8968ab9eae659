
/- Which lists are regions, as mathematics; two squares. -/
import Derived.Test.YtabolonlkocopaaGreatDoorInt
import Derived.Test.YtabolonlkocopaaGreatDoorSet
namespace Go.Proofs.YtabolonlkocopaaGreatDoor
open Go.RowKit Go.Plc Go.Shelf

theorem leads_mem {C D : List Sq} {s : Sq} (h : ∀ t, t ∈ C ↔ t ∈ D) : leadsS C s = leadsS D s := by
  unfold leadsS
  congr 2
  funext k
  rw [decide_eq_decide.2 (h _)]
theorem sorted_of_next : ∀ {L : List Sq}, (∀ j s t, L[j]? = some s → L[j + 1]? = some t → aheadB s t = true) → sortedS L
  | [], _ => by simp [sortedS]
  | [a], _ => by simp [sortedS]
  | a :: b :: L, h => by
    have hr : sortedS (b :: L) := sorted_of_next fun j s t h1 h2 => h (j + 1) s t (by simpa using h1) (by simpa using h2)
    refine List.pairwise_cons.2 ⟨fun c hc => ?_, hr⟩
    have hab := h 0 a b rfl rfl
    rcases List.mem_cons.1 hc with rfl | hc
    · exact hab
    · exact ahead_trans hab ((List.pairwise_cons.1 hr).1 c hc)
theorem next_of_sorted {L : List Sq} (h : sortedS L) {j : Nat} {s t : Sq} (hs : L[j]? = some s) (ht : L[j + 1]? = some t) : aheadB s t = true := by
  obtain ⟨h1, rfl⟩ := List.getElem?_eq_some_iff.1 hs
  obtain ⟨h2, rfl⟩ := List.getElem?_eq_some_iff.1 ht
  exact List.pairwise_iff_getElem.1 h j (j + 1) h1 h2 (by omega)
/-- THE LISTS THAT ARE REGIONS -/
theorem regB_iff {L : List Sq} : regB L = true ↔ L.length ≤ 4096 ∧ Canon L ∧ sortedS L := by
  have ha : ∀ s, hasAroundS (ofList L) s = hasAroundS L s := fun s => around_mem fun t => mem_ofList
  have hl : ∀ s, leadsS (ofList L) s = leadsS L s := fun s => leads_mem fun t => mem_ofList
  unfold regB
  rw [Bool.and_eq_true, Bool.and_eq_true, decide_eq_true_eq, List.all_eq_true, List.all_eq_true]
  constructor
  · rintro ⟨⟨h1, h2⟩, h3⟩
    have hg : ∀ j, j < L.length → goodB L j = true := fun j hj => h2 j (by simpa using hj)
    refine ⟨h1, canon_of (good_ok rfl hg) fun s hs => ?_, sorted_of_next fun j s t hs ht => ?_⟩
    · have := h3 s hs
      rw [ha, hl, Bool.not_eq_true', Bool.or_eq_false_iff] at this
      exact this
    · have h := hg (j + 1) (List.getElem?_eq_some_iff.1 ht).1
      rw [good_pos ht (by simpa using hs) (by omega), Bool.and_eq_true] at h
      exact h.2
  · rintro ⟨h1, h2, h3⟩
    refine ⟨⟨h1, fun j hj => ?_⟩, fun s hs => ?_⟩
    · have hj' : j < L.length := by simpa using hj
      have hs := List.getElem?_eq_getElem hj'
      have hok := h2.ok _ (List.getElem_mem hj')
      by_cases h0 : j = 0
      · rw [good_zero hs h0]; exact hok
      · have hp : L[j - 1]? = some L[j - 1] := List.getElem?_eq_getElem (by omega)
        rw [good_pos hs hp (by omega), hok, Bool.true_and]
        exact next_of_sorted h3 hp (by rw [show j - 1 + 1 = j by omega]; exact hs)
    · have := canon_no h2 s hs
      rw [ha, hl, this.1, this.2]; rfl

/-! two squares -/
theorem canon_one {a : Sq} (h : a.okB = true) : Canon [a] := by
  refine ⟨fun s hs => ?_, fun s hs t ht _ => ?_, fun p _ _ hq => ?_⟩
  · simp at hs; subst hs; exact h
  · simp at hs ht; rw [hs, ht]
  · have h1 := hq ⟨p.l - 1, 2 * p.x, 2 * p.y⟩ (by simp [kidsS])
    have h2 := hq ⟨p.l - 1, 2 * p.x + 1, 2 * p.y⟩ (by simp [kidsS])
    simp at h1 h2
    rw [← h2] at h1
    injection h1 with _ h1 _
    omega
theorem reg_one {a : Sq} (h : a.okB = true) : regB [a] = true := regB_iff.2 ⟨by simp, canon_one h, by simp [sortedS]⟩
theorem covers_one {a b : Sq} (hb : b.okB = true) : coversS (ofList [b]) a = withinS a b := by
  rw [Bool.eq_iff_iff, covers_iff (fun t ht => by rw [mem_ofList] at ht; simp at ht; subst ht; exact hb)]
  constructor
  · rintro ⟨t, ht, hw⟩; rw [mem_ofList] at ht; simp at ht; subst ht; exact hw
  · intro hw; exact ⟨b, by rw [mem_ofList]; simp, hw⟩
theorem inter_one {a b : Sq} (ha : a.okB = true) (hb : b.okB = true) : (interOut [a] [b]).2 = 0 ∧ (interOut [a] [b]).1.length ≤ 2 ∧ (decide (0 < (interOut [a] [b]).1.length)) = (withinS a b || withinS b a) := by
  have e : interS [a] [b] = (if withinS b a then addS (if withinS a b then [a] else []) b else (if withinS a b then [a] else [])) := by
    unfold interS
    simp only [List.foldl_cons, List.foldl_nil]
    unfold addIn
    rw [covers_one ha, covers_one hb]
    simp [addS]
  have hl : (interS [a] [b]).length ≤ 2 := by
    have h1 := addIn_len (ofList [a]) [b] ([a].foldl (addIn (ofList [b])) [])
    have h2 := addIn_len (ofList [b]) [a] []
    unfold interS
    simp only [List.length_cons, List.length_nil] at *
    omega
  have hok : ∀ s ∈ interS [a] [b], s.okB = true := by
    intro s hs
    rw [e] at hs
    have : s = a ∨ s = b := by
      generalize withinS a b = u at hs
      generalize withinS b a = v at hs
      cases u <;> cases v <;> simp [mem_addS'] at hs
      · exact .inr hs
      · exact .inl hs
      · exact hs
    rcases this with rfl | rfl
    · exact ha
    · exact hb
  have ho : interOut [a] [b] = (regionS (interS [a] [b]), 0) := by
    unfold interOut
    rw [reg_one ha, reg_one hb, Bool.and_self, if_pos rfl, if_neg (by omega)]
  rw [ho]
  dsimp only
  rw [region_len hok]
  refine ⟨rfl, hl, ?_⟩
  rw [e]
  generalize withinS a b = u
  generalize withinS b a = v
  cases u <;> cases v <;> simp [addS]
  split <;> simp
theorem within_both {a b : Sq} : (withinS a b && withinS b a) = decide (a = b) := by
  rw [Bool.eq_iff_iff, Bool.and_eq_true, decide_eq_true_eq]
  exact ⟨fun h => within_anti h.1 h.2, by rintro rfl; exact ⟨Go.Plc.within_refl a, Go.Plc.within_refl a⟩⟩
theorem blur_ok' {s : Sq} {L : Int} (h : s.okB = true) (h1 : s.l ≤ L) (h2 : L ≤ 10) : (blurS s L).okB = true := by
  obtain ⟨v1, v2, v3, v4, v5, v6⟩ := (Sq.okB_iff s).1 h
  have e : sideOf s.l = sideOf L * 2 ^ (L - s.l).toNat := by
    unfold sideOf
    rw [← Int.pow_add, show (10 - L).toNat + (L - s.l).toNat = (10 - s.l).toNat by omega]
  have hp := two_pos (L - s.l).toNat
  rw [Sq.okB_iff]
  show 0 ≤ L ∧ L ≤ 10 ∧ 0 ≤ s.x / 2 ^ (L - s.l).toNat ∧ s.x / 2 ^ (L - s.l).toNat < sideOf L ∧ 0 ≤ s.y / 2 ^ (L - s.l).toNat ∧ s.y / 2 ^ (L - s.l).toNat < sideOf L
  rw [e] at v4 v6
  exact ⟨by omega, h2, Int.ediv_nonneg v3 (by omega), Int.ediv_lt_of_lt_mul hp v4, Int.ediv_nonneg v5 (by omega), Int.ediv_lt_of_lt_mul hp v6⟩
theorem within_blur {s : Sq} {L : Int} (h1 : s.l ≤ L) : withinS s (blurS s L) = true := Go.Plc.within_iff.2 ⟨h1, rfl⟩
end Go.Proofs.YtabolonlkocopaaGreatDoor
