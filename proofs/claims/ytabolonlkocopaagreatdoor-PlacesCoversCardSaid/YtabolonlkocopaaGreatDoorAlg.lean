
/- Union and intersection of regions, as sets of cells; three. -/
import Derived.Test.YtabolonlkocopaaGreatDoorUnn
import Derived.Test.YtabolonlkocopaaGreatDoorReg3
import Derived.Test.YtabolonlkocopaaGreatDoorSquW
namespace Go.Proofs.YtabolonlkocopaaGreatDoor
open Go.RowKit Go.Plc

def nrm (L : List Sq) : List Sq := regionS (normalS L)
def uniR (a b : List Sq) : List Sq := nrm (a ++ b)
def intR (a b : List Sq) : List Sq := regionS (interS a b)
theorem nrm_reg {L : List Sq} (h : ∀ s ∈ L, s.okB = true) (hl : L.length ≤ 4096) : regB (nrm L) = true ∧ (nrm L).length ≤ L.length ∧ ∀ x y, covC (nrm L) x y ↔ covC L x y := by
  obtain ⟨h1, h2⟩ := normal_spec h
  have h3 := normalS_len L
  have h4 : (nrm L).length = (normalS L).length := region_len h1.ok
  refine ⟨regB_iff.2 ⟨by omega, canon_region h1, region_sorted (normal_nd L)⟩, by omega, fun x y => (cov_region h1.ok x y).trans (h2 x y)⟩
theorem uni_reg {a b : List Sq} (ha : regB a = true) (hb : regB b = true) (hl : a.length + b.length ≤ 4096) :
    unionOut a b = (uniR a b, 0) ∧ regB (uniR a b) = true ∧ (uniR a b).length ≤ a.length + b.length ∧ ∀ x y, covC (uniR a b) x y ↔ covC a x y ∨ covC b x y := by
  have h1 := regB_iff.1 ha
  have h2 := regB_iff.1 hb
  have hok : ∀ s ∈ a ++ b, s.okB = true := fun s hs => (List.mem_append.1 hs).elim (h1.2.1.ok s) (h2.2.1.ok s)
  obtain ⟨g1, g2, g3⟩ := nrm_reg hok (by rw [List.length_append]; exact hl)
  have g4 := normalS_len (a ++ b)
  rw [List.length_append] at g2 g4
  refine ⟨?_, g1, g2, fun x y => (g3 x y).trans ⟨?_, ?_⟩⟩
  · unfold unionOut
    rw [ha, hb, Bool.and_self, if_pos rfl, if_neg (by omega)]; rfl
  · rintro ⟨s, hs, hi⟩
    rcases List.mem_append.1 hs with h | h
    · exact .inl ⟨s, h, hi⟩
    · exact .inr ⟨s, h, hi⟩
  · rintro (⟨s, hs, hi⟩ | ⟨s, hs, hi⟩)
    · exact ⟨s, List.mem_append.2 (.inl hs), hi⟩
    · exact ⟨s, List.mem_append.2 (.inr hs), hi⟩
theorem mem_addIns {O : List Sq} {t : Sq} : ∀ {L C : List Sq}, t ∈ L.foldl (addIn O) C ↔ t ∈ C ∨ (t ∈ L ∧ coversS O t = true)
  | [], C => by simp
  | s :: L, C => by
    rw [List.foldl_cons, mem_addIns]
    have h : t ∈ addIn O C s ↔ t ∈ C ∨ (t = s ∧ coversS O s = true) := by
      unfold addIn
      cases hc : coversS O s
      · simp
      · simp [mem_addS']
    rw [h, List.mem_cons]
    constructor
    · rintro ((h | ⟨rfl, h⟩) | ⟨h1, h2⟩)
      · exact .inl h
      · exact .inr ⟨.inl rfl, h⟩
      · exact .inr ⟨.inr h1, h2⟩
    · rintro (h | ⟨rfl | h1, h2⟩)
      · exact .inl (.inl h)
      · exact .inl (.inr ⟨rfl, h2⟩)
      · exact .inr ⟨h1, h2⟩
theorem addIns_nd (O : List Sq) : ∀ (L : List Sq) {C : List Sq}, C.Nodup → (L.foldl (addIn O) C).Nodup
  | [], _, h => h
  | s :: L, C, h => addIns_nd O L (by unfold addIn; split; exact addS_nd' h s; exact h)
theorem mem_inter {a b : List Sq} (ha : ∀ s ∈ a, s.okB = true) (hb : ∀ s ∈ b, s.okB = true) {s : Sq} : s ∈ interS a b ↔ (s ∈ a ∧ ∃ t ∈ b, withinS s t = true) ∨ (s ∈ b ∧ ∃ t ∈ a, withinS s t = true) := by
  unfold interS
  rw [mem_addIns, mem_addIns]
  have ca : coversS (ofList a) s = true ↔ ∃ t ∈ a, withinS s t = true := by
    rw [covers_iff (fun t ht => ha t (mem_ofList.1 ht))]
    exact ⟨fun ⟨t, h, k⟩ => ⟨t, mem_ofList.1 h, k⟩, fun ⟨t, h, k⟩ => ⟨t, mem_ofList.2 h, k⟩⟩
  have cb : coversS (ofList b) s = true ↔ ∃ t ∈ b, withinS s t = true := by
    rw [covers_iff (fun t ht => hb t (mem_ofList.1 ht))]
    exact ⟨fun ⟨t, h, k⟩ => ⟨t, mem_ofList.1 h, k⟩, fun ⟨t, h, k⟩ => ⟨t, mem_ofList.2 h, k⟩⟩
  rw [ca, cb]
  simp
theorem inter_spec {a b : List Sq} (ha : Canon a) (hb : Canon b) : Canon (interS a b) ∧ ∀ x y, covC (interS a b) x y ↔ covC a x y ∧ covC b x y := by
  have hm := fun s => mem_inter (s := s) ha.ok hb.ok
  have hok : ∀ s ∈ interS a b, s.okB = true := fun s hs => by
    rcases (hm s).1 hs with h | h
    · exact ha.ok s h.1
    · exact hb.ok s h.1
  -- every square of it lies in one of a, and in one of b
  have hina : ∀ s ∈ interS a b, ∃ t ∈ a, withinS s t = true := fun s hs => by
    rcases (hm s).1 hs with h | h
    · exact ⟨s, h.1, Go.Plc.within_refl s⟩
    · exact h.2
  have hinb : ∀ s ∈ interS a b, ∃ t ∈ b, withinS s t = true := fun s hs => by
    rcases (hm s).1 hs with h | h
    · exact h.2
    · exact ⟨s, h.1, Go.Plc.within_refl s⟩
  have h0 : ∀ s ∈ interS a b, 0 ≤ s.l := fun s hs => (ok_l (hok s hs)).1
  refine ⟨⟨hok, fun s hs t ht hw => ?_, fun p hp h1 hq => ?_⟩, fun x y => ⟨?_, ?_⟩⟩
  · rcases (hm s).1 hs with ⟨hsa, _⟩ | ⟨hsb, _⟩
    · obtain ⟨t', ht', hw'⟩ := hina t ht
      have e := ha.anti s hsa t' ht' (Go.Plc.within_trans (h0 s hs) hw hw')
      subst e
      exact within_anti hw hw'
    · obtain ⟨t', ht', hw'⟩ := hinb t ht
      have e := hb.anti s hsb t' ht' (Go.Plc.within_trans (h0 s hs) hw hw')
      subst e
      exact within_anti hw hw'
  · have hk : (⟨p.l - 1, 2 * p.x, 2 * p.y⟩ : Sq) ∈ kidsS p := by simp [kidsS]
    have hfa : fullC a p := fun x y hi => by
      obtain ⟨k, hk1, hk2⟩ := (in_kids h1).1 hi
      obtain ⟨t, ht, hw⟩ := hina k (hq k hk1)
      exact ⟨t, ht, in_of_within (h0 k (hq k hk1)) hw hk2⟩
    have hfb : fullC b p := fun x y hi => by
      obtain ⟨k, hk1, hk2⟩ := (in_kids h1).1 hi
      obtain ⟨t, ht, hw⟩ := hinb k (hq k hk1)
      exact ⟨t, ht, in_of_within (h0 k (hq k hk1)) hw hk2⟩
    have hlow : ∀ (M : List Sq), Canon M → fullC M p → (⟨p.l - 1, 2 * p.x, 2 * p.y⟩ : Sq) ∈ M → False := fun M hM hf hkM => by
      obtain ⟨t, ht, hw⟩ := hM.above hp hf
      have e := hM.anti _ hkM t ht (Go.Plc.within_trans (by show 0 ≤ p.l - 1; omega) (kid_within hk) hw)
      have hl := (Go.Plc.within_iff.1 hw).1
      rw [← e] at hl
      have : p.l ≤ p.l - 1 := hl
      omega
    rcases (hm _).1 (hq _ hk) with h | h
    · exact hlow a ha hfa h.1
    · exact hlow b hb hfb h.1
  · rintro ⟨s, hs, hi⟩
    obtain ⟨t, ht, hw⟩ := hina s hs
    obtain ⟨t', ht', hw'⟩ := hinb s hs
    exact ⟨⟨t, ht, in_of_within (h0 s hs) hw hi⟩, ⟨t', ht', in_of_within (h0 s hs) hw' hi⟩⟩
  · rintro ⟨⟨s, hs, hi⟩, ⟨t, ht, hj⟩⟩
    have ls := ok_l (ha.ok s hs)
    have lt := ok_l (hb.ok t ht)
    rcases Int.le_total s.l t.l with h | h
    · exact ⟨s, (hm s).2 (.inl ⟨hs, t, ht, within_of_common ls.1 h hi hj⟩), hi⟩
    · exact ⟨t, (hm t).2 (.inr ⟨ht, s, hs, within_of_common lt.1 h hj hi⟩), hj⟩
theorem int_reg {a b : List Sq} (ha : regB a = true) (hb : regB b = true) (hl : a.length + b.length ≤ 4096) :
    interOut a b = (intR a b, 0) ∧ regB (intR a b) = true ∧ (intR a b).length ≤ a.length + b.length ∧ ∀ x y, covC (intR a b) x y ↔ covC a x y ∧ covC b x y := by
  have h1 := regB_iff.1 ha
  have h2 := regB_iff.1 hb
  obtain ⟨g1, g2⟩ := inter_spec h1.2.1 h2.2.1
  have hlen : (interS a b).length ≤ a.length + b.length := by
    have k1 := addIn_len (ofList a) b (a.foldl (addIn (ofList b)) [])
    have k2 := addIn_len (ofList b) a []
    unfold interS
    simp only [List.length_nil] at k2
    omega
  have hrl : (intR a b).length = (interS a b).length := region_len g1.ok
  have hnd : (interS a b).Nodup := addIns_nd _ _ (addIns_nd _ _ List.nodup_nil)
  refine ⟨?_, regB_iff.2 ⟨by omega, canon_region g1, region_sorted hnd⟩, by omega, fun x y => (cov_region g1.ok x y).trans (g2 x y)⟩
  unfold interOut
  rw [ha, hb, Bool.and_self, if_pos rfl, if_neg (by omega)]; rfl
theorem reg_ext {a b : List Sq} (ha : regB a = true) (hb : regB b = true) (h : ∀ x y, covC a x y ↔ covC b x y) : a = b :=
  region_ext (regB_iff.1 ha).2.1 (regB_iff.1 hb).2.1 (regB_iff.1 ha).2.2 (regB_iff.1 hb).2.2 h
end Go.Proofs.YtabolonlkocopaaGreatDoor
