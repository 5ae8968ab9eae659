/- PlacesAreas: what the calls return, as data. -/
import Derived.Test.YtabolonlkocopaaDoorArS
import Derived.Test.YtabolonlkocopaaDoorAlgW
namespace Go.Proofs.YtabolonlkocopaaDoor
open Go.RowKit Go.Plc

structure AreaD (x y u m d : List Sq) : Prop where
  len : x.length ≤ 4096 ∧ y.length ≤ 4096 ∧ u.length ≤ 4096 ∧ m.length ≤ 4096 ∧ d.length ≤ 4096
  c1 : unionOut x y = (u, 0)
  c2 : interOut x y = (m, 0)
  c3 : minusOut x y = (d, 0)
  c4 : interOut d m = ([], 0)
  c5 : unionOut d m = (x, 0)
  a1 : areaOut x = (areaS x, 0)
  a2 : areaOut y = (areaS y, 0)
  a3 : areaOut u = (areaS u, 0)
  a4 : areaOut m = (areaS m, 0)
  a5 : areaOut d = (areaS d, 0)
  s1 : areaS u + areaS m = areaS x + areaS y
  s2 : areaS d + areaS m = areaS x
  b1 : 0 ≤ areaS x ∧ areaS x ≤ 4294967296
  b2 : 0 ≤ areaS y ∧ areaS y ≤ 4294967296
  b3 : 0 ≤ areaS u ∧ areaS u ≤ 4294967296
  b4 : 0 ≤ areaS m ∧ areaS m ≤ 4294967296
  b5 : 0 ≤ areaS d ∧ areaS d ≤ 4294967296
theorem area_of {L : List Sq} (h : regB L = true) : areaOut L = (areaS L, 0) := by
  unfold areaOut; rw [if_pos h]
theorem area_bd' {L : List Sq} (h : regB L = true) : 0 ≤ areaS L ∧ areaS L ≤ 4294967296 := by
  obtain ⟨h1, h2, _⟩ := regB_iff.1 h
  have := area_bd h2.ok
  omega
theorem canon_nil : Canon ([] : List Sq) := ⟨fun _ h => absurd h List.not_mem_nil, fun _ h => absurd h List.not_mem_nil, fun _ _ _ h => absurd (h _ (List.mem_cons_self)) List.not_mem_nil⟩
theorem area_data {x y : List Sq} (hx : Rg x 40) (hy : Rg y 40) : ∃ u m d, AreaD x y u m d := by
  obtain ⟨u1, u2, u3⟩ := hx.uni hy (by omega)
  obtain ⟨m1, m2, m3⟩ := hx.int hy (by omega)
  obtain ⟨d1, d2, d3, d4⟩ := min_reg hx.reg hy.reg (by have := hx.len; have := hy.len; omega)
  have hd : Rg (minR x y) 1640 := ⟨d2, by have := hx.len; have := hy.len; omega⟩
  obtain ⟨e1, e2, e3⟩ := hd.int m2 (by omega)
  obtain ⟨f1, f2, f3⟩ := hd.uni m2 (by omega)
  have q1 : intR (minR x y) (intR x y) = [] := e2.ext (⟨regB_iff.2 ⟨by simp, canon_nil, List.Pairwise.nil⟩, Nat.zero_le 0⟩ : Rg [] 0) fun s t => by
    rw [e3 s t, d4 s t, m3 s t]
    constructor
    · rintro ⟨⟨_, h⟩, _, h'⟩; exact absurd h' h
    · rintro ⟨t, ht, _⟩; exact absurd ht List.not_mem_nil
  have q2 := f2.ext hx fun s t => by
    rw [f3 s t, d4 s t, m3 s t]
    constructor
    · rintro (⟨h, _⟩ | ⟨h, _⟩) <;> exact h
    · intro h
      by_cases hy' : covC y s t
      · exact .inr ⟨h, hy'⟩
      · exact .inl ⟨h, hy'⟩
  refine ⟨uniR x y, intR x y, minR x y, ?_, u1, m1, d1, pair_eq e1 q1, pair_eq f1 q2, area_of hx.reg, area_of hy.reg, area_of u2.reg, area_of m2.reg, area_of d2, area_uni hx.reg hy.reg u2.reg m2.reg u3 m3, area_min hx.reg d2 m2.reg d4 m3, area_bd' hx.reg, area_bd' hy.reg, area_bd' u2.reg, area_bd' m2.reg, area_bd' d2⟩
  have := hx.len; have := hy.len; have := u2.len; have := m2.len
  refine ⟨?_, ?_, ?_, ?_, ?_⟩ <;> omega
end Go.Proofs.YtabolonlkocopaaDoor
