
/- PlacesAlgebra: the walk. -/
import Derived.Test.YtabolonlkocopaaGreatDoorAlgT
namespace Go.Proofs.YtabolonlkocopaaGreatDoor
open Go.RowKit Go.Plc

/-- a region of a call, small enough for what follows -/
structure Rg (r : List Sq) (n : Nat) : Prop where
  reg : regB r = true
  len : r.length ≤ n
theorem Rg.uni {a b : List Sq} {n m : Nat} (ha : Rg a n) (hb : Rg b m) (h : n + m ≤ 4096) : unionOut a b = (uniR a b, 0) ∧ Rg (uniR a b) (n + m) ∧ ∀ x y, covC (uniR a b) x y ↔ covC a x y ∨ covC b x y := by
  obtain ⟨h1, h2, h3, h4⟩ := uni_reg ha.reg hb.reg (by have := ha.len; have := hb.len; omega)
  exact ⟨h1, ⟨h2, by have := ha.len; have := hb.len; omega⟩, h4⟩
theorem Rg.int {a b : List Sq} {n m : Nat} (ha : Rg a n) (hb : Rg b m) (h : n + m ≤ 4096) : interOut a b = (intR a b, 0) ∧ Rg (intR a b) (n + m) ∧ ∀ x y, covC (intR a b) x y ↔ covC a x y ∧ covC b x y := by
  obtain ⟨h1, h2, h3, h4⟩ := int_reg ha.reg hb.reg (by have := ha.len; have := hb.len; omega)
  exact ⟨h1, ⟨h2, by have := ha.len; have := hb.len; omega⟩, h4⟩
theorem Rg.ext {a b : List Sq} {n m : Nat} (ha : Rg a n) (hb : Rg b m) (h : ∀ x y, covC a x y ↔ covC b x y) : a = b := reg_ext ha.reg hb.reg h
theorem Rg.nrm {L : List Sq} {n : Nat} (h : ∀ s ∈ L, s.okB = true) (hl : L.length ≤ n) (hn : n ≤ 4096) : Rg (nrm L) n := by
  obtain ⟨h1, h2, _⟩ := nrm_reg h (by omega)
  exact ⟨h1, by omega⟩
/-- what eighteen calls return -/
structure AlgD (x y z u m yz p mid r xz over uz under : List Sq) : Prop where
  len : x.length ≤ 4096 ∧ y.length ≤ 4096 ∧ z.length ≤ 4096 ∧ u.length ≤ 4096 ∧ m.length ≤ 4096 ∧ yz.length ≤ 4096 ∧ p.length ≤ 4096 ∧ mid.length ≤ 4096 ∧ r.length ≤ 4096 ∧ xz.length ≤ 4096 ∧ over.length ≤ 4096 ∧ uz.length ≤ 4096 ∧ under.length ≤ 4096
  c1 : unionOut x y = (u, 0)
  c2 : unionOut y x = (u, 0)
  c3 : interOut x y = (m, 0)
  c4 : interOut y x = (m, 0)
  c5 : unionOut x x = (x, 0)
  c6 : interOut x x = (x, 0)
  c7 : unionOut y z = (yz, 0)
  c8 : unionOut u z = (p, 0)
  c9 : unionOut x yz = (p, 0)
  c10 : interOut y z = (mid, 0)
  c11 : interOut m z = (r, 0)
  c12 : interOut x mid = (r, 0)
  c13 : interOut x z = (xz, 0)
  c14 : interOut x yz = (over, 0)
  c15 : unionOut m xz = (over, 0)
  c16 : unionOut x z = (uz, 0)
  c17 : unionOut x mid = (under, 0)
  c18 : interOut u uz = (under, 0)
theorem pair_eq {a b : List Sq} {o : List Sq × Int} (h : o = (a, 0)) (e : a = b) : o = (b, 0) := by rw [h, e]
theorem alg_data {x y z : List Sq} (hx : Rg x 40) (hy : Rg y 40) (hz : Rg z 40) : ∃ u m yz p mid r xz over uz under, AlgD x y z u m yz p mid r xz over uz under := by
  obtain ⟨u1, u2, u3⟩ := hx.uni hy (by omega)
  obtain ⟨v1, v2, v3⟩ := hy.uni hx (by omega)
  obtain ⟨m1, m2, m3⟩ := hx.int hy (by omega)
  obtain ⟨n1, n2, n3⟩ := hy.int hx (by omega)
  obtain ⟨o1, o2, o3⟩ := hx.uni hx (by omega)
  obtain ⟨s1, s2, s3⟩ := hx.int hx (by omega)
  obtain ⟨a1, a2, a3⟩ := hy.uni hz (by omega)
  obtain ⟨b1, b2, b3⟩ := u2.uni hz (by omega)
  obtain ⟨c1, c2, c3⟩ := hx.uni a2 (by omega)
  obtain ⟨d1, d2, d3⟩ := hy.int hz (by omega)
  obtain ⟨e1, e2, e3⟩ := m2.int hz (by omega)
  obtain ⟨f1, f2, f3⟩ := hx.int d2 (by omega)
  obtain ⟨g1, g2, g3⟩ := hx.int hz (by omega)
  obtain ⟨h1, h2, h3⟩ := hx.int a2 (by omega)
  obtain ⟨i1, i2, i3⟩ := m2.uni g2 (by omega)
  obtain ⟨j1, j2, j3⟩ := hx.uni hz (by omega)
  obtain ⟨k1, k2, k3⟩ := hx.uni d2 (by omega)
  obtain ⟨l1, l2, l3⟩ := u2.int j2 (by omega)
  have q1 := v2.ext u2 fun s t => (v3 s t).trans (Or.comm.trans (u3 s t).symm)
  have q2 := n2.ext m2 fun s t => (n3 s t).trans (And.comm.trans (m3 s t).symm)
  have q3 := o2.ext hx fun s t => (o3 s t).trans (or_self_iff)
  have q4 := s2.ext hx fun s t => (s3 s t).trans (and_self_iff)
  have q5 := c2.ext b2 fun s t => by rw [c3 s t, a3 s t, b3 s t, u3 s t]; exact or_assoc.symm
  have q6 := f2.ext e2 fun s t => by rw [f3 s t, d3 s t, e3 s t, m3 s t]; exact and_assoc.symm
  have q7 := i2.ext h2 fun s t => by rw [i3 s t, m3 s t, g3 s t, h3 s t, a3 s t]; exact and_or_left.symm
  have q8 := l2.ext k2 fun s t => by rw [l3 s t, u3 s t, j3 s t, k3 s t, d3 s t]; exact or_and_left.symm
  refine ⟨uniR x y, intR x y, uniR y z, uniR (uniR x y) z, intR y z, intR (intR x y) z, intR x z, intR x (uniR y z), uniR x z, uniR x (intR y z), ?_, u1, pair_eq v1 q1, m1, pair_eq n1 q2, pair_eq o1 q3, pair_eq s1 q4, a1, b1, pair_eq c1 q5, d1, e1, pair_eq f1 q6, g1, h1, pair_eq i1 q7, j1, k1, pair_eq l1 q8⟩
  have := hx.len; have := hy.len; have := hz.len; have := u2.len; have := m2.len; have := a2.len; have := b2.len; have := d2.len; have := e2.len; have := g2.len; have := h2.len; have := j2.len; have := k2.len
  refine ⟨?_, ?_, ?_, ?_, ?_, ?_, ?_, ?_, ?_, ?_, ?_, ?_, ?_⟩ <;> omega

theorem alg_nrm {a b c : List Sq} (hl : a.length ≤ 40 ∧ b.length ≤ 40 ∧ c.length ≤ 40) (ho : (∀ s ∈ a, s.okB = true) ∧ (∀ s ∈ b, s.okB = true) ∧ (∀ s ∈ c, s.okB = true)) : ∃ u m yz p mid r xz over uz under, AlgD (nrm a) (nrm b) (nrm c) u m yz p mid r xz over uz under :=
  alg_data (Rg.nrm ho.1 hl.1 (by decide)) (Rg.nrm ho.2.1 hl.2.1 (by decide)) (Rg.nrm ho.2.2 hl.2.2 (by decide))
theorem kb_three {w X : World} {x y z : Value} {a b c : List Sq} (h : Below w.heap.size w X) (hx : SqSl X X.heap.size x a) (hy : SqSl X X.heap.size y b) (hz : SqSl X X.heap.size z c) : KB w [] [(z, c), (y, b), (x, a)] X :=
  KB.slice (KB.slice (KB.slice ⟨h, fun _ hp => absurd hp (List.not_mem_nil), fun _ hq => absurd hq (List.not_mem_nil)⟩ hx) hy) hz
theorem alg_three {w w1 w2 : World} {x y z : Value} {a b c : List Sq} (h1 : Below w.heap.size w w1) (h2 : Below w1.heap.size w1 w2) (hl : a.length ≤ 40 ∧ b.length ≤ 40 ∧ c.length ≤ 40) (ho : (∀ s ∈ a, s.okB = true) ∧ (∀ s ∈ b, s.okB = true) ∧ (∀ s ∈ c, s.okB = true)) (hx : SqSl w2 w2.heap.size x (nrm a)) (hy : SqSl w2 w2.heap.size y (nrm b)) (hz : SqSl w2 w2.heap.size z (nrm c)) :
    ∃ lx ly lz u m yz p mid r xz over uz under, KB w [] [(z, lz), (y, ly), (x, lx)] w2 ∧ AlgD lx ly lz u m yz p mid r xz over uz under := by
  obtain ⟨u, m, yz, p, mid, r, xz, over, uz, under, h⟩ := alg_nrm hl ho
  exact ⟨nrm a, nrm b, nrm c, u, m, yz, p, mid, r, xz, over, uz, under, kb_three (h1.trans (h2.mono h1.size)) hx hy hz, h⟩

theorem Union_is (u v : Value) (a b r : List Sq) (w : World) (hu : SqSl w w.heap.size u a) (hv : SqSl w w.heap.size v b) (hna : a.length ≤ 4096) (hnb : b.length ≤ 4096) (h : unionOut a b = (r, 0)) :
    Calls Tryz.prog 10 #[u, v] w fun e w' => (∃ x, e = .returned (.tuple #[x, .int .i64 0]) ∧ SqSl w' w'.heap.size x r) ∧ Below w.heap.size w w' := by
  have hU := Union_any u v a b w hu hv (by omega) (by omega)
  rw [h] at hU
  refine hU.mono ?_
  rintro e w' ⟨⟨A, c, rfl, hA⟩, hb⟩
  exact ⟨⟨_, rfl, A, c, rfl, hA⟩, hb⟩
theorem Intersect_is (u v : Value) (a b r : List Sq) (w : World) (hu : SqSl w w.heap.size u a) (hv : SqSl w w.heap.size v b) (hna : a.length ≤ 4096) (hnb : b.length ≤ 4096) (h : interOut a b = (r, 0)) :
    Calls Tryz.prog 15 #[u, v] w fun e w' => (∃ x, e = .returned (.tuple #[x, .int .i64 0]) ∧ SqSl w' w'.heap.size x r) ∧ Below w.heap.size w w' := by
  have hU := Intersect_any u v a b w hu hv (by omega) (by omega)
  rw [h] at hU
  refine hU.mono ?_
  rintro e w' ⟨⟨A, c, rfl, hA⟩, hb⟩
  exact ⟨⟨_, rfl, A, c, rfl, hA⟩, hb⟩
theorem Same_is (u v : Value) (a : List Sq) (w : World) (hu : SqSl w w.heap.size u a) (hv : SqSl w w.heap.size v a) (hna : a.length ≤ 4096) :
    Calls Tryz.prog 14 #[u, v] w fun e w' => e = .returned (.bool true) ∧ Below w.heap.size w w' := by
  have h := SameSquares_any u v a a w hu hv (by omega)
  rwa [show decide (a = a) = true by simp] at h

end Go.Proofs.YtabolonlkocopaaGreatDoor
