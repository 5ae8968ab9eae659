/- The reference's Normal, Union, Intersect, Minus. -/
import Derived.Test.YtabolonlkocopaaGreatDoorTreb
import Derived.Test.YtabolonlkocopaaGreatDoorCgx
import Derived.Test.YtabolonlkocopaaGreatDoorUni
import Derived.Test.YtabolonlkocopaaGreatDoorUnn
import Derived.Test.YtabolonlkocopaaGreatDoorTrea
import Derived.Test.YtabolonlkocopaaGreatDoorHas
namespace Go.Proofs.YtabolonlkocopaaGreatDoor
open Go.RowKit Go.Plc

/-- a slice of squares and an errno that are named -/
def OutS (R : List Sq) (er : Int) (w : World) (e : Ending) (w' : World) : Prop :=
  (∃ u, e = .returned (.tuple #[u, .int .i64 er]) ∧ SqSl w' w'.heap.size u R) ∧ Below w.heap.size w w'
theorem OutS.nil {er : Int} {w w' : World} (hb : Below w.heap.size w w') : OutS [] er w (.returned (.tuple #[.slice none 0 0, .int .i64 er])) w' :=
  ⟨⟨_, rfl, none, 0, rfl, fun i s hs => by simp at hs⟩, hb⟩
theorem OutS.mk {R : List Sq} {er : Int} {w w' : World} {u : Value} (hs : SqSl w' w'.heap.size u R) (hb : Below w.heap.size w w') : OutS R er w (.returned (.tuple #[u, .int .i64 er])) w' := ⟨⟨u, rfl, hs⟩, hb⟩
def NrmD (a c : List Sq) (er : Int) : Prop :=
  (4096 < a.length ∧ c = [] ∧ er = 2) ∨ (a.length ≤ 4096 ∧ a.all Sq.okB = false ∧ c = [] ∧ er = 10) ∨
    (a.length ≤ 4096 ∧ a.all Sq.okB = true ∧ er = 0 ∧ c.length ≤ 4096 ∧ Fit (growS a) 10 ∧ (sqs (growS a) wholeS).length ≤ 100000 ∧ listT (growS a) = c)
theorem nrm_data (a : List Sq) : ∃ c er, normalOut a = (c, er) ∧ NrmD a c er ∧ c.length ≤ 4096 := by
  by_cases h1 : a.length ≤ 4096
  · cases h2 : a.all Sq.okB
    · exact ⟨[], 10, by unfold normalOut; rw [if_pos h1, h2]; rfl, .inr (.inl ⟨h1, h2, rfl, rfl⟩), by simp⟩
    · have ho := all_ok.1 h2
      obtain ⟨g1, g2, g3⟩ := gl_len ho h1
      have h4 := (nrm_reg ho h1).2.1
      exact ⟨nrm a, 0, normalOut_ok ho h1, .inr (.inr ⟨h1, h2, rfl, by omega, g1, g2, g3⟩), by omega⟩
  · exact ⟨[], 2, by unfold normalOut; rw [if_neg h1], .inl ⟨by omega, rfl, rfl⟩, by simp⟩
def MixD (k : Int) (a b R : List Sq) (er : Int) : Prop :=
  (regB a = false ∧ R = [] ∧ er = 11) ∨ (regB a = true ∧ regB b = false ∧ R = [] ∧ er = 11) ∨
    (regB a = true ∧ regB b = true ∧ er = 0 ∧ R.length ≤ 4096 ∧ Fit (mixT (opK k) (growS a) (growS b)) 10 ∧ (sqs (mixT (opK k) (growS a) (growS b)) wholeS).length ≤ 100000 ∧ listT (mixT (opK k) (growS a) (growS b)) = R)
theorem mix_of {k : Int} (P : Prop → Prop → Prop) {a b R : List Sq} (ha : regB a = true) (hb : regB b = true) (hR : regB R = true)
    (hop : ∀ (p q : Bool) (A B : Prop), (p = true ↔ A) → (q = true ↔ B) → (opK k p q = true ↔ P A B)) (hP : ∀ A B, P A B → A ∨ B) (hc : ∀ x y, covC R x y ↔ P (covC a x y) (covC b x y)) : MixD k a b R 0 := by
  have ra := regB_iff.1 ha
  have rb := regB_iff.1 hb
  have rr := regB_iff.1 hR
  obtain ⟨a1, a2⟩ := grow_tdy 10 wholeS a
  obtain ⟨b1, b2⟩ := grow_tdy 10 wholeS b
  obtain ⟨m1, m2, _⟩ := mix_spec (opK k) (growS a) (growS b) 10 a2 b2 a1 b1
  have e := mix_list (opK k) P ra.2.1.ok rb.2.1.ok rr.2.1 rr.2.2 hop hP hc
  have h3 := (sqs_canon (mixT (opK k) (growS a) (growS b)) wholeS whole_ok m1 m2).1
  have h4 : (listT (mixT (opK k) (growS a) (growS b))).length = (sqs (mixT (opK k) (growS a) (growS b)) wholeS).length := region_len h3.ok
  rw [e] at h4
  exact .inr (.inr ⟨ha, hb, rfl, rr.1, m1, by have := rr.1; omega, e⟩)
theorem few_cases {L : List Sq} (h : fewB L = true) : L.length ≤ 60 ∨ (regB L = false ∧ L.length ≤ 8192) := by
  unfold fewB at h
  rw [Bool.or_eq_true, Bool.and_eq_true, decide_eq_true_eq, decide_eq_true_eq, decide_eq_true_eq] at h
  rcases h with h | ⟨h1, h2⟩
  · exact .inl h
  · exact .inr ⟨(Bool.eq_false_iff).2 fun e => (by have := (regB_iff.1 e).1; omega), h2⟩
theorem few_len {L : List Sq} (h : fewB L = true) : L.length ≤ 8192 := by
  rcases few_cases h with h | h
  · omega
  · exact h.2
/-- what both sides return for two lists -/
structure RegD (a b c m p x : List Sq) (e g i k : Int) : Prop where
  n1 : normalOut a = (c, e)
  n2 : NrmD a c e
  u1 : unionOut a b = (m, g)
  u2 : MixD 0 a b m g
  i1 : interOut a b = (p, i)
  i2 : MixD 1 a b p i
  m1 : minusOut a b = (x, k)
  m2 : MixD 2 a b x k
  len : c.length ≤ 4096 ∧ m.length ≤ 4096 ∧ p.length ≤ 4096 ∧ x.length ≤ 4096
theorem reg_data {a b : List Sq} (ha : fewB a = true) (hb : fewB b = true) : ∃ c m p x e g i k, RegD a b c m p x e g i k := by
  obtain ⟨c, e, n1, n2, n3⟩ := nrm_data a
  cases h1 : regB a
  · refine ⟨c, [], [], [], e, 11, 11, 11, n1, n2, ?_, .inl ⟨h1, rfl, rfl⟩, ?_, .inl ⟨h1, rfl, rfl⟩, ?_, .inl ⟨h1, rfl, rfl⟩, n3, by simp, by simp, by simp⟩
    · unfold unionOut; rw [h1]; rfl
    · unfold interOut; rw [h1]; rfl
    · unfold minusOut; rw [h1]; rfl
  · cases h2 : regB b
    · refine ⟨c, [], [], [], e, 11, 11, 11, n1, n2, ?_, .inr (.inl ⟨h1, h2, rfl, rfl⟩), ?_, .inr (.inl ⟨h1, h2, rfl, rfl⟩), ?_, .inr (.inl ⟨h1, h2, rfl, rfl⟩), n3, by simp, by simp, by simp⟩
      · unfold unionOut; rw [h1, h2]; rfl
      · unfold interOut; rw [h1, h2]; rfl
      · unfold minusOut; rw [h1, h2]; rfl
    · have la : a.length ≤ 60 := (few_cases ha).elim id fun h => by rw [h.1] at h1; cases h1
      have lb : b.length ≤ 60 := (few_cases hb).elim id fun h => by rw [h.1] at h2; cases h2
      obtain ⟨u1, u2, u3, u4⟩ := uni_reg h1 h2 (by omega)
      obtain ⟨i1, i2, i3, i4⟩ := int_reg h1 h2 (by omega)
      obtain ⟨m1, m2, m3, m4⟩ := min_reg h1 h2 (by omega)
      refine ⟨c, uniR a b, intR a b, minR a b, e, 0, 0, 0, n1, n2, u1, ?_, i1, ?_, m1, ?_, n3, by omega, by omega, by omega⟩
      · refine mix_of (fun A B => A ∨ B) h1 h2 u2 (fun p q A B hp hq => ?_) (fun A B h => h) u4
        simp [opK, hp, hq]
      · refine mix_of (fun A B => A ∧ B) h1 h2 i2 (fun p q A B hp hq => ?_) (fun A B h => .inl h.1) i4
        simp [opK, hp, hq]
      · refine mix_of (fun A B => A ∧ ¬ B) h1 h2 m2 (fun p q A B hp hq => ?_) (fun A B h => .inl h.1) m4
        simp [opK, hp, ← hq]

set_option maxRecDepth 100000 in
set_option maxHeartbeats 8000000 in
theorem rNormal_any (v : Value) (a c : List Sq) (er : Int) (w : World) (hv : SqSl w w.heap.size v a) (hn : a.length ≤ 100000) (h : NrmD a c er) :
    Calls Tryz.prog 9 #[v] w (OutS c er w) := by
  have HV := Lib.hid hv
  have HN := Lib.hid hn
  obtain ⟨A, cp, rfl⟩ := sl_formJ hv
  have HVa := Lib.hid (rvalid_any _ a w hv (by omega))
  clear hv hn
  rcases h with ⟨h1, rfl, rfl⟩ | ⟨h1, h2, rfl, rfl⟩ | ⟨h1, h2, rfl, h3, h4, h5, h6⟩
  · have hlt : (4096 : Int) < (a.length : Int) := by omega
    clear h1
    go_enter Tryz.func9, Tryz.ntmps9
    go_wp2_with fail
    go_ret2
    exact OutS.nil (Below.refl _ _)
  · rw [h2] at HVa
    have hlt : ¬ (4096 : Int) < (a.length : Int) := by omega
    clear h1 h2
    go_enter Tryz.func9, Tryz.ntmps9
    go_wp2_with fail
    refine HVa.out.mono ?_
    rintro e w1 ⟨rfl, hb⟩
    go_wp2_with fail
    go_ret2
    exact OutS.nil hb
  · rw [h2] at HVa
    have HG := Lib.hid (And.intro h4 (And.intro h5 h6))
    have HO := Lib.hid (all_ok.1 h2)
    have hlt : ¬ (4096 : Int) < (a.length : Int) := by omega
    clear h1 h2 h3 h4 h5 h6
    go_enter Tryz.func9, Tryz.ntmps9
    go_wp2_with fail
    refine HVa.out.mono ?_
    rintro e w1 ⟨rfl, hb⟩
    have HB1 := Lib.hid hb
    clear hb
    go_wp2_with fail
    refine (grow_any _ a w1 HO.out HN.out ((HV.out.below HB1.out).mono HB1.out.size)).mono ?_
    rintro e w2 ⟨⟨u, rfl, hu⟩, hb⟩
    have HB2 := Lib.hid (HB1.out.trans (hb.mono HB1.out.size))
    have HU := Lib.hid hu
    obtain ⟨gu, rfl, _, _⟩ := hu.flag
    clear hb hu
    go_wp2_with fail
    refine (list_any (growS a) _ w2 _ HG.out.1 HG.out.2.1 HU.out).mono ?_
    rintro e w3 ⟨⟨u, rfl, hu⟩, hb⟩
    rw [HG.out.2.2] at hu
    have HB3 := Lib.hid (HB2.out.trans (hb.mono HB2.out.size))
    have HU3 := Lib.hid hu
    obtain ⟨A3, c3, rfl⟩ := sl_formJ hu
    clear hb hu
    go_wp2_with fail
    go_ret2
    exact OutS.mk HU3.out HB3.out

set_option maxRecDepth 100000 in
set_option maxHeartbeats 8000000 in
theorem mixed_any (kd : Int) (hkd : kd = 0 ∨ kd = 1 ∨ kd = 2) (u v : Value) (a b R : List Sq) (er : Int) (w : World) (hu : SqSl w w.heap.size u a) (hv : SqSl w w.heap.size v b) (hna : a.length ≤ 100000) (hnb : b.length ≤ 100000) (h : MixD kd a b R er) :
    Calls Tryz.prog 45 #[u, v, .int .i64 kd] w (OutS R er w) := by
  have HK := Lib.hid hkd
  have HU := Lib.hid hu
  have HV := Lib.hid hv
  have HN := Lib.hid (And.intro hna hnb)
  have HA := Lib.hid (rValidRegion_any u a w hu hna)
  obtain ⟨A, ca, rfl⟩ := sl_formJ hu
  obtain ⟨B, cb, rfl⟩ := sl_formJ hv
  clear hkd hu hv hna hnb
  rcases h with ⟨h1, rfl, rfl⟩ | ⟨h1, h2, rfl, rfl⟩ | ⟨h1, h2, rfl, h3, h4, h5, h6⟩
  · rw [h1] at HA
    clear h1
    go_enter Tryz.func45, Tryz.ntmps45
    go_wp2_with fail
    refine HA.out.mono ?_
    rintro e w1 ⟨rfl, hb⟩
    go_wp2_with fail
    go_ret2
    exact OutS.nil hb
  · rw [h1] at HA
    have HF := Lib.hid h2
    clear h1 h2
    go_enter Tryz.func45, Tryz.ntmps45
    go_wp2_with fail
    refine HA.out.mono ?_
    rintro e w1 ⟨rfl, hb⟩
    have HB1 := Lib.hid hb
    have hB2 := rValidRegion_any _ b w1 ((HV.out.below hb).mono hb.size) HN.out.2
    rw [HF.out] at hB2
    have HB2 := Lib.hid hB2
    clear hb hB2
    go_wp2_with fail
    refine HB2.out.mono ?_
    rintro e w2 ⟨rfl, hb⟩
    have HB3 := Lib.hid (HB1.out.trans (hb.mono HB1.out.size))
    clear hb
    go_wp2_with fail
    go_ret2
    exact OutS.nil HB3.out
  · rw [h1] at HA
    have HF := Lib.hid (And.intro h2 (And.intro (regB_iff.1 h1).2.1.ok (regB_iff.1 h2).2.1.ok))
    have HG := Lib.hid (And.intro h4 (And.intro h5 h6))
    have HL := Lib.hid h3
    clear h1 h2 h3 h4 h5 h6
    go_enter Tryz.func45, Tryz.ntmps45
    go_wp2_with fail
    refine HA.out.mono ?_
    rintro e w1 ⟨rfl, hb⟩
    have HB1 := Lib.hid hb
    have hB2 := rValidRegion_any _ b w1 ((HV.out.below hb).mono hb.size) HN.out.2
    rw [HF.out.1] at hB2
    have HR := Lib.hid hB2
    clear hb hB2
    go_wp2_with fail
    refine HR.out.mono ?_
    rintro e w2 ⟨rfl, hb⟩
    have HB2 := Lib.hid (HB1.out.trans (hb.mono HB1.out.size))
    clear hb
    go_wp2_with fail
    refine (grow_any _ a w2 HF.out.2.1 HN.out.1 ((HU.out.below HB2.out).mono HB2.out.size)).mono ?_
    rintro e w3 ⟨⟨ua, rfl, hu⟩, hb⟩
    have HB3 := Lib.hid (HB2.out.trans (hb.mono HB2.out.size))
    have HTa := Lib.hid hu
    obtain ⟨ga, rfl, _, _⟩ := hu.flag
    clear hb hu
    go_wp2_with fail
    refine (grow_any _ b w3 HF.out.2.2 HN.out.2 ((HV.out.below HB3.out).mono HB3.out.size)).mono ?_
    rintro e w4 ⟨⟨ub, rfl, hu⟩, hb⟩
    have HB4 := Lib.hid (HB3.out.trans (hb.mono HB3.out.size))
    have HTa4 := Lib.hid (HTa.out.step hb)
    have HTb := Lib.hid hu
    obtain ⟨gb, rfl, _, _⟩ := hu.flag
    clear hb hu
    go_wp2_with fail
    refine (mix_any kd HK.out _ (growS a) (growS b) _ _ w4 (fun _ => True) (Nat.le_refl _) (HTa4.out.imp fun _ _ _ => trivial) (HTb.out.imp fun _ _ _ => trivial)).mono ?_
    rintro e w5 ⟨⟨u, rfl, hu⟩, hb⟩
    have HB5 := Lib.hid (HB4.out.trans (hb.mono HB4.out.size))
    have HT := Lib.hid hu
    obtain ⟨gu, rfl, _, _⟩ := hu.flag
    clear hb hu
    go_wp2_with fail
    refine (list_any _ _ w5 _ HG.out.1 HG.out.2.1 HT.out).mono ?_
    rintro e w6 ⟨⟨u, rfl, hu⟩, hb⟩
    rw [HG.out.2.2] at hu
    have HB6 := Lib.hid (HB5.out.trans (hb.mono HB5.out.size))
    have HU6 := Lib.hid hu
    obtain ⟨A6, c6, rfl⟩ := sl_formJ hu
    have hlt : ¬ (4096 : Int) < (R.length : Int) := by have := HL.out; omega
    clear hb hu
    go_wp2_with fail
    go_ret2
    exact OutS.mk HU6.out HB6.out
end Go.Proofs.YtabolonlkocopaaGreatDoor

/- The reference's coarse squares of a tree, as plain mathematics. -/
namespace Go.Proofs.YtabolonlkocopaaGreatDoor
open Go.RowKit Go.Plc

/-- the squares of a level that a tree meets, in the order in which they are told -/
def cgL : Nat → Tr → Sq → List Sq
  | 0, t, s => if t = .leaf false then [] else [s]
  | n + 1, t, s => if t = .leaf false then [] else cgL n (kidT t 0) (k0 s) ++ (cgL n (kidT t 1) (k1 s) ++ (cgL n (kidT t 2) (k2 s) ++ cgL n (kidT t 3) (k3 s)))
theorem sqs_some : ∀ (t : Tr) (s : Sq), Tdy t → t ≠ .leaf false → sqs t s ≠ []
  | .leaf true, s, _, _ => by simp [sqs]
  | .leaf false, s, _, h => absurd rfl h
  | .node a b c d, s, ht, _ => by
    obtain ⟨_, h, ta, tb, tc, td⟩ := ht
    intro e
    simp only [sqs, List.append_eq_nil_iff] at e
    obtain ⟨ea, eb, ec, ed⟩ := e
    refine h ⟨?_, ?_, ?_, ?_⟩
    · exact Classical.byContradiction fun hn => sqs_some a _ ta hn ea
    · exact Classical.byContradiction fun hn => sqs_some b _ tb hn eb
    · exact Classical.byContradiction fun hn => sqs_some c _ tc hn ec
    · exact Classical.byContradiction fun hn => sqs_some d _ td hn ed
theorem ev_some {t : Tr} {s : Sq} (h0 : 0 ≤ s.l) (hf : Fit t s.l.toNat) (ht : Tdy t) (hn : t ≠ .leaf false) : ∃ x y, inS s x y ∧ ev t s.l.toNat x y = true := by
  have h := sqs_some t s ht hn
  cases hs : sqs t s with
  | nil => exact absurd hs h
  | cons q Q =>
    exact ⟨_, _, (sqs_ev t s h0 hf _ _).1 ⟨q, by rw [hs]; exact List.mem_cons_self, in_corner q⟩⟩
/-- the kid of a tree in which a cell lies -/
theorem kidT_tdy {t : Tr} (h : Tdy t) (i : Nat) : Tdy (kidT t i) := by
  cases t with
  | leaf b => exact trivial
  | node a b c d =>
    match i with
    | 0 => exact h.2.2.1
    | 1 => exact h.2.2.2.1
    | 2 => exact h.2.2.2.2.1
    | _ + 3 => exact h.2.2.2.2.2
theorem kidT_fit {t : Tr} {n : Nat} (h : Fit t n) (i : Nat) : Fit (kidT t i) (n - 1) := by
  cases t with
  | leaf b => exact trivial
  | node a b c d =>
    match i with
    | 0 => exact h.2.1
    | 1 => exact h.2.2.1
    | 2 => exact h.2.2.2.1
    | _ + 3 => exact h.2.2.2.2
theorem kid_ev {t : Tr} {s : Sq} {x y : Int} (h1 : 1 ≤ s.l) :
    (inS (k0 s) x y → ev t s.l.toNat x y = ev (kidT t 0) (s.l.toNat - 1) x y) ∧ (inS (k1 s) x y → ev t s.l.toNat x y = ev (kidT t 1) (s.l.toNat - 1) x y) ∧
    (inS (k2 s) x y → ev t s.l.toNat x y = ev (kidT t 2) (s.l.toNat - 1) x y) ∧ (inS (k3 s) x y → ev t s.l.toNat x y = ev (kidT t 3) (s.l.toNat - 1) x y) := by
  obtain ⟨i0, i1, i2, i3⟩ := in_k (s := s) (x := x) (y := y) h1
  cases t with
  | leaf b => exact ⟨fun _ => rfl, fun _ => rfl, fun _ => rfl, fun _ => rfl⟩
  | node a b c d =>
    refine ⟨fun h => ?_, fun h => ?_, fun h => ?_, fun h => ?_⟩
    · obtain ⟨_, e1, e2⟩ := i0.1 h; simp only [ev, kidT, if_pos e1, if_pos e2]
    · obtain ⟨_, e1, e2⟩ := i1.1 h; simp only [ev, kidT, if_pos e1, if_neg e2]
    · obtain ⟨_, e1, e2⟩ := i2.1 h; simp only [ev, kidT, if_neg e1, if_pos e2]
    · obtain ⟨_, e1, e2⟩ := i3.1 h; simp only [ev, kidT, if_neg e1, if_neg e2]
theorem in_some_k {s : Sq} {x y : Int} (h1 : 1 ≤ s.l) (h : inS s x y) : inS (k0 s) x y ∨ inS (k1 s) x y ∨ inS (k2 s) x y ∨ inS (k3 s) x y := by
  obtain ⟨i0, i1, i2, i3⟩ := in_k (s := s) (x := x) (y := y) h1
  rw [i0, i1, i2, i3]
  by_cases hy : (y / 2 ^ (s.l.toNat - 1)) % 2 = 0 <;> by_cases hx : (x / 2 ^ (s.l.toNat - 1)) % 2 = 0 <;> simp [h, hx, hy]
theorem mem_cgL : ∀ (n : Nat) (t : Tr) (s q : Sq), (n : Int) ≤ s.l → Fit t s.l.toNat → Tdy t →
    (q ∈ cgL n t s ↔ q.l = s.l - n ∧ withinS q s = true ∧ ∃ x y, inS q x y ∧ ev t s.l.toNat x y = true)
  | 0, t, s, q, h0, hf, ht => by
    unfold cgL
    by_cases hn : t = .leaf false
    · rw [if_pos hn]; subst hn
      simp [ev]
    · rw [if_neg hn, List.mem_singleton]
      constructor
      · rintro rfl
        exact ⟨by omega, Go.Plc.within_refl q, ev_some (by omega) hf ht hn⟩
      · rintro ⟨h1, h2, _⟩
        exact within_level h2 (by omega)
  | n + 1, t, s, q, h0, hf, ht => by
    unfold cgL
    have hl : 1 ≤ s.l := by omega
    by_cases hn : t = .leaf false
    · rw [if_pos hn]; subst hn
      simp [ev]
    · rw [if_neg hn]
      have hk : ∀ k : Sq, k.l = s.l - 1 → k.l.toNat = s.l.toNat - 1 := fun k hk => by rw [hk]; exact toNat_pred hl
      have m0 := mem_cgL n (kidT t 0) (k0 s) q (by show (n : Int) ≤ s.l - 1; omega) (by rw [hk _ rfl]; exact kidT_fit hf 0) (kidT_tdy ht 0)
      have m1 := mem_cgL n (kidT t 1) (k1 s) q (by show (n : Int) ≤ s.l - 1; omega) (by rw [hk _ rfl]; exact kidT_fit hf 1) (kidT_tdy ht 1)
      have m2 := mem_cgL n (kidT t 2) (k2 s) q (by show (n : Int) ≤ s.l - 1; omega) (by rw [hk _ rfl]; exact kidT_fit hf 2) (kidT_tdy ht 2)
      have m3 := mem_cgL n (kidT t 3) (k3 s) q (by show (n : Int) ≤ s.l - 1; omega) (by rw [hk _ rfl]; exact kidT_fit hf 3) (kidT_tdy ht 3)
      rw [hk _ rfl] at m0 m1 m2 m3
      have hkl : ∀ k ∈ kidsS s, k.l = s.l - 1 := fun k hk => (mem_kids.1 hk).1
      simp only [List.mem_append, m0, m1, m2, m3]
      have up : ∀ (k : Sq) (i : Nat), k ∈ kidsS s → (∀ x y, inS k x y → ev t s.l.toNat x y = ev (kidT t i) (s.l.toNat - 1) x y) → (q.l = k.l - (n : Int) ∧ withinS q k = true ∧ ∃ x y, inS q x y ∧ ev (kidT t i) (s.l.toNat - 1) x y = true) →
          q.l = s.l - ((n + 1 : Nat) : Int) ∧ withinS q s = true ∧ ∃ x y, inS q x y ∧ ev t s.l.toNat x y = true := fun k i hk he ⟨a1, a2, x, y, a3, a4⟩ => by
        have hl' := hkl k hk
        have hq0 : 0 ≤ q.l := by omega
        exact ⟨by omega, Go.Plc.within_trans hq0 a2 (kid_within hk), x, y, a3, by rw [he x y (in_of_within hq0 a2 a3)]; exact a4⟩
      constructor
      · rintro (h | h | h | h)
        · exact up (k0 s) 0 (by simp [kids_eq]) (fun x y => (kid_ev hl).1) h
        · exact up (k1 s) 1 (by simp [kids_eq]) (fun x y => (kid_ev hl).2.1) h
        · exact up (k2 s) 2 (by simp [kids_eq]) (fun x y => (kid_ev hl).2.2.1) h
        · exact up (k3 s) 3 (by simp [kids_eq]) (fun x y => (kid_ev hl).2.2.2) h
      · rintro ⟨a1, a2, x, y, a3, a4⟩
        have hq0 : 0 ≤ q.l := by omega
        have down : ∀ k : Sq, k.l = s.l - 1 → inS k x y → q.l = k.l - (n : Int) ∧ withinS q k = true := fun k hk hi => ⟨by omega, within_of_common hq0 (by omega) a3 hi⟩
        rcases in_some_k hl (in_of_within hq0 a2 a3) with h | h | h | h
        · exact .inl ⟨(down _ rfl h).1, (down _ rfl h).2, x, y, a3, by rw [← (kid_ev hl).1 h]; exact a4⟩
        · exact .inr (.inl ⟨(down _ rfl h).1, (down _ rfl h).2, x, y, a3, by rw [← (kid_ev hl).2.1 h]; exact a4⟩)
        · exact .inr (.inr (.inl ⟨(down _ rfl h).1, (down _ rfl h).2, x, y, a3, by rw [← (kid_ev hl).2.2.1 h]; exact a4⟩))
        · exact .inr (.inr (.inr ⟨(down _ rfl h).1, (down _ rfl h).2, x, y, a3, by rw [← (kid_ev hl).2.2.2 h]; exact a4⟩))
theorem cgL_in {n : Nat} {t : Tr} {s q : Sq} (h0 : (n : Int) ≤ s.l) (hf : Fit t s.l.toNat) (ht : Tdy t) (hq : q ∈ cgL n t s) : 0 ≤ q.l ∧ withinS q s = true := by
  have := (mem_cgL n t s q h0 hf ht).1 hq
  exact ⟨by omega, this.2.1⟩
theorem cgL_nd : ∀ (n : Nat) (t : Tr) (s : Sq), (n : Int) ≤ s.l → Fit t s.l.toNat → Tdy t → (cgL n t s).Nodup
  | 0, t, s, _, _, _ => by
    unfold cgL
    split
    · exact List.nodup_nil
    · exact List.nodup_cons.2 ⟨List.not_mem_nil, List.nodup_nil⟩
  | n + 1, t, s, h0, hf, ht => by
    unfold cgL
    have hl : 1 ≤ s.l := by omega
    have hk : ∀ k : Sq, k.l = s.l - 1 → k.l.toNat = s.l.toNat - 1 := fun k hk => by rw [hk]; exact toNat_pred hl
    have f : ∀ (k : Sq) (i : Nat), k.l = s.l - 1 → (n : Int) ≤ k.l ∧ Fit (kidT t i) k.l.toNat ∧ Tdy (kidT t i) := fun k i e => ⟨by omega, by rw [hk _ e]; exact kidT_fit hf i, kidT_tdy ht i⟩
    have g : ∀ (k : Sq) (i : Nat) (hkl : k.l = s.l - 1) (q : Sq), q ∈ cgL n (kidT t i) k → 0 ≤ q.l ∧ withinS q k = true := fun k i e q hq => cgL_in (f k i e).1 (f k i e).2.1 (f k i e).2.2 hq
    have dis : ∀ (k k' q : Sq), k ≠ k' → k.l = s.l - 1 → k'.l = s.l - 1 → (0 ≤ q.l ∧ withinS q k = true) → (0 ≤ q.l ∧ withinS q k' = true) → False := fun k k' q hne e e' h1 h2 =>
      hne (in_inj (e.trans e'.symm) (in_of_within h1.1 h1.2 (in_corner q)) (in_of_within h2.1 h2.2 (in_corner q)))
    obtain ⟨n1, n2, n3, n4, n5, n6⟩ := k_ne s
    split
    · exact List.nodup_nil
    · rw [List.nodup_append, List.nodup_append, List.nodup_append]
      refine ⟨cgL_nd n _ _ (f (k0 s) 0 rfl).1 (f (k0 s) 0 rfl).2.1 (f (k0 s) 0 rfl).2.2, ⟨cgL_nd n _ _ (f (k1 s) 1 rfl).1 (f (k1 s) 1 rfl).2.1 (f (k1 s) 1 rfl).2.2, ⟨cgL_nd n _ _ (f (k2 s) 2 rfl).1 (f (k2 s) 2 rfl).2.1 (f (k2 s) 2 rfl).2.2, cgL_nd n _ _ (f (k3 s) 3 rfl).1 (f (k3 s) 3 rfl).2.1 (f (k3 s) 3 rfl).2.2, ?_⟩, ?_⟩, ?_⟩
      · rintro a ha b hb rfl
        exact dis _ _ a n6.symm rfl rfl (g (k2 s) 2 rfl a ha) (g (k3 s) 3 rfl a hb)
      · rintro a ha b hb rfl
        rcases List.mem_append.1 hb with hb | hb
        · exact dis _ _ a n3.symm rfl rfl (g (k1 s) 1 rfl a ha) (g (k2 s) 2 rfl a hb)
        · exact dis _ _ a n5.symm rfl rfl (g (k1 s) 1 rfl a ha) (g (k3 s) 3 rfl a hb)
      · rintro a ha b hb rfl
        rcases List.mem_append.1 hb with hb | hb
        · exact dis _ _ a n1.symm rfl rfl (g (k0 s) 0 rfl a ha) (g (k1 s) 1 rfl a hb)
        · rcases List.mem_append.1 hb with hb | hb
          · exact dis _ _ a n2.symm rfl rfl (g (k0 s) 0 rfl a ha) (g (k2 s) 2 rfl a hb)
          · exact dis _ _ a n4.symm rfl rfl (g (k0 s) 0 rfl a ha) (g (k3 s) 3 rfl a hb)
/-- the coarse squares by a tree are those of the program -/
theorem cg_spec {l : List Sq} (hl : ∀ s ∈ l, s.okB = true) {L : Int} (h0 : 0 ≤ L) (h1 : L ≤ 10) :
    (cgL (10 - L).toNat (growS l) wholeS).length = (coarseC l L).length ∧ sortS (cgL (10 - L).toNat (growS l) wholeS) = regionS (coarseC l L) := by
  obtain ⟨g1, g2⟩ := grow_tdy 10 wholeS l
  have hn : (((10 - L).toNat : Nat) : Int) ≤ wholeS.l := by show _ ≤ (10 : Int); omega
  have hm : ∀ q, q ∈ cgL (10 - L).toNat (growS l) wholeS ↔ q ∈ coarseC l L := fun q => by
    have mm := mem_cgL (10 - L).toNat (growS l) wholeS q hn g2 g1
    rw [mm, mem_coarse]
    constructor
    · rintro ⟨a1, a2, x, y, a3, a4⟩
      have e : q.l = L := by rw [a1]; show (10 : Int) - _ = L; omega
      have hok : q.okB = true := piece_ok whole_ok h0 h1 ((mem_pieces (s := wholeS) h1).2 ⟨e, a2⟩)
      exact ⟨e, (meets_iff hl hok).2 ⟨x, y, a3, (grow_ev 10 wholeS l rfl hl x y (in_whole hok a3)).1 a4⟩⟩
    · rintro ⟨a1, a2⟩
      have hok : q.okB = true := coarse_ok hl h0 h1 (mem_coarse.2 ⟨a1, a2⟩)
      obtain ⟨x, y, a3, a4⟩ := (meets_iff hl hok).1 a2
      have hw := in_whole hok a3
      exact ⟨by rw [a1]; show L = (10 : Int) - _; omega, within_of_common (by omega) (by rw [a1]; exact h1) a3 hw, x, y, a3, (grow_ev 10 wholeS l rfl hl x y hw).2 a4⟩
  have nd : (cgL (10 - L).toNat (growS l) wholeS).Nodup := cgL_nd (10 - L).toNat (growS l) wholeS hn g2 g1
  have nd2 : (coarseC l L).Nodup := foldAdd_nd _ List.nodup_nil
  have hok : ∀ q ∈ coarseC l L, q.okB = true := fun q hq => coarse_ok hl h0 h1 hq
  refine ⟨((List.perm_ext_iff_of_nodup nd nd2).2 hm).length_eq, sorted_ext (sortS_strict nd) (region_sorted nd2) fun q => ?_⟩
  rw [(sortS_perm _).mem_iff, hm, mem_region hok]
end Go.Proofs.YtabolonlkocopaaGreatDoor

/- The reference's coarse and Coarse. -/
namespace Go.Proofs.YtabolonlkocopaaGreatDoor
open Go.RowKit Go.Plc

/-- what the growing of a row of the call's own keeps -/
structure KpO (u u' : Value) (w w' : World) : Prop where
  size : w.heap.size ≤ w'.heap.size
  keep : ∀ k, k < w.heap.size → u.ownBlock ≠ some k → w'.heap[k]? = w.heap[k]?
  own : u'.ownBlock = u.ownBlock ∨ ∃ g, u'.ownBlock = some g ∧ w.heap.size ≤ g
theorem KpO.of_below {u : Value} {w w' : World} (h : Below w.heap.size w w') : KpO u u w w' := ⟨h.size, fun k hk _ => h.block k hk, .inl rfl⟩
theorem KpO.trans {u u' u'' : Value} {w w' w'' : World} (h : KpO u u' w w') (k : KpO u' u'' w' w'') : KpO u u'' w w'' := by
  refine ⟨Nat.le_trans h.size k.size, fun b hb hu => (k.keep b (Nat.lt_of_lt_of_le hb h.size) ?_).trans (h.keep b hb hu), ?_⟩
  · rcases h.own with e | ⟨g, e, hg⟩
    · rw [e]; exact hu
    · rw [e]; intro e2; injection e2 with e2; omega
  · rcases k.own with e | ⟨g, e, hg⟩
    · rw [e]; exact h.own
    · exact .inr ⟨g, e, Nat.le_trans h.size hg⟩
theorem KpO.grown {u u' : Value} {w w' : World} (hg : w.grownBy w' u.ownBlock) (ho : u'.ownBlock = u.ownBlock ∨ u'.ownBlock = some w.heap.size) : KpO u u' w w' :=
  ⟨hg.size, fun k hk hu => hg.block k hk fun e => hu e.symm, ho.imp id fun e => ⟨_, e, Nat.le_refl _⟩⟩
/-- what coarse returns: the row, grown by squares of C, all of them or too many -/
def CgR (W0 : World) (out C : List Sq) (u : Value) (w : World) (e : Ending) (w' : World) : Prop :=
  ∃ p u', e = .returned u' ∧ OwJ W0 31 3 u' (out ++ p).length (cellsOf (out ++ p)) w' ∧ p <+: C ∧ (p = C ∨ 4096 < (out ++ p).length) ∧ (out ++ p).length ≤ 4097 ∧ KpO u u' w w'
theorem cg_step {out p p2 A C : List Sq} (h1 : p <+: A) (h2 : p = A ∨ 4096 < (out ++ p).length) (g1 : p2 <+: C) (g2 : p2 = C ∨ 4096 < (out ++ p ++ p2).length) (g3 : (out ++ p ++ p2).length ≤ 4097) :
    (p ++ p2) <+: (A ++ C) ∧ (p ++ p2 = A ++ C ∨ 4096 < (out ++ (p ++ p2)).length) := by
  rw [← List.append_assoc]
  rcases h2 with rfl | h2
  · exact ⟨(List.prefix_append_right_inj _).2 g1, g2.imp (fun e => by rw [e]) id⟩
  · have : p2 = [] := by
      rw [List.length_append] at g3
      exact List.length_eq_zero_iff.1 (by omega)
    subst this
    refine ⟨by rw [List.append_nil]; exact h1.trans (List.prefix_append _ _), .inr ?_⟩
    simpa using h2
/-- the squares of the first kids -/
def preC (n : Nat) (t : Tr) (s : Sq) (i : Nat) : List Sq := ([cgL n (kidT t 0) (k0 s), cgL n (kidT t 1) (k1 s), cgL n (kidT t 2) (k2 s), cgL n (kidT t 3) (k3 s)].take i).flatten
theorem preC_end {n : Nat} {t : Tr} {s : Sq} (h : t ≠ .leaf false) : preC n t s 4 = cgL (n + 1) t s := by
  conv => rhs; unfold cgL
  rw [if_neg h]; simp [preC]
theorem preC_next {n i : Nat} {t : Tr} {s q : Sq} (hi : i < 4) (hq : (kidsS s)[i]? = some q) : preC n t s (i + 1) = preC n t s i ++ cgL n (kidT t i) q := by
  rw [kids_eq] at hq
  have hc4 : i = 0 ∨ i = 1 ∨ i = 2 ∨ i = 3 := by omega
  rcases hc4 with rfl | rfl | rfl | rfl <;> (simp at hq; subst hq; simp [preC])
set_option maxHeartbeats 1000000 in
theorem kid_is (t : Tr) (v : Value) (i : Nat) (hi : i < 4) (w : World) (P : Nat → Prop) (h : TreeAt w P t v) :
    ∃ u, TreeAt w P (kidT t i) u ∧ Calls Tryz.prog 101 #[v, .int .i64 i] w fun e w' => e = .returned u ∧ w' = w := by
  cases t with
  | leaf b =>
    have HF := h
    obtain ⟨g, rfl, hg, ho⟩ := h
    obtain ⟨c0, c1⟩ := cells_two ho
    refine ⟨_, HF, ?_⟩
    clear HF
    go_enter Tryz.func101, Tryz.ntmps101
    go_wp2_with fail
    go_ret
    exact ⟨rfl, rfl⟩
  | node a b c d =>
    obtain ⟨g, k, cap, va, vb, vc, vd, rfl, hg, ho, hk, ⟨q0, q1, q2, q3⟩, h0, h1, h2, h3⟩ := h
    obtain ⟨c0, c1⟩ := cells_two ho
    have hc : i = 0 ∨ i = 1 ∨ i = 2 ∨ i = 3 := by omega
    rcases hc with rfl | rfl | rfl | rfl
    · refine ⟨va, h0, ?_⟩
      clear h0 h1 h2 h3
      go_enter Tryz.func101, Tryz.ntmps101
      go_wp2_with fail
      go_ret
      exact ⟨rfl, rfl⟩
    · refine ⟨vb, h1, ?_⟩
      clear h0 h1 h2 h3
      go_enter Tryz.func101, Tryz.ntmps101
      go_wp2_with fail
      go_ret
      exact ⟨rfl, rfl⟩
    · refine ⟨vc, h2, ?_⟩
      clear h0 h1 h2 h3
      go_enter Tryz.func101, Tryz.ntmps101
      go_wp2_with fail
      go_ret
      exact ⟨rfl, rfl⟩
    · refine ⟨vd, h3, ?_⟩
      clear h0 h1 h2 h3
      go_enter Tryz.func101, Tryz.ntmps101
      go_wp2_with fail
      go_ret
      exact ⟨rfl, rfl⟩

set_option maxRecDepth 100000 in
set_option maxHeartbeats 8000000 in
theorem coarse_any (L : Int) (hL : 0 ≤ L) : ∀ (n : Nat) (t : Tr) (s : Sq) (v u : Value) (out : List Sq) (W0 w : World), s.l = L + n → s.okB = true → out.length ≤ 4097 → TreeAt w (fun k => k < W0.heap.size) t v → OwJ W0 31 3 u out.length (cellsOf out) w →
    Calls Tryz.prog 67 #[v, .agg #[.int .i64 s.l, .int .i64 s.x, .int .i64 s.y], .int .i64 L, u] w (CgR W0 out (cgL n t s) u w) := fun n => by
  induction n with
  | zero =>
    intro t s v u out W0 w hl hs hn ht hO
    have HLv := Lib.hid hl
    clear hl
    have HT := Lib.hid ht
    have HO := Lib.hid hO
    obtain ⟨A, c, rfl, hlc, hcm, _⟩ := row_slice hO.own
    have HN := Lib.hid (none_any t v _ (fun k => k < W0.heap.size) (ht.step (below_new (.cells #[.int .i64 s.l, .int .i64 s.x, .int .i64 s.y] 31))))
    obtain ⟨gt, rfl, _, _⟩ := ht.flag
    clear ht hO hlc hcm
    by_cases htn : t = .leaf false
    · rw [decide_eq_true htn] at HN
      have HC := Lib.hid (show cgL 0 t s = [] by unfold cgL; rw [if_pos htn])
      clear htn
      generalize cgL 0 t s = C at *
      go_enter Tryz.func67, Tryz.ntmps67
      go_wp2_with fail
      refine HN.out.mono ?_
      rintro e w1 ⟨rfl, rfl⟩
      go_wp2_with fail
      go_ret
      exact ⟨[], _, rfl, by simpa using HO.out.step (below_new _), List.nil_prefix, .inl HC.out.symm, by simpa using hn, KpO.of_below (below_new _)⟩
    · rw [decide_eq_false htn] at HN
      have HC := Lib.hid (show cgL 0 t s = [s] by unfold cgL; rw [if_neg htn])
      clear htn
      generalize cgL 0 t s = C at *
      by_cases hbig : (4096 : Int) < (out.length : Int)
      · go_enter Tryz.func67, Tryz.ntmps67
        go_wp2_with fail
        refine HN.out.mono ?_
        rintro e w1 ⟨rfl, rfl⟩
        go_wp2_with fail
        go_ret
        exact ⟨[], _, rfl, by simpa using HO.out.step (below_new _), List.nil_prefix, .inr (by simp; omega), by simpa using hn, KpO.of_below (below_new _)⟩
      · have hsl : s.l = L := by have := HLv.out; omega
        obtain ⟨i0, hi0, hz0, hz1, hz2⟩ := info_parts infoSq
        have HZ := Lib.hid (show i0.size = 3 ∧ i0.bytes = 24 ∧ Tryz.prog.info? 31 = some i0 ∧ i0.zero = some (.agg #[.int .i64 0, .int .i64 0, .int .i64 0]) from ⟨hz1, hz2, hi0, hz0⟩)
        clear hz0 hz1 hz2 hi0 HLv
        obtain ⟨l, x, y⟩ := s
        dsimp only at *
        subst hsl
        have HO2 := Lib.hid (HO.out.step (below_new (.cells #[.int .i64 l, .int .i64 x, .int .i64 y] 31)))
        go_enter Tryz.func67, Tryz.ntmps67
        go_wp2_with fail
        refine HN.out.mono ?_
        rintro e w1 ⟨rfl, rfl⟩
        obtain ⟨c0, c1, c2⟩ := sq_cells (s := ⟨l, x, y⟩) (World.alloc_heap_new w (.cells #[.int .i64 l, .int .i64 x, .int .i64 y] 31))
        obtain ⟨W, hW⟩ : ∃ W, w.alloc (.cells #[.int .i64 l, .int .i64 x, .int .i64 y] 31) = W := ⟨_, rfl⟩
        rw [hW] at HO2 c0 c1 c2 ⊢
        have HWb := Lib.hid (show Below w.heap.size w W by rw [← hW]; exact below_new _)
        clear hW
        have HO3 := Lib.hid ((HO2.out.own).alloc (.cells #[.int .i64 l, .int .i64 x, .int .i64 y] 31))
        have HNw := Lib.hid (news1 W ⟨l, x, y⟩)
        have HBs := Lib.hid (show W0.heap.size ≤ (W.alloc (.cells #[.int .i64 l, .int .i64 x, .int .i64 y] 31)).heap.size from by have := HO2.out.bound; simp; omega)
        go_wp2_with (at_builtin; refine wpList_append_own_at _ rfl _ _ 22 rfl W0.heap.size 31 i0 (.agg #[.int .i64 0, .int .i64 0, .int .i64 0]) 3 24 Tryz.underlying22 HZ.out.2.2.1 HZ.out.2.2.2 HZ.out.1 HZ.out.2.1 rfl (by decide) (.slice A out.length c) out.length (cellsOf out) rfl HO3.out ⟨W.heap.size, 0, none⟩ 1 1 [.int .i64 l, .int .i64 x, .int .i64 y] rfl rfl HNw.out.1 HNw.out.2 (by unfold maxLen; omega) (by omega) HBs.out ?_; intro v4 w4 hown4 hg4 hnn4 hob4)
        have HF := Lib.hid (show OwJ W0 31 3 v4 (out ++ [(⟨l, x, y⟩ : Sq)]).length (cellsOf (out ++ [(⟨l, x, y⟩ : Sq)])) w4 ∧ KpO (.slice A out.length c) v4 w w4 from by
          refine ⟨?_, (KpO.of_below (HWb.out.trans ((below_new _).mono HWb.out.size))).trans (KpO.grown hg4 hob4)⟩
          have h := HO2.out.grown (below_new _) hg4 hown4
          rw [List.length_append, cells_snoc]; exact h)
        clear hown4 hg4 hnn4 hob4
        go_wp2_with fail
        go_ret
        exact ⟨[⟨l, x, y⟩], _, rfl, HF.out.1, by rw [HC.out]; exact List.prefix_refl _, .inl HC.out.symm, by simp; omega, HF.out.2⟩
  | succ n ih =>
    intro t s v u out W0 w hl hs hn ht hO
    have HLv := Lib.hid hl
    clear hl
    have HT := Lib.hid ht
    have HO := Lib.hid hO
    have HI := Lib.hid ih
    obtain ⟨A, c, rfl, hlc, hcm, _⟩ := row_slice hO.own
    have HN := Lib.hid (none_any t v _ (fun k => k < W0.heap.size) (ht.step (below_new (.cells #[.int .i64 s.l, .int .i64 s.x, .int .i64 s.y] 31))))
    obtain ⟨gt, rfl, _, _⟩ := ht.flag
    clear ht hO hlc hcm ih
    by_cases htn : t = .leaf false
    · rw [decide_eq_true htn] at HN
      have HC := Lib.hid (show cgL (n + 1) t s = [] by unfold cgL; rw [if_pos htn])
      clear htn
      generalize cgL (n + 1) t s = C at *
      go_enter Tryz.func67, Tryz.ntmps67
      go_wp2_with fail
      refine HN.out.mono ?_
      rintro e w1 ⟨rfl, rfl⟩
      go_wp2_with fail
      go_ret
      exact ⟨[], _, rfl, by simpa using HO.out.step (below_new _), List.nil_prefix, .inl HC.out.symm, by simpa using hn, KpO.of_below (below_new _)⟩
    · rw [decide_eq_false htn] at HN
      have HC := Lib.hid (preC_end (n := n) (s := s) htn)
      clear htn
      generalize cgL (n + 1) t s = C at *
      by_cases hbig : (4096 : Int) < (out.length : Int)
      · go_enter Tryz.func67, Tryz.ntmps67
        go_wp2_with fail
        refine HN.out.mono ?_
        rintro e w1 ⟨rfl, rfl⟩
        go_wp2_with fail
        go_ret
        exact ⟨[], _, rfl, by simpa using HO.out.step (below_new _), List.nil_prefix, .inr (by simp; omega), by simpa using hn, KpO.of_below (below_new _)⟩
      · have HKl := Lib.hid (show ∀ q ∈ kidsS s, q.l = L + (n : Int) ∧ q.okB = true from fun q hq => ⟨by have := (mem_kids.1 hq).1; have := HLv.out; omega, kid_ok hs hq (by have := HLv.out; omega)⟩)
        have HS := Lib.hid hs
        have HLen := Lib.hid hn
        have hne : ¬ s.l = L := by have := HLv.out; omega
        have HX := Lib.hid (show Below w.heap.size w (w.alloc (.cells #[.int .i64 s.l, .int .i64 s.x, .int .i64 s.y] 31)) from below_new _)
        clear hs hn HLv
        go_enter Tryz.func67, Tryz.ntmps67
        go_wp2_with fail
        refine HN.out.mono ?_
        rintro e w1 ⟨rfl, rfl⟩
        go_wp2_with fail
        refine (rkids_new s _ HS.out).mono ?_
        rintro e W ⟨⟨cv, rfl, hk⟩, hb⟩
        obtain ⟨gc, cc, rfl, hc1, hc2, hsq⟩ := hk.slice
        rw [show (kidsS s).length = 4 from rfl]
        have HR := Lib.hid (HX.out.trans (hb.mono HX.out.size))
        have HCs := Lib.hid (show w.heap.size ≤ gc ∧ gc < W.heap.size ∧ SqA W W.heap.size (some ⟨gc, 0, none⟩) (kidsS s) from ⟨Nat.le_trans HX.out.size hc1, hc2, hsq⟩)
        have HOff := Lib.hid (show (Value.slice A out.length c).ownBlock ≠ some gc from fun e => by
          have h1 := (HO.out.own.lt _ e).2
          have h2 := Nat.le_trans HX.out.size hc1
          omega)
        clear hb hk hc1 hc2 hsq
        go_wp2_with fail
        go_loopw [3, 10] (fun o k wr => ∃ (i : Nat) (p : List Sq) (u' : Value), k = .int .i64 (i : Int) ∧ i ≤ 4 ∧ o = u' ∧ OwJ W0 31 3 u' (out ++ p).length (cellsOf (out ++ p)) wr ∧ p <+: preC n t s i ∧ (p = preC n t s i ∨ 4096 < (out ++ p).length) ∧ (out ++ p).length ≤ 4097 ∧ KpO (.slice A out.length c) u' W wr) (fun _ k _ => 4 - (intOf k).toNat)
        case atStart => exact ⟨0, [], _, rfl, by omega, rfl, by simpa using HO.out.step HR.out, by simp [preC], .inl (by simp [preC]), by simpa using HLen.out, KpO.of_below (Below.refl _ _)⟩
        case round =>
          obtain ⟨i, p, u', rfl, hi4, rfl, h1, h2, h3, h4, h5⟩ := hrel
          have HE := Lib.hid (And.intro h1 (And.intro h2 (And.intro h3 (And.intro h4 h5))))
          clear h1 h2 h3 h4 h5
          by_cases hlt : i < 4
          · have hsC : wr.heap[gc]? = W.heap[gc]? := HE.out.2.2.2.2.keep gc HCs.out.2.1 HOff.out
            have hq := List.getElem?_eq_getElem (l := kidsS s) (i := i) (by rw [kids_eq]; simpa using hlt)
            obtain ⟨q, hqe⟩ : ∃ q, (kidsS s)[i]? = some q := ⟨_, hq⟩
            clear hq
            have HQ := Lib.hid (HKl.out q (List.mem_of_getElem? hqe))
            obtain ⟨a1, e1, _, g1, g2, g3⟩ := HCs.out.2.2 i q hqe
            injection e1 with e1
            subst e1
            have hca : ∀ j u, W.cell? ⟨gc, j, none⟩ = some u → wr.cell? ⟨gc, j, none⟩ = some u := fun j u h => (World.cell?_of_block (a := ⟨gc, j, none⟩) hsC).trans h
            have ea : (⟨gc, 0, none⟩ : Addr).add (i * 3) = ⟨gc, i * 3, none⟩ := by
              unfold Addr.add
              split
              · rename_i h; rw [h]
              · simp
            rw [ea] at g1 g2 g3
            have q0 := hca _ _ g1
            have q1 := hca _ _ g2
            have q2 := hca _ _ g3
            clear g1 g2 g3 ea
            have HTw := Lib.hid (show TreeAt wr.drew (fun k => k < W0.heap.size) t (.pointer (some ⟨gt, 0, none⟩)) from ((HT.out.step HR.out).keep HE.out.2.2.2.2.size (fun k hk hp => HE.out.2.2.2.2.keep k hk fun e => by
              have h1 := (HO.out.own.lt _ e).1
              omega)).step (Below.refl _ _).drew)
            obtain ⟨uk, htk, hck⟩ := kid_is t (.pointer (some ⟨gt, 0, none⟩)) i hlt wr.drew (fun k => k < W0.heap.size) HTw.out
            have HKi := Lib.hid hck
            have HP := Lib.hid (preC_next (n := n) (t := t) hlt hqe)
            have HCall := Lib.hid (HI.out (kidT t i) q uk u3 (out ++ p) W0 wr.drew HQ.out.1 HQ.out.2 HE.out.2.2.2.1 htk (HE.out.1.step (Below.refl _ _).drew))
            clear htk hck hqe hca hsC
            go_wp2_with fail
            refine wp_region_tail 9 (by kernel_rfl) (by kernel_rfl) ?_
            simp only [List.take_succ_cons, List.take_zero, List.drop_succ_cons, List.drop_zero]
            repeat (first | still_step | still_call HKi.out)
            refine wpStill_nil ?_
            go_wp2_with fail
            refine HCall.out.mono ?_
            rintro e Y ⟨p2, u2, rfl, k1, k2, k3, k4, k5⟩
            have HF2 := Lib.hid (show OwJ W0 31 3 u2 (out ++ (p ++ p2)).length (cellsOf (out ++ (p ++ p2))) Y ∧ (p ++ p2) <+: preC n t s (i + 1) ∧ (p ++ p2 = preC n t s (i + 1) ∨ 4096 < (out ++ (p ++ p2)).length) ∧ (out ++ (p ++ p2)).length ≤ 4097 ∧ KpO (.slice A out.length c) u2 W Y from by
              obtain ⟨c1, c2⟩ := cg_step HE.out.2.1 HE.out.2.2.1 k2 k3 k4
              rw [HP.out]
              refine ⟨by rw [← List.append_assoc]; exact k1, c1, c2, by rw [← List.append_assoc]; exact k4, HE.out.2.2.2.2.trans ((KpO.of_below (Below.refl _ _).drew).trans k5)⟩)
            clear k1 k2 k3 k4 k5 q0 q1 q2
            go_wp2_with fail
            go_roundw
            case rel => exact ⟨i + 1, p ++ p2, u2, by go_num, by omega, rfl, HF2.out⟩
            case measure => simp [intOf]; omega
          · obtain rfl : i = 4 := by omega
            have HF := Lib.hid (show p <+: C ∧ (p = C ∨ 4096 < (out ++ p).length) from by rw [← HC.out]; exact ⟨HE.out.2.1, HE.out.2.2.1⟩)
            have HKf := Lib.hid ((KpO.of_below (u := .slice A out.length c) HR.out).trans HE.out.2.2.2.2)
            go_wp2_with fail
            go_ret
            exact ⟨p, _, rfl, HE.out.1, HF.out.1, HF.out.2, HE.out.2.2.2.1, HKf.out⟩

/-- what Coarse returns, by squares of a tree -/
def CoD (l R : List Sq) (L er : Int) : Prop :=
  (regB l = false ∧ R = [] ∧ er = 11) ∨ (regB l = true ∧ ¬ (0 ≤ L ∧ L ≤ 10) ∧ R = [] ∧ er = 1) ∨
    (regB l = true ∧ 0 ≤ L ∧ L ≤ 10 ∧ ((4096 < (cgL (10 - L).toNat (growS l) wholeS).length ∧ R = [] ∧ er = 2) ∨ ((cgL (10 - L).toNat (growS l) wholeS).length ≤ 4096 ∧ R = sortS (cgL (10 - L).toNat (growS l) wholeS) ∧ er = 0)))
theorem co_data (l : List Sq) (L : Int) : ∃ R er, coarseOut l L = (R, er) ∧ CoD l R L er ∧ R.length ≤ 4096 := by
  unfold coarseOut
  cases h1 : regB l
  · exact ⟨[], 11, rfl, .inl ⟨h1, rfl, rfl⟩, by simp⟩
  · by_cases h2 : 0 ≤ L ∧ L ≤ 10
    · obtain ⟨e1, e2⟩ := cg_spec (regB_iff.1 h1).2.1.ok h2.1 h2.2
      by_cases h3 : 4096 < (coarseC l L).length
      · exact ⟨[], 2, by rw [if_pos rfl, if_pos h2, if_pos h3], .inr (.inr ⟨h1, h2.1, h2.2, .inl ⟨by omega, rfl, rfl⟩⟩), by simp⟩
      · refine ⟨regionS (coarseC l L), 0, by rw [if_pos rfl, if_pos h2, if_neg h3], .inr (.inr ⟨h1, h2.1, h2.2, .inr ⟨by omega, e2.symm, rfl⟩⟩), ?_⟩
        rw [← e2, sort_len]; omega
    · exact ⟨[], 1, by rw [if_pos rfl, if_neg h2], .inr (.inl ⟨h1, h2, rfl, rfl⟩), by simp⟩
set_option maxRecDepth 100000 in
set_option maxHeartbeats 8000000 in
theorem rCoarse_any (v : Value) (l R : List Sq) (L er : Int) (w : World) (hv : SqSl w w.heap.size v l) (hn : l.length ≤ 100000) (h : CoD l R L er) :
    Calls Tryz.prog 26 #[v, .int .i64 L] w (OutS R er w) := by
  have HV := Lib.hid hv
  have HN := Lib.hid hn
  have HA := Lib.hid (rValidRegion_any v l w hv hn)
  obtain ⟨A, ca, rfl⟩ := sl_formJ hv
  clear hv hn
  rcases h with ⟨h1, rfl, rfl⟩ | ⟨h1, h2, rfl, rfl⟩ | ⟨h1, h2, h3, h4⟩
  · rw [h1] at HA
    clear h1
    go_enter Tryz.func26, Tryz.ntmps26
    go_wp2_with fail
    refine HA.out.mono ?_
    rintro e w1 ⟨rfl, hb⟩
    go_wp2_with fail
    go_ret2
    exact OutS.nil hb
  · rw [h1] at HA
    have HW := Lib.hid (fun w => rwithin_any L 0 10 w)
    rw [show (decide ((0:Int) ≤ L) && decide (L ≤ 10)) = false from by
      rw [Bool.and_eq_false_iff, decide_eq_false_iff_not, decide_eq_false_iff_not]; omega] at HW
    clear h1 h2
    go_enter Tryz.func26, Tryz.ntmps26
    go_wp2_with fail
    refine HA.out.mono ?_
    rintro e w1 ⟨rfl, hb⟩
    have HB1 := Lib.hid hb
    clear hb
    go_wp2_with fail
    refine (HW.out _).mono ?_
    rintro e w2 ⟨rfl, rfl⟩
    go_wp2_with fail
    go_ret2
    exact OutS.nil HB1.out
  · rw [h1] at HA
    have HW := Lib.hid (fun w => rwithin_any L 0 10 w)
    rw [show (decide ((0:Int) ≤ L) && decide (L ≤ 10)) = true from by
      rw [Bool.and_eq_true, decide_eq_true_eq, decide_eq_true_eq]; exact ⟨h2, h3⟩] at HW
    have HO := Lib.hid (regB_iff.1 h1).2.1.ok
    have HL := Lib.hid (And.intro h2 (And.intro h3 h4))
    clear h1 h2 h3 h4
    go_enter Tryz.func26, Tryz.ntmps26
    go_wp2_with fail
    refine HA.out.mono ?_
    rintro e w1 ⟨rfl, hb⟩
    have HB1 := Lib.hid hb
    clear hb
    go_wp2_with fail
    refine (HW.out _).mono ?_
    rintro e w2 ⟨rfl, rfl⟩
    go_wp2_with fail
    refine (grow_any _ l w1 HO.out HN.out ((HV.out.below HB1.out).mono HB1.out.size)).mono ?_
    rintro e w3 ⟨⟨u, rfl, hu⟩, hb⟩
    have HB3 := Lib.hid (HB1.out.trans (hb.mono HB1.out.size))
    have HT := Lib.hid hu
    obtain ⟨gt, rfl, _, _⟩ := hu.flag
    clear hb hu
    go_wp2_with fail
    refine (whole_any _).mono ?_
    rintro e w4 ⟨rfl, hb⟩
    have HB4 := Lib.hid (HB3.out.trans (hb.mono HB3.out.size))
    have HT4 := Lib.hid (show TreeAt w4 (fun k => k < w4.heap.size) (growS l) (.pointer (some ⟨gt, 0, none⟩)) from (HT.out.step hb).imp fun k hk _ => hk)
    have HCo := Lib.hid (coarse_any L HL.out.1 (10 - L).toNat (growS l) wholeS (.pointer (some ⟨gt, 0, none⟩)) (.slice none 0 0) [] w4 w4 (by have := HL.out; show (10 : Int) = _; omega) whole_ok (by simp) HT4.out (OwJ.start _ _ _))
    clear hb
    unfold sqv wholeS at *
    go_wp2_with fail
    refine HCo.out.mono ?_
    rintro e w5 ⟨p, u, rfl, k1, k2, k3, k4, _⟩
    rw [List.nil_append] at k1 k3 k4
    have HB5 := Lib.hid (HB4.out.trans (k1.bel.mono HB4.out.size))
    obtain ⟨A5, c5, rfl, g1, g2, g3⟩ := row_slice k1.own
    have hL4 := HL.out.2.2
    generalize cgL (10 - L).toNat (growS l) ⟨10, 0, 0⟩ = C at *
    have hp := k2.length_le
    have HS5 := Lib.hid (And.intro g1 (And.intro g2 g3))
    clear k1 g1 g2 g3
    by_cases hbig : (4096 : Int) < (p.length : Int)
    · rcases hL4 with ⟨_, rfl, rfl⟩ | ⟨h5, _, _⟩
      · clear k2 k3 k4 hp
        go_wp2_with fail
        go_ret2
        exact OutS.nil HB5.out
      · omega
    · obtain rfl : p = C := k3.elim id fun h => absurd h (by omega)
      rcases hL4 with ⟨h5, _, _⟩ | ⟨_, rfl, rfl⟩
      · omega
      · have HSo := Lib.hid (rSorted_any p.length p A5 c5 w5 (Nat.le_refl _) HS5.out.1 (by omega) HS5.out.2.1 HS5.out.2.2)
        clear k2 k3 k4 hp
        go_wp2_with fail
        refine HSo.out.mono ?_
        rintro e w6 ⟨⟨u, rfl, hu⟩, hb⟩
        have HU := Lib.hid (And.intro hu (HB5.out.trans (hb.mono HB5.out.size)))
        obtain ⟨A6, c6, rfl⟩ := sl_formJ hu
        clear hu hb
        go_wp2_with fail
        go_ret2
        exact OutS.mk HU.out.1 HU.out.2
end Go.Proofs.YtabolonlkocopaaGreatDoor

/- The reference's Area, Has, Meets. -/
namespace Go.Proofs.YtabolonlkocopaaGreatDoor
open Go.RowKit Go.Plc

set_option maxHeartbeats 2000000 in
theorem rasked_any (v : Value) (L : List Sq) (s : Sq) (w : World) (hv : SqSl w w.heap.size v L) (hn : L.length ≤ 100000) :
    Calls Tryz.prog 62 #[v, .agg #[.int .i64 s.l, .int .i64 s.x, .int .i64 s.y]] w fun e w' => e = .returned (.int .i64 (askOut L s true).2) ∧ Below w.heap.size w w' := by
  have HR := Lib.hid (rValidRegion_any v L _ (((hv.below (below_new (.cells #[.int .i64 s.l, .int .i64 s.x, .int .i64 s.y] 31)))).mono (below_new (.cells #[.int .i64 s.l, .int .i64 s.x, .int .i64 s.y] 31)).size) hn)
  have HV := Lib.hid (fun w => rValidSquare_any s.l s.x s.y w)
  rw [show Sq.mk s.l s.x s.y = s from rfl] at HV
  have HO := Lib.hid (show askOut L s true = if regB L then (if s.okB then (true, 0) else (false, 10)) else (false, 11) from rfl)
  clear hv
  cases hr : regB L
  · rw [hr] at HR HO
    clear hr
    go_enter Tryz.func62, Tryz.ntmps62
    go_wp2_with fail
    refine HR.out.mono ?_
    rintro e w1 ⟨rfl, hb1⟩
    have HB := Lib.hid (show Below w.heap.size w w1 from (below_new _).trans (hb1.mono (by simp)))
    clear hb1
    go_wp2_with fail
    go_ret
    exact ⟨ret_i (by rw [HO.out]; rfl), HB.out⟩
  · rw [hr] at HR HO
    clear hr
    cases hs : s.okB
    all_goals
      rw [hs] at HV HO
      clear hs
      go_enter Tryz.func62, Tryz.ntmps62
      go_wp2_with fail
      refine HR.out.mono ?_
      rintro e w1 ⟨rfl, hb1⟩
      have HB := Lib.hid (show Below w.heap.size w w1 from (below_new _).trans (hb1.mono (by simp)))
      obtain ⟨c0, c1, c2⟩ := sq_cells (s := s) ((hb1.block w.heap.size (by simp)).trans (World.alloc_heap_new w _))
      clear hb1
      go_wp2_with fail
      refine (HV.out _).mono ?_
      rintro e w2 ⟨rfl, hb2⟩
      have HB2 := Lib.hid (HB.out.trans (hb2.mono HB.out.size))
      clear hb2 c0 c1 c2
      go_wp2_with fail
      go_ret
      exact ⟨ret_i (by rw [HO.out]; rfl), HB2.out⟩

theorem any_nextB {P : Sq → Bool} {L : List Sq} {i : Nat} {q : Sq} (h : L[i]? = some q) : (L.take (i + 1)).any P = ((L.take i).any P || P q) := by
  obtain ⟨hi, rfl⟩ := List.getElem?_eq_some_iff.1 h
  rw [List.take_succ_eq_append_getElem hi, List.any_append]; simp
theorem ask_cases (L : List Sq) (s : Sq) (b : Bool) : (regB L = true ∧ s.okB = true ∧ askOut L s b = (b, 0) ∧ (askOut L s true).2 = 0) ∨ ∃ er : Int, askOut L s b = (false, er) ∧ (askOut L s true).2 = er ∧ (er != 0) = true := by
  unfold askOut
  cases hr : regB L
  · exact .inr ⟨11, rfl, rfl, rfl⟩
  · cases hs : s.okB
    · exact .inr ⟨10, rfl, rfl, rfl⟩
    · exact .inl ⟨rfl, rfl, rfl, rfl⟩

set_option maxRecDepth 100000 in
set_option maxHeartbeats 4000000 in
theorem rHas_any (v : Value) (L : List Sq) (s : Sq) (b : Bool) (er : Int) (w : World) (hv : SqSl w w.heap.size v L) (hn : L.length ≤ 100000) (h : askOut L s (hasS L s) = (b, er)) :
    Calls Tryz.prog 22 #[v, .agg #[.int .i64 s.l, .int .i64 s.x, .int .i64 s.y]] w fun e w' => e = .returned (.tuple #[.bool b, .int .i64 er]) ∧ Below w.heap.size w w' := by
  have hb0 := below_new (w := w) (.cells #[.int .i64 s.l, .int .i64 s.x, .int .i64 s.y] 31)
  have HA := Lib.hid (rasked_any v L s _ ((hv.below hb0).mono hb0.size) hn)
  have HV := Lib.hid hv
  obtain ⟨A, c, rfl⟩ := sl_formJ hv
  clear hv hb0
  rcases ask_cases L s (hasS L s) with ⟨h1, h2, h3, h4⟩ | ⟨er', h3, h4, h5⟩
  · rw [h3] at h
    rw [h4] at HA
    injection h with e1 e2
    subst e2
    have HB := Lib.hid e1
    have HOk := Lib.hid (And.intro (reg_ok h1).2 h2)
    clear e1 h1 h2 h3 h4
    generalize hnn : L.length = n at *
    have HN := Lib.hid hnn
    clear hnn
    go_enter Tryz.func22, Tryz.ntmps22
    go_wp2_with fail
    refine HA.out.mono ?_
    rintro e W0 ⟨rfl, hb⟩
    have K0 := Lib.hid (KB.slice (KB.step (KB.new (⟨Below.refl _ _, fun _ hp => absurd hp (List.not_mem_nil), fun _ hq => absurd hq (List.not_mem_nil)⟩ : KB w [] [] w) (.cells #[.int .i64 s.l, .int .i64 s.x, .int .i64 s.y] 31)) hb) ((HV.out.step ((below_new _).trans (hb.mono (by simp))))))
    clear hb
    generalize hg0 : w.heap.size = g0 at *
    have HG0 := Lib.hid hg0
    clear hg0
    go_wp2_with fail
    go_loopw [7] (fun k wr => ∃ i : Nat, k = .int .i64 (i : Int) ∧ i ≤ n ∧ (L.take i).any (fun q => withinS s q) = false ∧ Below W0.heap.size W0 wr) (fun k _ => n - (intOf k).toNat)
    case atStart => exact ⟨0, rfl, by omega, rfl, Below.refl _ _⟩
    case round =>
      obtain ⟨i, rfl, hin, hno, hbl⟩ := hrel
      have HNo := Lib.hid hno
      have HBl := Lib.hid hbl
      clear hno hbl
      have KI := Lib.hid (K0.out.step HBl.out)
      by_cases hlt : i < n
      · obtain ⟨q, ad, hq, hqm, rfl, hbd, d1, d2, d3⟩ := sl_atJ (KI.out.sl (.slice A n c, L) List.mem_cons_self) hlt
        obtain ⟨a0, a1, a2⟩ := sq_cells (s := s) (KI.out.mem (g0, _) List.mem_cons_self)
        have ss := fun z => (⟨⟨Wb.cell d1 z, Wb.cell d2 z, Wb.cell d3 z⟩, ⟨Wb.cell a0 z, Wb.cell a1 z, Wb.cell a2 z⟩⟩ : (_ ∧ _ ∧ _) ∧ (_ ∧ _ ∧ _))
        have HI1 := Lib.hid (fun w => rInside_any s q w HOk.out.2 (HOk.out.1 q hqm))
        unfold sqv at HI1
        obtain ⟨b1, hb1e⟩ : ∃ b, withinS s q = b := ⟨_, rfl⟩
        rw [hb1e] at HI1
        have HQ := Lib.hid (show (L.take (i + 1)).any (fun q => withinS s q) = b1 ∧ (b1 = true → b = true) from
          ⟨by rw [any_nextB hq, HNo.out, hb1e]; rfl, fun h => by rw [← HB.out]; exact List.any_eq_true.2 ⟨q, hqm, hb1e.trans h⟩⟩)
        clear hq hqm hb1e
        cases b1
        · go_wp2_with fail
          refine wp_region_wb (by kernel_rfl) (by kernel_rfl) ?_; (repeat ((with_reducible refine wpQuiet_step ?_); intro K hK; go_simp; (try (refine ite_neg_of (by simp [undef]) ?_)); first | (with_reducible refine hK _ ?_; clear hK K) | (apply Exists.intro; (with_reducible refine ⟨fun _ => ?_, hK _ ?_⟩); ((go_at_call 63; exact Calls.wb (HI1.out _))); clear hK K))); (with_reducible refine wpQuiet_nil ?_); rintro w1 ⟨⟨_, hb1⟩, rfl⟩; (try dsimp only)
          have HB2 := Lib.hid (HBl.out.trans (hb1.mono HBl.out.size))
          clear hb1 ss a0 a1 a2 d1 d2 d3 hbd
          go_wp2_with fail
          go_roundw
          case rel => exact ⟨i + 1, by go_num, by omega, HQ.out.1, HB2.out⟩
          case measure => simp [intOf]; omega
        · have HT := Lib.hid (HQ.out.2 (by first | trivial | rfl | simp))
          go_wp2_with fail
          refine wp_region_wb (by kernel_rfl) (by kernel_rfl) ?_; (repeat ((with_reducible refine wpQuiet_step ?_); intro K hK; go_simp; (try (refine ite_neg_of (by simp [undef]) ?_)); first | (with_reducible refine hK _ ?_; clear hK K) | (apply Exists.intro; (with_reducible refine ⟨fun _ => ?_, hK _ ?_⟩); ((go_at_call 63; exact Calls.wb (HI1.out _))); clear hK K))); (with_reducible refine wpQuiet_nil ?_); rintro w1 ⟨⟨_, hb1⟩, rfl⟩; (try dsimp only)
          have HB2 := Lib.hid ((KI.out.step hb1).bel)
          clear hb1 ss a0 a1 a2 d1 d2 d3 hbd
          go_wp2_with fail
          go_ret2
          exact ⟨by rw [HT.out]; rfl, by first | exact HB2.out | (rw [← HG0.out]; exact HB2.out)⟩
      · have HF := Lib.hid (show b = false from by
          have hfull : L.take i = L := List.take_of_length_le (by have := HN.out; omega)
          rw [← HB.out, ← HNo.out, hfull]; rfl)
        go_wp2_with fail
        go_ret2
        exact ⟨by rw [HF.out]; rfl, by first | exact KI.out.bel | (rw [← HG0.out]; exact KI.out.bel)⟩
  · rw [h3] at h
    rw [h4] at HA
    injection h with e1 e2
    subst e1; subst e2
    clear h3 h4
    go_enter Tryz.func22, Tryz.ntmps22
    go_wp2_with fail
    refine HA.out.mono ?_
    rintro e w1 ⟨rfl, hb1⟩
    have HB := Lib.hid (show Below w.heap.size w w1 from (below_new _).trans (hb1.mono (by simp)))
    clear hb1
    go_wp2_with fail
    go_ret2
    exact ⟨rfl, HB.out⟩

set_option maxRecDepth 100000 in
set_option maxHeartbeats 4000000 in
theorem rMeets_any (v : Value) (L : List Sq) (s : Sq) (b : Bool) (er : Int) (w : World) (hv : SqSl w w.heap.size v L) (hn : L.length ≤ 100000) (h : askOut L s (meetsS L s) = (b, er)) :
    Calls Tryz.prog 24 #[v, .agg #[.int .i64 s.l, .int .i64 s.x, .int .i64 s.y]] w fun e w' => e = .returned (.tuple #[.bool b, .int .i64 er]) ∧ Below w.heap.size w w' := by
  have hb0 := below_new (w := w) (.cells #[.int .i64 s.l, .int .i64 s.x, .int .i64 s.y] 31)
  have HA := Lib.hid (rasked_any v L s _ ((hv.below hb0).mono hb0.size) hn)
  have HV := Lib.hid hv
  obtain ⟨A, c, rfl⟩ := sl_formJ hv
  clear hv hb0
  rcases ask_cases L s (meetsS L s) with ⟨h1, h2, h3, h4⟩ | ⟨er', h3, h4, h5⟩
  · rw [h3] at h
    rw [h4] at HA
    injection h with e1 e2
    subst e2
    have HB := Lib.hid e1
    have HOk := Lib.hid (And.intro (reg_ok h1).2 h2)
    clear e1 h1 h2 h3 h4
    generalize hnn : L.length = n at *
    have HN := Lib.hid hnn
    clear hnn
    go_enter Tryz.func24, Tryz.ntmps24
    go_wp2_with fail
    refine HA.out.mono ?_
    rintro e W0 ⟨rfl, hb⟩
    have K0 := Lib.hid (KB.slice (KB.step (KB.new (⟨Below.refl _ _, fun _ hp => absurd hp (List.not_mem_nil), fun _ hq => absurd hq (List.not_mem_nil)⟩ : KB w [] [] w) (.cells #[.int .i64 s.l, .int .i64 s.x, .int .i64 s.y] 31)) hb) ((HV.out.step ((below_new _).trans (hb.mono (by simp))))))
    clear hb
    generalize hg0 : w.heap.size = g0 at *
    have HG0 := Lib.hid hg0
    clear hg0
    go_wp2_with fail
    go_loopw [7] (fun k wr => ∃ i : Nat, k = .int .i64 (i : Int) ∧ i ≤ n ∧ (L.take i).any (fun q => withinS s q || withinS q s) = false ∧ Below W0.heap.size W0 wr) (fun k _ => n - (intOf k).toNat)
    case atStart => exact ⟨0, rfl, by omega, rfl, Below.refl _ _⟩
    case round =>
      obtain ⟨i, rfl, hin, hno, hbl⟩ := hrel
      have HNo := Lib.hid hno
      have HBl := Lib.hid hbl
      clear hno hbl
      have KI := Lib.hid (K0.out.step HBl.out)
      by_cases hlt : i < n
      · obtain ⟨q, ad, hq, hqm, rfl, hbd, d1, d2, d3⟩ := sl_atJ (KI.out.sl (.slice A n c, L) List.mem_cons_self) hlt
        obtain ⟨a0, a1, a2⟩ := sq_cells (s := s) (KI.out.mem (g0, _) List.mem_cons_self)
        have ss := fun z => (⟨⟨Wb.cell d1 z, Wb.cell d2 z, Wb.cell d3 z⟩, ⟨Wb.cell a0 z, Wb.cell a1 z, Wb.cell a2 z⟩⟩ : (_ ∧ _ ∧ _) ∧ (_ ∧ _ ∧ _))
        have HI1 := Lib.hid (fun w => rInside_any s q w HOk.out.2 (HOk.out.1 q hqm))
        have HI2 := Lib.hid (fun w => rInside_any q s w (HOk.out.1 q hqm) HOk.out.2)
        unfold sqv at HI1 HI2
        obtain ⟨b1, hb1e⟩ : ∃ b, withinS s q = b := ⟨_, rfl⟩
        obtain ⟨b2, hb2e⟩ : ∃ b, withinS q s = b := ⟨_, rfl⟩
        rw [hb1e] at HI1
        rw [hb2e] at HI2
        have HQ := Lib.hid (show (L.take (i + 1)).any (fun q => withinS s q || withinS q s) = (b1 || b2) ∧ ((b1 || b2) = true → b = true) from
          ⟨by rw [any_nextB hq, HNo.out, hb1e, hb2e]; rfl, fun h => by rw [← HB.out]; exact List.any_eq_true.2 ⟨q, hqm, by rw [hb1e, hb2e]; exact h⟩⟩)
        clear hq hqm hb1e hb2e
        cases b1
        · cases b2
          · go_wp2_with fail
            refine wp_region_wb (by kernel_rfl) (by kernel_rfl) ?_; (repeat ((with_reducible refine wpQuiet_step ?_); intro K hK; go_simp; (try (refine ite_neg_of (by simp [undef]) ?_)); first | (with_reducible refine hK _ ?_; clear hK K) | (apply Exists.intro; (with_reducible refine ⟨fun _ => ?_, hK _ ?_⟩); (first | (go_at_call 63; first | with_reducible exact Calls.wb (HI1.out _) | with_reducible exact Calls.wb (HI2.out _))); clear hK K))); (with_reducible refine wpQuiet_nil ?_); rintro w1 ⟨⟨_, hb1⟩, rfl⟩; (try dsimp only)
            have HB2 := Lib.hid (HBl.out.trans (hb1.mono HBl.out.size))
            clear hb1 ss a0 a1 a2 d1 d2 d3 hbd
            go_wp2_with fail
            go_roundw
            case rel => exact ⟨i + 1, by go_num, by omega, HQ.out.1, HB2.out⟩
            case measure => simp [intOf]; omega
          · have HT := Lib.hid (HQ.out.2 (by first | trivial | rfl | simp))
            go_wp2_with fail
            refine wp_region_wb (by kernel_rfl) (by kernel_rfl) ?_; (repeat ((with_reducible refine wpQuiet_step ?_); intro K hK; go_simp; (try (refine ite_neg_of (by simp [undef]) ?_)); first | (with_reducible refine hK _ ?_; clear hK K) | (apply Exists.intro; (with_reducible refine ⟨fun _ => ?_, hK _ ?_⟩); (first | (go_at_call 63; first | with_reducible exact Calls.wb (HI1.out _) | with_reducible exact Calls.wb (HI2.out _))); clear hK K))); (with_reducible refine wpQuiet_nil ?_); rintro w1 ⟨⟨_, hb1⟩, rfl⟩; (try dsimp only)
            have HB2 := Lib.hid ((KI.out.step hb1).bel)
            clear hb1 ss a0 a1 a2 d1 d2 d3 hbd
            go_wp2_with fail
            go_ret2
            exact ⟨by rw [HT.out]; rfl, by first | exact HB2.out | (rw [← HG0.out]; exact HB2.out)⟩
        · have HT := Lib.hid (HQ.out.2 (by first | trivial | rfl | simp))
          go_wp2_with fail
          refine wp_region_wb (by kernel_rfl) (by kernel_rfl) ?_; (repeat ((with_reducible refine wpQuiet_step ?_); intro K hK; go_simp; (try (refine ite_neg_of (by simp [undef]) ?_)); first | (with_reducible refine hK _ ?_; clear hK K) | (apply Exists.intro; (with_reducible refine ⟨fun _ => ?_, hK _ ?_⟩); (first | (go_at_call 63; first | with_reducible exact Calls.wb (HI1.out _) | with_reducible exact Calls.wb (HI2.out _))); clear hK K))); (with_reducible refine wpQuiet_nil ?_); rintro w1 ⟨⟨_, hb1⟩, rfl⟩; (try dsimp only)
          have HB2 := Lib.hid ((KI.out.step hb1).bel)
          clear hb1 ss a0 a1 a2 d1 d2 d3 hbd
          go_wp2_with fail
          go_ret2
          exact ⟨by rw [HT.out]; rfl, by first | exact HB2.out | (rw [← HG0.out]; exact HB2.out)⟩
      · have HF := Lib.hid (show b = false from by
          have hfull : L.take i = L := List.take_of_length_le (by have := HN.out; omega)
          rw [← HB.out, ← HNo.out, hfull]; rfl)
        go_wp2_with fail
        go_ret2
        exact ⟨by rw [HF.out]; rfl, by first | exact KI.out.bel | (rw [← HG0.out]; exact KI.out.bel)⟩
  · rw [h3] at h
    rw [h4] at HA
    injection h with e1 e2
    subst e1; subst e2
    clear h3 h4
    go_enter Tryz.func24, Tryz.ntmps24
    go_wp2_with fail
    refine HA.out.mono ?_
    rintro e w1 ⟨rfl, hb1⟩
    have HB := Lib.hid (show Below w.heap.size w w1 from (below_new _).trans (hb1.mono (by simp)))
    clear hb1
    go_wp2_with fail
    go_ret2
    exact ⟨rfl, HB.out⟩

set_option maxRecDepth 100000 in
set_option maxHeartbeats 4000000 in
theorem rArea_any (v : Value) (L : List Sq) (m er : Int) (w : World) (hv : SqSl w w.heap.size v L) (hn : L.length ≤ 100000) (h : areaOut L = (m, er)) :
    Calls Tryz.prog 20 #[v] w fun e w' => e = .returned (.tuple #[.int .i64 m, .int .i64 er]) ∧ Below w.heap.size w w' := by
  have HR := Lib.hid (rValidRegion_any v L w hv hn)
  have hv' := hv
  obtain ⟨A, c, rfl, hA⟩ := hv'
  have HA := Lib.hid hA
  clear hv hA
  unfold areaOut at h
  cases hr : regB L
  · rw [hr] at HR h
    injection h with e1 e2
    subst e1; subst e2
    clear hr
    go_enter Tryz.func20, Tryz.ntmps20
    go_wp2_with fail
    refine HR.out.mono ?_
    rintro e w1 ⟨rfl, hb1⟩
    have HB := Lib.hid hb1
    clear hb1
    go_wp2_with fail
    go_ret2
    exact ⟨rfl, HB.out⟩
  · rw [hr] at HR h
    injection h with e1 e2
    subst e2
    have HO := Lib.hid e1
    have HG := Lib.hid (reg_ok hr)
    clear hr e1
    generalize hL : L.length = n at *
    have HL := Lib.hid hL
    clear hL
    go_enter Tryz.func20, Tryz.ntmps20
    go_wp2_with fail
    refine HR.out.mono ?_
    rintro e w1 ⟨rfl, hb1⟩
    have HB := Lib.hid hb1
    clear hb1
    go_wp2_with fail
    go_loopw [4, 5] (fun m k wr => ∃ i : Nat, k = .int .i64 (i : Int) ∧ m = .int .i64 (areaS (L.take i)) ∧ i ≤ n ∧ Below w.heap.size w wr) (fun _ k _ => n - (intOf k).toNat)
    case atStart => exact ⟨0, rfl, rfl, Nat.zero_le _, HB.out⟩
    case round =>
      obtain ⟨i, rfl, rfl, hin, hbel⟩ := hrel
      have HB2 := Lib.hid hbel
      clear hbel
      have hab := area_bd (L := L.take i) (fun s hs => HG.out.2 s (List.mem_of_mem_take hs))
      rw [List.length_take] at hab
      have hn4 : n ≤ 4096 := by have := HG.out.1; have := HL.out; omega
      have hab2 : 0 ≤ areaS (L.take i) ∧ areaS (L.take i) ≤ 4294967296 := by
        have := HL.out
        refine ⟨hab.1, ?_⟩
        have h1 : ((min i L.length : Nat) : Int) ≤ 4096 := by omega
        omega
      obtain ⟨hab0, hab1⟩ := hab2
      clear hab
      by_cases hlt : i < n
      · obtain ⟨s, ad, hs, hm, rfl, hb, h1, h2, h3⟩ := (HA.out.below HB2.out).at_ HL.out hlt
        have HT := Lib.hid (area_take hs)
        obtain ⟨o0, o1⟩ := area_one (HG.out.2 s hm)
        have hl := ok_l (HG.out.2 s hm)
        have hl0 : 0 ≤ s.l := hl.1
        have hl1 : s.l ≤ 10 := hl.2
        clear hs hm hl
        generalize areaS (L.take i) = m0 at *
        go_wp2_with fail
        go_roundw
        case rel => exact ⟨i + 1, by go_num, by rw [HT.out], by omega, HB2.out⟩
        case measure => simp [intOf]; omega
      · have HE := Lib.hid (show areaS (L.take i) = m by rw [List.take_of_length_le (by have := HL.out; omega)]; exact HO.out)
        go_wp2_with fail
        go_ret2
        exact ⟨by rw [HE.out]; rfl, HB2.out⟩
end Go.Proofs.YtabolonlkocopaaGreatDoor
