
/- Compose. -/
import Derived.Test.YtplpogonkfnafaaGreatNmPd
import Derived.Test.YtplpogonkfnafaaGreatNmTs
namespace Go.Proofs.YtplpogonkfnafaaGreat
open Go.RowKit Go.Nm

def Side (L : List Int) : Prop := L = [] ∨ Ver L
instance (L : List Int) : Decidable (Side L) := by unfold Side; infer_instance
theorem Side.inc {L : List Int} (h : Side L) : Inc L := by
  rcases h with rfl | h
  · exact List.Pairwise.nil
  · exact h.2.2.1
theorem Side.wide {L : List Int} (h : Side L) : ∀ z ∈ L, 1 ≤ z ∧ z ≤ 65535 := by
  rcases h with rfl | h
  · intro z hz; cases hz
  · exact h.2.2.2
set_option maxRecDepth 100000 in
set_option maxHeartbeats 4000000 in
theorem isSide_any (u : Value) (L : List Int) (w : World) (hu : InSl w w.heap.size u L) (hn : L.length ≤ 1000000) :
    Calls Tryz.prog 27 #[u] w fun e w' => e = .returned (.bool (decide (Side L))) ∧ Below w.heap.size w w' := by
  have HV := Lib.hid (isVersion_any u L w hu (by omega))
  obtain ⟨A, c, rfl, _⟩ := hu.form
  obtain ⟨n, h⟩ : ∃ n, L.length = n := ⟨_, rfl⟩
  have HS := Lib.hid (show decide (Side L) = (((n : Int) == 0) || decide (Ver L)) from by
    rw [Bool.eq_iff_iff]
    simp only [decide_eq_true_iff, Bool.or_eq_true, beq_iff_eq]
    refine or_congr_left ⟨fun e => by rw [e] at h; simp at h; omega, fun e => List.eq_nil_of_length_eq_zero (by omega)⟩)
  rw [HS.out]
  rw [h] at HV ⊢
  clear hu h HS
  by_cases h0 : n = 0
  · have hn : ((n : Int) == 0) = true := by simp; omega
    have HB0 := Lib.hid hn
    go_enter Tryz.func27, Tryz.ntmps27
    go_wp2_with fail
    go_ret
    exact ⟨by rw [HB0.out, Bool.true_or]; rfl, Below.refl _ _⟩
  · have hn : ((n : Int) == 0) = false := by simp; omega
    have HB0 := Lib.hid hn
    go_enter Tryz.func27, Tryz.ntmps27
    go_wp2_with fail
    (with_reducible refine HV.out.mono ?_)
    rintro e w1 ⟨rfl, hb⟩
    have HB := Lib.hid hb
    clear hb
    go_wp2_with fail
    go_ret
    exact ⟨by rw [HB0.out, Bool.false_or]; rfl, HB.out⟩
/-- a list of a relation is in order, and among some names -/
def gL (M l : List Int) : Bool := decide (Inc l ∧ ∀ z ∈ l, z ∈ M)
set_option maxRecDepth 100000 in
set_option maxHeartbeats 4000000 in
theorem leads1_any (u : Value) (l M : List Int) (B : Option Addr) (d : Nat) (p : Addr) (w : World) (hu : InSl w w.heap.size u l) (hm : InSl w w.heap.size (.slice B M.length d) M) (hp : w.cell? p = some (.slice B M.length d)) (hM : Inc M) (hll : l.length ≤ 1000) (hMl : M.length ≤ 1000) :
    Calls Tryz.prog 57 #[u, .pointer (some p)] w fun e w' => e = .returned (.bool (gL M l)) ∧ Below w.heap.size w w' := by
  have HI := Lib.hid (increasing_any u l w hu (by omega))
  have HA := Lib.hid (fun Y (h : Below w.heap.size w Y) => hasAll_any _ _ M l Y (hm.step h) (hu.step h) (by omega) (by omega))
  obtain ⟨A, c, rfl, _⟩ := hu.form
  have HP := Lib.hid (fun Y (h : Below w.heap.size w Y) => (h.cell (World.block_lt_of_cell? _ _ hp)).trans hp)
  by_cases hl : Inc l
  · have HG := Lib.hid (show decide (wo l M = []) = gL M l from by
      unfold gL
      rw [decide_eq_decide, wo_nil hl hM]
      exact ⟨fun h => ⟨hl, h⟩, fun h => h.2⟩)
    rw [decide_eq_true hl] at HI
    rw [HG.out] at HA
    clear hu hm hp hl hM HG
    generalize gL M l = g at *
    go_enter Tryz.func57, Tryz.ntmps57
    go_wp2_with fail
    (with_reducible refine HI.out.mono ?_)
    rintro e w1 ⟨rfl, hb⟩
    have HB := Lib.hid hb
    have hp1 := HP.out w1 hb
    have HA1 := Lib.hid (HA.out w1 hb)
    clear hb
    go_wp2_with fail
    (with_reducible refine HA1.out.mono ?_)
    rintro e w2 ⟨rfl, hb⟩
    have HB2 := Lib.hid (HB.out.trans (hb.mono HB.out.size))
    clear hb hp1
    go_wp2_with fail
    go_ret
    exact ⟨by simp, HB2.out⟩
  · have HG := Lib.hid (show gL M l = false from decide_eq_false fun h => hl h.1)
    rw [decide_eq_false hl] at HI
    rw [HG.out]
    clear hu hm hp hl hM HG HA HP
    go_enter Tryz.func57, Tryz.ntmps57
    go_wp2_with fail
    (with_reducible refine HI.out.mono ?_)
    rintro e w1 ⟨rfl, hb⟩
    have HB := Lib.hid hb
    clear hb
    go_wp2_with fail
    go_ret
    exact ⟨by simp, HB.out⟩
set_option maxRecDepth 100000 in
set_option maxHeartbeats 4000000 in
theorem every1_leads (u : Value) (l M : List Int) (B : Option Addr) (d : Nat) (p q : Addr) (w : World) (hu : InSl w w.heap.size u l) (hm : InSl w w.heap.size (.slice B M.length d) M) (hp : w.cell? p = some (.slice B M.length d)) (hq : w.cell? q = some (.func (.func 57) #[] #[.pointer (some p)])) (hM : Inc M) (hll : l.length ≤ 1000) (hMl : M.length ≤ 1000) :
    Calls Tryz.prog 55 #[u, .pointer (some q)] w fun e w' => e = .returned (.bool (!gL M l)) ∧ Below w.heap.size w w' := by
  have HI := Lib.hid (leads1_any u l M B d p w hu hm hp hM hll hMl)
  obtain ⟨A, c, rfl, _⟩ := hu.form
  clear hu hm hp hM
  generalize gL M l = g at *
  go_enter Tryz.func55, Tryz.ntmps55
  go_wp2_with fail
  (with_reducible refine HI.out.mono ?_)
  rintro e w1 ⟨rfl, hb⟩
  have HB := Lib.hid hb
  clear hb hq
  go_wp2_with fail
  go_ret
  exact ⟨rfl, HB.out⟩
set_option maxRecDepth 100000 in
set_option maxHeartbeats 4000000 in
theorem every1_names (u : Value) (l : List Int) (q : Addr) (w : World) (hu : InSl w w.heap.size u l) (hq : w.cell? q = some (.func (.func 29) #[] #[])) (hll : l.length ≤ 1000) :
    Calls Tryz.prog 55 #[u, .pointer (some q)] w fun e w' => e = .returned (.bool (!decide (Nms l))) ∧ Below w.heap.size w w' := by
  have HI := Lib.hid (areNames_any u l w hu (by omega))
  obtain ⟨A, c, rfl, _⟩ := hu.form
  clear hu
  generalize decide (Nms l) = g at *
  go_enter Tryz.func55, Tryz.ntmps55
  go_wp2_with fail
  (with_reducible refine HI.out.mono ?_)
  rintro e w1 ⟨rfl, hb⟩
  have HB := Lib.hid hb
  clear hb hq
  go_wp2_with fail
  go_ret
  exact ⟨rfl, HB.out⟩
/-- the place of the first list that doesn't hold -/
def IxP (g : List Int → Bool) (a : List (List Int)) (w : World) (e : Ending) (w' : World) : Prop := ((∃ i : Nat, e = .returned (.int .i64 (i : Int)) ∧ i ≤ 100000 ∧ a.all g = false) ∨ (e = .returned (.int .i64 (-1)) ∧ a.all g = true)) ∧ Below w.heap.size w w'
set_option maxRecDepth 100000 in
set_option maxHeartbeats 4000000 in
theorem index_gen (g : List Int → Bool) (u : Value) (a : List (List Int)) (q : Addr) (w : World) (hu : VsSl w w.heap.size u a) (hE : ∀ l (v : Value) Y, l ∈ a → Below w.heap.size w Y → InSl Y Y.heap.size v l → Calls Tryz.prog 55 #[v, .pointer (some q)] Y fun e w' => e = .returned (.bool (!g l)) ∧ Below Y.heap.size Y w') (hal : a.length ≤ 100000) :
    Calls Tryz.prog 76 #[u, .func (.func 55) #[] #[.pointer (some q)]] w (IxP g a w) := by
  have HE := Lib.hid hE
  have HU := Lib.hid hu
  obtain ⟨A, c, rfl⟩ := hu.form
  obtain ⟨n, hn⟩ : ∃ n, a.length = n := ⟨_, rfl⟩
  have HN := Lib.hid hn
  rw [hn] at HU hal ⊢
  clear hu hE hn
  go_enter Tryz.func76, Tryz.ntmps76
  go_wp2_with fail
  go_loopw [8] (fun iv wr => ∃ i : Nat, iv = .int .i64 (i : Int) ∧ i ≤ n ∧ Below w.heap.size w wr ∧ (a.take i).all g = true) (fun iv _ => n - (intOf iv).toNat)
  case atStart => exact ⟨0, rfl, by omega, Below.refl _ _, rfl⟩
  case round =>
    obtain ⟨i, rfl, hin, hb, hg⟩ := hrel
    have HB := Lib.hid hb
    have HG := Lib.hid hg
    clear hb hg
    by_cases hlt : i < n
    · obtain ⟨ad, ug, l, rfl, hbd, hl, hcg, hgS⟩ := ((HU.out.below HB.out).mono HB.out.size).at_ hlt
      obtain ⟨Ag, cg, rfl, _⟩ := hgS.form
      have HE1 := Lib.hid (HE.out l _ wr (List.mem_of_getElem? hl) HB.out hgS)
      have HL := Lib.hid hl
      clear hbd hl hgS
      go_wp2_with fail
      (with_reducible refine HE1.out.mono ?_)
      rintro e w2 ⟨rfl, hb⟩
      have HB2 := Lib.hid (HB.out.trans (hb.mono HB.out.size))
      clear hb hcg
      cases hgl : g l with
      | true =>
        have HT := Lib.hid (show (a.take (i + 1)).all g = true from by
          rw [show a.take (i + 1) = a.take i ++ [l] from by rw [List.take_add_one, HL.out]; rfl, List.all_append, HG.out]
          simp [hgl])
        clear hgl HE1
        go_wp2_with fail
        go_roundw
        case rel => exact ⟨i + 1, by go_num, by omega, HB2.out, HT.out⟩
        case measure => simp [intOf]; omega
      | false =>
        have HT := Lib.hid (show a.all g = false from by
          rw [List.all_eq_false]
          exact ⟨l, List.mem_of_getElem? HL.out, by simp [hgl]⟩)
        clear hgl HE1
        go_wp2_with fail
        go_ret
        exact ⟨.inl ⟨i, rfl, by omega, HT.out⟩, HB2.out⟩
    · obtain rfl : n = i := by omega
      have HT := Lib.hid (show a.all g = true from by have h := HG.out; rwa [show a.take n = a from List.take_of_length_le (by have := HN.out; omega)] at h)
      go_wp2_with fail
      go_ret
      exact ⟨.inr ⟨rfl, HT.out⟩, HB.out⟩
set_option maxRecDepth 100000 in
set_option maxHeartbeats 4000000 in
theorem every_gen (g : List Int → Bool) (k : Nat) (bnd : Array Value) (u : Value) (a : List (List Int)) (w : World) (hu : VsSl w w.heap.size u a)
    (hE : ∀ q l (v : Value) Y, l ∈ a → Below w.heap.size w Y → InSl Y Y.heap.size v l → Y.cell? q = some (.func (.func k) #[] bnd) → Calls Tryz.prog 55 #[v, .pointer (some q)] Y fun e w' => e = .returned (.bool (!g l)) ∧ Below Y.heap.size Y w') (hal : a.length ≤ 100000) :
    Calls Tryz.prog 28 #[u, .func (.func k) #[] bnd] w fun e w' => e = .returned (.bool (a.all g)) ∧ Below w.heap.size w w' := by
  have hb1 := below_new (w := w) (.cells #[.func (.func k) #[] bnd] 63)
  have hn1 := World.alloc_heap_new w (.cells #[.func (.func k) #[] bnd] 63)
  obtain ⟨W1, hW1⟩ : ∃ W1, w.alloc (.cells #[.func (.func k) #[] bnd] 63) = W1 := ⟨_, rfl⟩
  rw [hW1] at hb1 hn1
  have HI := Lib.hid (index_gen g u a ⟨w.heap.size, 0, none⟩ W1 ((hu.below hb1).mono hb1.size) (fun l v Y hl hY hv => hE _ l v Y hl (hb1.trans (hY.mono hb1.size)) hv ((hY.cell (p := ⟨w.heap.size, 0, none⟩) (Array.getElem?_eq_some_iff.1 hn1).1).trans (by simp [World.cell?, hn1]))) hal)
  obtain ⟨A, c, rfl⟩ := hu.form
  have HB := Lib.hid hb1
  have HW1 := Lib.hid hW1
  clear hu hE hb1 hn1 hW1
  have HC : Calls Tryz.prog 54 #[.slice A a.length c, .func (.func 55) #[] #[.pointer (some ⟨w.heap.size, 0, none⟩)]] W1 fun e w' => e = .returned (.bool (!a.all g)) ∧ Below W1.heap.size W1 w' := by
    generalize a.length = n at *
    go_enter Tryz.func54, Tryz.ntmps54
    go_wp2_with fail
    (with_reducible refine HI.out.mono ?_)
    rintro e w1 ⟨h, hb⟩
    have HB1 := Lib.hid hb
    clear hb
    rcases h with ⟨i, rfl, hi, hg⟩ | ⟨rfl, hg⟩
    · have HG := Lib.hid hg
      clear hg
      go_wp2_with fail
      go_ret
      exact ⟨by rw [HG.out]; simp, HB1.out⟩
    · have HG := Lib.hid hg
      clear hg
      go_wp2_with fail
      go_ret
      exact ⟨by rw [HG.out]; simp, HB1.out⟩
  have HC2 := Lib.hid HC
  clear HC HI
  generalize a.all g = r at *
  generalize a.length = n at *
  go_enter Tryz.func28, Tryz.ntmps28
  go_wp2_with fail
  rw [HW1.out]
  (with_reducible refine HC2.out.mono ?_)
  rintro e w1 ⟨rfl, hb⟩
  have HB1 := Lib.hid (HB.out.trans (hb.mono HB.out.size))
  clear hb
  go_wp2_with fail
  go_ret
  exact ⟨by simp, HB1.out⟩
set_option maxRecDepth 100000 in
set_option maxHeartbeats 4000000 in
theorem leadsTo_any (u v : Value) (a : List (List Int)) (M : List Int) (w : World) (hu : VsSl w w.heap.size u a) (hm : InSl w w.heap.size v M) (hM : Inc M) (ha : ∀ l ∈ a, l.length ≤ 1000) (hMl : M.length ≤ 1000) (hal : a.length ≤ 100000) :
    Calls Tryz.prog 30 #[u, v] w fun e w' => e = .returned (.bool (a.all (gL M))) ∧ Below w.heap.size w w' := by
  obtain ⟨B, d, rfl, _⟩ := hm.form
  have hb0 := below_new (w := w) (.cells #[.slice B M.length d] 58)
  have hn0 := World.alloc_heap_new w (.cells #[.slice B M.length d] 58)
  obtain ⟨W0, hW0⟩ : ∃ W0, w.alloc (.cells #[.slice B M.length d] 58) = W0 := ⟨_, rfl⟩
  rw [hW0] at hb0 hn0
  have HE := Lib.hid (every_gen (gL M) 57 #[.pointer (some ⟨w.heap.size, 0, none⟩)] u a W0 ((hu.below hb0).mono hb0.size) (fun q l v Y hl hY hv hq => every1_leads v l M B d ⟨w.heap.size, 0, none⟩ q Y hv ((hm.step hb0).step hY) ((hY.cell (p := ⟨w.heap.size, 0, none⟩) (Array.getElem?_eq_some_iff.1 hn0).1).trans (by simp [World.cell?, hn0])) hq hM (ha l hl) hMl) hal)
  obtain ⟨A, c, rfl⟩ := hu.form
  have HB := Lib.hid hb0
  have HW0 := Lib.hid hW0
  clear hu hm hM ha hb0 hn0 hW0
  generalize a.all (gL M) = r at *
  go_enter Tryz.func30, Tryz.ntmps30
  go_wp2_with fail
  rw [HW0.out]
  (with_reducible refine HE.out.mono ?_)
  rintro e w1 ⟨rfl, hb⟩
  have HB1 := Lib.hid (HB.out.trans (hb.mono HB.out.size))
  clear hb
  go_wp2_with fail
  go_ret
  exact ⟨rfl, HB1.out⟩
theorem everyNames_any (u : Value) (a : List (List Int)) (w : World) (hu : VsSl w w.heap.size u a) (ha : ∀ l ∈ a, l.length ≤ 1000) (hal : a.length ≤ 100000) :
    Calls Tryz.prog 28 #[u, .func (.func 29) #[] #[]] w fun e w' => e = .returned (.bool (a.all fun l => decide (Nms l))) ∧ Below w.heap.size w w' :=
  every_gen (fun l => decide (Nms l)) 29 #[] u a w hu (fun q l v Y hl _ hv hq => every1_names v l q Y hv hq (ha l hl)) hal
/-- to what a list of names leads -/
def LedN (M : List Int) (b : List (List Int)) (l : List Int) (y : Int) : Prop := ∃ z ∈ l, ∃ (k : Nat) (bl : List Int), M[k]? = some z ∧ b[k]? = some bl ∧ y ∈ bl
def CmN (M : List Int) (a b R : List (List Int)) : Prop := R.length = a.length ∧ ∀ (i : Nat) (l r : List Int), a[i]? = some l → R[i]? = some r → Inc r ∧ ∀ y, y ∈ r ↔ LedN M b l y
def CmOk (M : List Int) (a b : List (List Int)) : Prop := Side M ∧ b.length = M.length ∧ (b.all fun l => decide (Nms l)) = true ∧ a.length ≤ 400 ∧ a.all (gL M) = true
theorem cm_names {M : List Int} {a b R : List (List Int)} {f : Int → Int} (h : CmD f a b R) (hf : ∀ (k : Nat) (z : Int), M[k]? = some z → f z = (k : Int)) (ha : ∀ l ∈ a, ∀ z ∈ l, z ∈ M) : CmN M a b R := by
  refine ⟨h.1, fun i l r h1 h2 => ⟨(h.2 i l r h1 h2).1, fun y => ?_⟩⟩
  rw [(h.2 i l r h1 h2).2 y]
  constructor
  · rintro ⟨z, hz, k, bl, hk, hb, hy⟩
    obtain ⟨k', hk'⟩ := List.getElem?_of_mem (ha l (List.mem_of_getElem? h1) z hz)
    have := hf k' z hk'
    rw [hk] at this
    have : k = k' := by omega
    subst this
    exact ⟨z, hz, k, bl, hk', hb, hy⟩
  · rintro ⟨z, hz, k, bl, hk, hb, hy⟩
    exact ⟨z, hz, k, bl, hf k z hk, hb, hy⟩
def CmPost (M : List Int) (a b : List (List Int)) (w : World) (e : Ending) (w' : World) : Prop := (CmOk M a b ∧ ∃ R, CmN M a b R ∧ OutV R 0 w e w') ∨ (¬ CmOk M a b ∧ OutV [] 1 w e w')
set_option maxRecDepth 100000 in
set_option maxHeartbeats 8000000 in
theorem Compose_any (ua ub um : Value) (a b : List (List Int)) (M : List Int) (w : World) (hua : VsSl w w.heap.size ua a) (hub : VsSl w w.heap.size ub b) (hum : InSl w w.heap.size um M) (hal : a.length ≤ 1000) (hbl : b.length ≤ 1000) (hMl : M.length ≤ 1000) (ha : ∀ l ∈ a, l.length ≤ 1000) (hb : ∀ l ∈ b, l.length ≤ 1000) :
    Calls Tryz.prog 9 #[ua, ub, um] w (CmPost M a b w) := by
  have HSi := Lib.hid (isSide_any um M w hum (by omega))
  have HEv := Lib.hid (fun Y (h : Below w.heap.size w Y) => everyNames_any ub b Y ((hub.below h).mono h.size) hb (by omega))
  have HLe := Lib.hid (fun Y (h : Below w.heap.size w Y) (hM : Inc M) => leadsTo_any ua um a M Y ((hua.below h).mono h.size) (hum.step h) hM ha hMl (by omega))
  have HPl := Lib.hid (fun Y (h : Below w.heap.size w Y) (hM : Side M) => placesOf_big um M Y (hum.step h) hM.inc hM.wide (by omega))
  have HCo := Lib.hid (fun Y (f : Int → Int) (mb n : Nat) (Wp : World) (h : Below w.heap.size w Y) (hm : MI Wp mb n f Y) (h1 : ∀ l ∈ b, ∀ z ∈ l, 1 ≤ z ∧ z ≤ 65535) (h2 : ∀ l ∈ a, ∀ z ∈ l, (1 ≤ z ∧ z ≤ 65535) ∧ ∃ k : Nat, f z = (k : Int) ∧ k < b.length) => compose_any ua ub a b mb n f Wp Y ((hua.below h).mono h.size) ((hub.below h).mono h.size) hm hal hbl (fun l hl => ⟨hb l hl, h1 l hl⟩) (fun l hl => ⟨ha l hl, h2 l hl⟩))
  obtain ⟨Aa, ca, rfl⟩ := hua.form
  obtain ⟨Ab, cb, rfl⟩ := hub.form
  obtain ⟨Am, cm, rfl, _⟩ := hum.form
  obtain ⟨na, hna⟩ : ∃ na, a.length = na := ⟨_, rfl⟩
  obtain ⟨nb, hnb⟩ : ∃ nb, b.length = nb := ⟨_, rfl⟩
  obtain ⟨nm, hnm⟩ : ∃ nm, M.length = nm := ⟨_, rfl⟩
  have HNn := Lib.hid (And.intro hna (And.intro hnb hnm))
  rw [hna] at HLe HCo ⊢
  rw [hnb] at HEv HCo ⊢
  rw [hnm] at HSi HLe HPl ⊢
  clear hua hub hum hal hbl hMl ha hb hna hnb hnm
  go_enter Tryz.func9, Tryz.ntmps9
  go_wp2_with fail
  (with_reducible refine HSi.out.mono ?_)
  rintro e w1 ⟨rfl, hb⟩
  have HB1 := Lib.hid hb
  have HE1 := Lib.hid (HEv.out w1 hb)
  clear hb HSi
  by_cases hS : Side M
  case neg =>
    have HSn := Lib.hid hS
    rw [decide_eq_false hS]
    clear hS
    go_wp2_with fail
    go_ret2
    exact .inr ⟨fun h => HSn.out h.1, ⟨⟨_, rfl, VsSl.none _ _⟩, HB1.out⟩⟩
  case pos =>
  have HSp := Lib.hid hS
  rw [decide_eq_true hS]
  clear hS
  by_cases hbm : nb = nm
  case neg =>
    have hq : ((nb : Int) != (nm : Int)) = true := by simp; omega
    have HSn := Lib.hid hbm
    clear hbm
    go_wp2_with fail
    go_ret2
    exact .inr ⟨fun h => HSn.out (by have := h.2.1; have := HNn.out; omega), ⟨⟨_, rfl, VsSl.none _ _⟩, HB1.out⟩⟩
  case pos =>
  subst hbm
  have hq : ((nb : Int) != (nb : Int)) = false := by simp
  go_wp2_with fail
  (with_reducible refine HE1.out.mono ?_)
  rintro e w2 ⟨rfl, hb⟩
  have HB2 := Lib.hid (HB1.out.trans (hb.mono HB1.out.size))
  have HL2 := Lib.hid (HLe.out w2 HB2.out HSp.out.inc)
  clear hb HE1 HEv hq
  cases hbn : (b.all fun l => decide (Nms l)) with
  | false =>
    have HSn := Lib.hid hbn
    clear hbn
    go_wp2_with fail
    go_ret2
    exact .inr ⟨(fun h => by have := h.2.2.1; rw [HSn.out] at this; cases this), ⟨⟨_, rfl, VsSl.none _ _⟩, HB2.out⟩⟩
  | true =>
  have HBn := Lib.hid hbn
  clear hbn
  by_cases ha4 : 400 < na
  · have hai : (400 : Int) < (na : Int) := by omega
    have HSn := Lib.hid ha4
    clear ha4
    go_wp2_with fail
    go_ret2
    exact .inr ⟨fun h => by have := h.2.2.2.1; have := HNn.out; have := HSn.out; omega, ⟨⟨_, rfl, VsSl.none _ _⟩, HB2.out⟩⟩
  have hai : ¬ (400 : Int) < (na : Int) := by omega
  have HSm := Lib.hid ha4
  clear ha4
  go_wp2_with fail
  (with_reducible refine HL2.out.mono ?_)
  rintro e w3 ⟨rfl, hb⟩
  have HB3 := Lib.hid (HB2.out.trans (hb.mono HB2.out.size))
  have HP3 := Lib.hid (HPl.out w3 HB3.out HSp.out)
  clear hb HL2 HLe HPl
  cases haL : a.all (gL M) with
  | false =>
    have HSn := Lib.hid haL
    clear haL
    go_wp2_with fail
    go_ret2
    exact .inr ⟨(fun h => by have := h.2.2.2.2; rw [HSn.out] at this; cases this), ⟨⟨_, rfl, VsSl.none _ _⟩, HB3.out⟩⟩
  | true =>
  have HAl := Lib.hid haL
  clear haL
  go_wp2_with fail
  (with_reducible refine HP3.out.mono ?_)
  rintro e w4 ⟨mb, f, rfl, hpm, hb⟩
  have HB4 := Lib.hid (HB3.out.trans (hb.mono HB3.out.size))
  have HAt := Lib.hid hpm.at_
  have HMs := Lib.hid (show ∀ l ∈ a, ∀ z ∈ l, z ∈ M from fun l hl z hz => by
    have h := (List.all_eq_true.1 HAl.out) l hl
    exact (of_decide_eq_true h).2 z hz)
  have HC4 := Lib.hid (HCo.out w4 f mb _ _ HB4.out hpm.mi (fun l hl z hz => by
    have h := (List.all_eq_true.1 HBn.out) l hl
    exact (of_decide_eq_true h).2 z hz) (fun l hl z hz => by
    have hzM := HMs.out l hl z hz
    refine ⟨HSp.out.wide z hzM, ?_⟩
    obtain ⟨k, hk⟩ := List.getElem?_of_mem hzM
    exact ⟨k, HAt.out k z hk, by have := (List.getElem?_eq_some_iff.1 hk).1; have := HNn.out; omega⟩))
  clear hb hpm HP3 HCo
  go_wp2_with fail
  (with_reducible refine HC4.out.mono ?_)
  rintro e w5 ⟨⟨r, R, rfl, hr, hR⟩, hb⟩
  obtain ⟨Ar, cr, rfl⟩ := hr.form
  have HR := Lib.hid (And.intro hr (And.intro hR (HB4.out.trans (hb.mono HB4.out.size))))
  clear hr hR hb
  go_wp2_with fail
  go_ret2
  exact .inl ⟨⟨HSp.out, by have := HNn.out; omega, HBn.out, by have := HSm.out; have := HNn.out; omega, HAl.out⟩, R, cm_names HR.out.2.1 HAt.out HMs.out, ⟨⟨_, rfl, HR.out.1⟩, HR.out.2.2⟩⟩
end Go.Proofs.YtplpogonkfnafaaGreat
